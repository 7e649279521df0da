/- Parts of a proof. -/
import Derived.Laws.ResultCell
import Derived.Test.YtjmfdildnojknaaGreatKORK3
set_option maxRecDepth 100000
set_option maxHeartbeats 16000000
set_option linter.unusedVariables false
namespace Go.Proofs.YtjmfdildnojknaaGreat
open Go.RowKit
open Go.SeqMath
open Go.BatMath hiding AllB getD_lt take_all
open Go.VarMath (longB length_longB textB backB cutB getB_bounds getB cutB_no cutB_yes)
theorem cutB_le (bs : List Nat) (most : Int) : (cutB bs most).2 ≤ bs.length := by
 obtain ⟨b2, b3, b4, b5⟩ := getB_bounds bs
 by_cases h : (getB bs).2 = 0 ∨ (getB bs).1 < 0 ∨ most < (getB bs).1 ∨ (bs.length : Int) - ((getB bs).2 : Int) < (getB bs).1
 · rw [cutB_no h]; exact Nat.zero_le _
 rw [cutB_yes h]; simp only; omega
theorem resultsInner {tmps : Array Value} {B : Nat} {W : World} {b0 b1 b2 b3 : Int} {b4 : Bool} {b5 : Int} {v : Value} (h : BoxAt W B b0 b1 b2 b3 b4 b5 v) (ht : tmps.getD 2 undef = .pointer (some ⟨B, 0, none⟩)) :
 (results Tryz.f126 tmps).run Tryz.prog W = .ok (.tuple #[.agg #[.int .i64 b0, .int .i64 b1, .int .i64 b2, .int .i64 b3, .bool b4, .int .i64 b5, v], tmps.getD 3 undef]) W := by
 rw [results_cell_tmp (p := 2) (u := 3) (ty := 29) Tryz.results126, ht]
 have hl := run_loadVar_row (P := Tryz.prog) W B 29 29 _ (0, 0) _ h Tryz.underlying29 rfl (by kernel_rfl)
 simp only [asAddr, Sem.run_pure, Result.andThen, hl]
theorem boxAt_second (w : World) (o : Obj) (b0 b1 b2 b3 : Int) (b4 : Bool) (b5 : Int) (v : Value) : BoxAt (((w.alloc o).alloc (.cells #[.int .i64 b0, .int .i64 b1, .int .i64 b2, .int .i64 b3, .bool b4, .int .i64 b5, v] 29)).drew) (w.heap.size + 1) b0 b1 b2 b3 b4 b5 v := by
 have := boxAt_new (w.alloc o) b0 b1 b2 b3 b4 b5 v
 rw [show (w.alloc o).heap.size = w.heap.size + 1 by simp] at this
 exact this
structure Two (w : World) (p e s : Int) (t : Bool) (m : Int) (v : Value) (W : World) : Prop where
 bx : BoxAt W (w.heap.size + 1) 0 p e s t m v
 rs : BoxAt W w.heap.size 0 0 0 0 false 0 (.slice none 0 0)
 bel : Below w.heap.size w W
theorem Two.sz {w W : World} {p e s : Int} {t : Bool} {m : Int} {v : Value} (h : Two w p e s t m v W) : w.heap.size + 1 + 1 ≤ W.heap.size := h.bx.lt
theorem Two.drew {w W : World} {p e s : Int} {t : Bool} {m : Int} {v : Value} (h : Two w p e s t m v W) : Two w p e s t m v W.drew := ⟨h.bx, h.rs, h.bel.drew⟩
theorem Two.s1 {w W : World} {p e s : Int} {t : Bool} {m : Int} {v : Value} (h : Two w p e s t m v W) (n : Int) : Two w n e s t m v (W.setCell ⟨w.heap.size + 1, 1, none⟩ (.int .i64 n)) := ⟨h.bx.s1 n, h.rs.off (by omega) _, h.bel.setCell (Nat.le_succ _) _⟩
theorem Two.s2 {w W : World} {p e s : Int} {t : Bool} {m : Int} {v : Value} (h : Two w p e s t m v W) (n : Int) : Two w p n s t m v (W.setCell ⟨w.heap.size + 1, 2, none⟩ (.int .i64 n)) := ⟨h.bx.s2 n, h.rs.off (by omega) _, h.bel.setCell (Nat.le_succ _) _⟩
theorem Two.s3 {w W : World} {p e s : Int} {t : Bool} {m : Int} {v : Value} (h : Two w p e s t m v W) (n : Int) : Two w p e n t m v (W.setCell ⟨w.heap.size + 1, 3, none⟩ (.int .i64 n)) := ⟨h.bx.s3 n, h.rs.off (by omega) _, h.bel.setCell (Nat.le_succ _) _⟩
theorem Two.s6 {w W : World} {p e s : Int} {t : Bool} {m : Int} {v : Value} (h : Two w p e s t m v W) (n : Value) : Two w p e s t m n (W.setCell ⟨w.heap.size + 1, 6, none⟩ n) := ⟨h.bx.s6 n, h.rs.off (by omega) _, h.bel.setCell (Nat.le_succ _) _⟩
theorem Two.on {w W W' : World} {p e s : Int} {t : Bool} {m : Int} {v : Value} (h : Two w p e s t m v W) (hb : Below W.heap.size W W') : Two w p e s t m v W' := ⟨h.bx.on hb, h.rs.on hb, h.bel.trans (hb.mono h.bel.size)⟩
theorem Two.grown {w W W' : World} {p e s : Int} {t : Bool} {m : Int} {u v : Value} {l : List Rc} (h : Two w p e s t m u W) (ho : OwnRecs W (w.heap.size + 1 + 1) v l) (hg : W.grownBy W' v.ownBlock) : Two w p e s t m u W' :=
 ⟨h.bx.grown ho (by omega) hg, h.rs.grown ho (by omega) hg, Below.recs h.bel ho (by omega) h.bel.size hg⟩
theorem RecsAt.set {w : World} {base j len cap : Nat} {ad : Option Addr} {l : List Rc} {u : Value} (h : RecsAt w ad len cap l) (hb : ∀ a, ad = some a → base + 1 + 1 ≤ a.block) : RecsAt (w.setCell ⟨base, j, none⟩ u) ad len cap l := by
 refine ⟨h.length, h.fits, h.room, ?_⟩
 rcases h.cells with h0 | ⟨b, off, e, hlt, hc⟩
 · exact .inl h0
 have hne : b ≠ base := by have := hb _ e; simp only at this; omega
 have hx : ∀ i, (w.setCell ⟨base, j, none⟩ u).cell? ⟨b, i, none⟩ = w.cell? ⟨b, i, none⟩ := fun i => World.cell?_of_block (a := ⟨b, i, none⟩) (by
  show (w.heap.modify base _)[b]? = _
  rw [Array.getElem?_modify, if_neg (Ne.symm hne)])
 refine .inr ⟨b, off, e, by simpa using hlt, fun i r hi => ?_⟩
 rw [hx, hx]
 exact hc i r hi
theorem two_new (w : World) (t : Bool) (m : Int) : Two w 0 0 0 t m (.slice none 0 0) (((w.alloc (.cells #[.int .i64 0, .int .i64 0, .int .i64 0, .int .i64 0, .bool false, .int .i64 0, .slice none 0 0] 29)).alloc (.cells #[.int .i64 0, .int .i64 0, .int .i64 0, .int .i64 0, .bool t, .int .i64 m, .slice none 0 0] 29)).drew) :=
 ⟨boxAt_second _ _ _ _ _ _ _ _ _, BoxAt.keep (B := w.heap.size + 1) (boxAt_new w 0 0 0 0 false 0 (.slice none 0 0)) (((Below.refl _ _).alloc (by simp) _).drew) (by omega), ((bal _ _).alloc (by simp) _).drew⟩
def GivesInner (w : World) (x : List Nat) (e : Ending) (w' : World) : Prop :=
 ∃ (b : Bat) (ok : Bool) (ad : Option Addr) (cap : Nat), innerD x = (b, ok) ∧ e = .returned (.tuple #[.agg #[.int .i64 b.base, .int .i64 b.prod, .int .i64 b.epoch, .int .i64 b.seq, .bool b.txn, .int .i64 b.marker, .slice ad b.recs.length cap], .bool ok]) ∧
   RecsAt w' ad b.recs.length cap b.recs ∧ (∀ a, ad = some a → w.heap.size ≤ a.block) ∧ Below w.heap.size w w'
theorem gives_inner {w w' : World} {x : List Nat} {b : Bat} {ok : Bool} {ad : Option Addr} {n cap : Nat} (h : innerD x = (b, ok)) (hn : b.recs.length = n) (hr : RecsAt w' ad n cap b.recs) (hk : ∀ a, ad = some a → w.heap.size ≤ a.block) (hb : Below w.heap.size w w') :
 GivesInner w x (.returned (.tuple #[.agg #[.int .i64 b.base, .int .i64 b.prod, .int .i64 b.epoch, .int .i64 b.seq, .bool b.txn, .int .i64 b.marker, .slice ad n cap], .bool ok])) w' := by
 subst hn; exact ⟨b, ok, ad, cap, h, rfl, hr, hk, hb⟩
def InnerAt (w : World) (x : List Nat) (n : Nat) (p e s : Int) (t : Bool) (m : Int) (v6 v7 : Value) (wr : World) : Prop :=
 ∃ (j i : Nat) (l : List Rc) (v : Value), j ≤ n ∧ i ≤ x.length ∧ v7 = .int .i64 j ∧ v6 = .int .i64 i ∧ l.length = j ∧ OwnRecs wr (w.heap.size + 1 + 1) v l ∧
   recsD n x 20 = (recsD (n - j) x i).map (fun q => (l ++ q.1, q.2)) ∧ Two w p e s t m v wr
theorem map_nil_app (o : Option (List Rc × Nat)) : o = o.map (fun q => ([] ++ q.1, q.2)) := by cases o <;> rfl
theorem innerAt_start {w W : World} {x : List Nat} {n : Nat} {p e s : Int} {t : Bool} {m : Int} (hx : 20 ≤ x.length) (h : Two w p e s t m (.slice none 0 0) W) : InnerAt w x n p e s t m (.int .i64 20) (.int .i64 0) W :=
 ⟨0, 20, [], _, Nat.zero_le _, hx, rfl, rfl, rfl, ownRecs_nil _ _, map_nil_app _, h⟩
theorem inner_any (w : World) (ad : Option Addr) (len cap : Nat) (x : List Nat) (h : Byt w ad len cap x) (hL : len ≤ 4096) :
 Calls Tryz.prog 126 #[.slice ad len cap] w (GivesInner w x) := by
 have hxl := h.length
 by_cases h20 : len < 20
 · have hin : Hid (innerD x = (Bat.zero, false)) := by
    show innerD x = _
    unfold innerD
    rw [if_pos (by omega)]
   have hd : decide ((len : Int) < 20) = true := by simp; omega
   clear h hxl
   go_enter Tryz.func126, Tryz.ntmps126
   go_wp2
   exact bodyPost_ret (resultsInner (boxAt_new w 0 0 0 0 false 0 (.slice none 0 0)) rfl) rfl (gives_inner hin.out rfl (recsAt_nil _) (fun a h => by cases h) (bal _ _))
 have h20' : 20 ≤ len := by omega
 obtain ⟨bx, ox, rfl, hcell⟩ := h.get (by omega)
 have g0 := getD_all h.all 0
 have g9 := getD_all h.all 9
 have g10 := getD_all h.all 10
 have g19 := getD_all h.all 19
 have hc0 := hcell 0 (by omega)
 have hc9 := hcell 9 (by omega)
 have hc10 := hcell 10 (by omega)
 have hc19 := hcell 19 (by omega)
 rw [Nat.add_zero] at hc0
 have hbx : bx < w.heap.size := World.block_lt_of_cell? _ _ hc0
 have hin : Hid (innerD x = innerOf (recsD (x.getD 19 0) x 20) (backB (x.drop 1)).1 (epD (x.getD 9 0 * 256 + x.getD 10 0)) (backB (x.drop 11)).1 (decide (x.getD 0 0 % 2 = 1)) ((x.getD 0 0 / 2 : Nat) : Int) x.length) := by
  show innerD x = _
  unfold innerD
  rw [if_neg (by omega)]
 obtain ⟨x0, hx0⟩ := exq (x.getD 0 0)
 obtain ⟨x9, hx9⟩ := exq (x.getD 9 0)
 obtain ⟨x10, hx10⟩ := exq (x.getD 10 0)
 obtain ⟨n, hn⟩ := exq (x.getD 19 0)
 obtain ⟨o1, k1, hs1, hB1⟩ := from_lit h 1 1 rfl (by omega)
 obtain ⟨o11, k11, hs11, hB11⟩ := from_lit h 11 11 rfl (by omega)
 obtain ⟨p, hp⟩ : ∃ p, p = (backB (x.drop 1)).1 := ⟨_, rfl⟩
 obtain ⟨s, hs⟩ : ∃ p, p = (backB (x.drop 11)).1 := ⟨_, rfl⟩
 obtain ⟨po, hpo⟩ : ∃ p, p = (backB (x.drop 1)).2 := ⟨_, rfl⟩
 obtain ⟨so, hso⟩ : ∃ p, p = (backB (x.drop 11)).2 := ⟨_, rfl⟩
 have CB1 : Hid (∀ W, Below w.heap.size w W → Calls Tryz.prog 127 #[.slice (some ⟨bx, o1, none⟩) (len - 1) k1] W fun e w' => e = .returned (.tuple #[.int .i64 p, .bool po]) ∧ W = w') := by
  intro W hW
  have := refBack_any W _ _ _ _ (hB1.keep hW (Nat.le_refl _)) (by omega)
  unfold GivesBack at this
  rw [← hp, ← hpo] at this
  exact this
 have CB11 : Hid (∀ W, Below w.heap.size w W → Calls Tryz.prog 127 #[.slice (some ⟨bx, o11, none⟩) (len - 11) k11] W fun e w' => e = .returned (.tuple #[.int .i64 s, .bool so]) ∧ W = w') := by
  intro W hW
  have := refBack_any W _ _ _ _ (hB11.keep hW (Nat.le_refl _)) (by omega)
  unfold GivesBack at this
  rw [← hs, ← hso] at this
  exact this
 rw [← hx0, ← hx9, ← hx10, ← hn, ← hp, ← hs] at hin
 rw [← hx0] at hc0 g0
 rw [← hx9] at hc9 g9
 rw [← hx10] at hc10 g10
 rw [← hn] at hc19 g19
 have hlow : bits .and .u8 (x0 : Int) 1 = ((x0 % 2 : Nat) : Int) := u8_low x0 g0
 obtain ⟨tx, htx⟩ : ∃ tx, (bits .and .u8 (x0 : Int) 1 == 1) = tx := ⟨_, rfl⟩
 have htx2 : Hid (decide (x0 % 2 = 1) = tx) := by
  show decide _ = tx
  rw [← htx, hlow]
  by_cases h1 : x0 % 2 = 1
  · rw [h1]; rfl
  have : x0 % 2 = 0 := by omega
  rw [this]; rfl
 have hor : bits .or .i64 ((x9 : Int) * 256) (x10 : Int) = ((x9 * 256 + x10 : Nat) : Int) := by
  have := i64_or 8 (x9 * 256) x10 (by omega) (by omega) (by omega)
  rw [← this]
  rfl
 obtain ⟨ep, hep⟩ := exq (x9 * 256 + x10)
 rw [← hep] at hor hin
 obtain ⟨m2, hm2'⟩ := exq (x0 / 2)
 have hm2 : (x0 : Int) / 2 = (m2 : Int) := by omega
 rw [← hm2'] at hin
 have hep6 : ep < 65536 := by omega
 have HX := qh h
 have HXL := qh hxl
 clear h hxl hcell hx0 hx9 hx10 hn hB1 hB11 hp hs hpo hso hlow hep hm2'
 have hd : decide ((len : Int) < 20) = false := by simp; omega
 have HC9 := qh hc9
 have HC10 := qh hc10
 have HC19 := qh hc19
 clear hc9 hc10 hc19
 go_enter Tryz.func126, Tryz.ntmps126
 go_upto_region 4 with fail
 go_cut [] from 16 (fun wx => Hid (Two w 0 0 0 tx (m2 : Int) (.slice none 0 0) wx))
 case first =>
  go_region
  go_wp2
  go_meet
  case rel => exact two_new w tx (m2 : Int)
 case rest =>
  have HT1 := hcut
  clear hc0
  have hk1 := HT1.out.bx.c1
  have hf1 := HT1.out.bx.free 1
  have HB1 := qh HT1.out.bel
  have hsl1 := hs1
  go_wp2_with fail
  refine (CB1.out _ HB1.out).mono ?_
  rintro e w' ⟨rfl, rfl⟩
  go_upto_region 6 with fail
  obtain ⟨W2, hW2⟩ := exq (wc.setCell ⟨w.heap.size + 1, 1, none⟩ (.int .i64 p))
  have HT2 : Hid (Two w p 0 0 tx (m2 : Int) (.slice none 0 0) W2) := by rw [hW2]; exact HT1.out.s1 p
  rw [← hW2]
  clear hk1 hf1 hsl1 hW2
  have hk2 := HT2.out.bx.c2
  have hf2 := HT2.out.bx.free 2
  have hx9 : W2.cell? ⟨bx, ox + 9, none⟩ = some (.int .u8 (x9 : Int)) := (HT2.out.bel.cell (p := ⟨bx, _, none⟩) hbx).trans HC9.out
  have hx10 : W2.cell? ⟨bx, ox + 10, none⟩ = some (.int .u8 (x10 : Int)) := (HT2.out.bel.cell (p := ⟨bx, _, none⟩) hbx).trans HC10.out
  go_cut [] from 35 (fun wx => Hid (Two w p (ep : Int) 0 tx (m2 : Int) (.slice none 0 0) wx))
  case first =>
   go_region
   go_wp2
   go_meet
   case rel => exact HT2.out.drew.s2 _
  case rest =>
   have HT3 := hcut
   clear hk2 hf2 hx9 hx10
   have hk2 := HT3.out.bx.c2
   have hf2 := HT3.out.bx.free 2
   go_upto_if 48 with (fail)
   go_cut [] from 46 (fun wx => Hid (Two w p (epD ep) 0 tx (m2 : Int) (.slice none 0 0) wx))
   case first =>
    by_cases he : ep = 65535
    · subst he
      go_wp2
      go_meet
      case rel => exact HT3.out.s2 (-1)
    have he1 : ((ep : Int) == 65535) = false := by simp; omega
    have he2 : Hid (epD ep = (ep : Int)) := by show epD ep = _; unfold epD; rw [if_neg he]
    clear he
    go_wp2
    go_meet
    case rel =>
     rw [he2.out]
     exact HT3
   case rest =>
    have HT4 := hcut
    clear hk2 hf2
    have hk3 := HT4.out.bx.c3
    have hf3 := HT4.out.bx.free 3
    have HB4 := qh HT4.out.bel
    have hsl1 := hs11
    go_wp2_with fail
    refine (CB11.out _ HB4.out).mono ?_
    rintro e w' ⟨rfl, rfl⟩
    go_upto_region 10 with fail
    obtain ⟨W5, hW5⟩ := exq (wc.setCell ⟨w.heap.size + 1, 3, none⟩ (.int .i64 s))
    have HT5 : Hid (Two w p (epD ep) s tx (m2 : Int) (.slice none 0 0) W5) := by rw [hW5]; exact HT4.out.s3 s
    rw [← hW5]
    clear hk3 hf3 hsl1 hW5
    have hx19 : W5.cell? ⟨bx, ox + 19, none⟩ = some (.int .u8 (n : Int)) := (HT5.out.bel.cell (p := ⟨bx, _, none⟩) hbx).trans HC19.out
    go_wp2_with fail
    clear hx19
    go_loopw [6, 7] (fun v6 v7 wr => InnerAt w x n p (epD ep) s tx (m2 : Int) v6 v7 wr) (fun _ v7 _ => n - (intOf v7).toNat)
    case atStart => exact innerAt_start (by rw [HXL.out]; exact h20') HT5.out
    obtain ⟨j, i, l, v, hj, hi, rfl, rfl, hl, hown, hdec, htwo⟩ := hrel
    rw [HXL.out] at hi
    have HLJ := qh hl
    have HO := qh hown
    have HD := qh hdec
    have HT := qh htwo
    clear hl hown hdec htwo
    by_cases hlt : j < n
    rotate_left
    · obtain rfl : j = n := by omega
      obtain ⟨ad', cap', rfl, hrecs, hblk⟩ := HO.out.at
      have HREC := qh hrecs
      have HBLK := qh hblk
      have HDD : Hid (innerD x = (⟨0, p, epD ep, s, tx, (m2 : Int), l⟩, decide (i = len))) := by
       show innerD x = _
       rw [hin.out, htx2.out, HD.out, Nat.sub_self, HXL.out]
       simp [recsD, innerOf]
      clear hrecs hblk hlt
      rw [HLJ.out] at HREC
      have r0 := HT.out.rs.c0
      have q0 := HT.out.rs.free 0
      have r1 := HT.out.rs.c1
      have q1 := HT.out.rs.free 1
      have r2 := HT.out.rs.c2
      have q2 := HT.out.rs.free 2
      have r3 := HT.out.rs.c3
      have q3 := HT.out.rs.free 3
      have r4 := HT.out.rs.c4
      have q4 := HT.out.rs.free 4
      have r5 := HT.out.rs.c5
      have q5 := HT.out.rs.free 5
      have r6 := HT.out.rs.c6
      have q6 := HT.out.rs.free 6
      obtain ⟨p0, p1, p2, p3, p4, p5, p6⟩ := HT.out.bx.cs
      by_cases hend : i = len
      · subst hend
        have HD2 : Hid (innerD x = (⟨0, p, epD ep, s, tx, (m2 : Int), l⟩, true)) := by show _ = _; rw [HDD.out]; simp
        rw [HLJ.out] at p6
        go_wp2
        exact bodyPost_ret (resultsInner (((((((HT.out.rs.s0 0).s1 p).s2 (epD ep)).s3 s).s4 tx).s5 (m2 : Int)).s6 (.slice ad' j cap')) rfl) rfl (gives_inner HD2.out HLJ.out (((((((HREC.out.set HBLK.out).set HBLK.out).set HBLK.out).set HBLK.out).set HBLK.out).set HBLK.out).set HBLK.out) (fun a h => by have := HBLK.out a h; omega) (((((((HT.out.bel.setCell (Nat.le_refl _) _).setCell (Nat.le_refl _) _).setCell (Nat.le_refl _) _).setCell (Nat.le_refl _) _).setCell (Nat.le_refl _) _).setCell (Nat.le_refl _) _).setCell (Nat.le_refl _) _))
      have hib : ((i : Int) == (len : Int)) = false := by simp; omega
      have HD2 : Hid (innerD x = (⟨0, p, epD ep, s, tx, (m2 : Int), l⟩, false)) := by show _ = _; rw [HDD.out, decide_eq_false hend]
      rw [HLJ.out] at p6
      go_wp2
      exact bodyPost_ret (resultsInner (((((((HT.out.rs.s0 0).s1 p).s2 (epD ep)).s3 s).s4 tx).s5 (m2 : Int)).s6 (.slice ad' j cap')) rfl) rfl (gives_inner HD2.out HLJ.out (((((((HREC.out.set HBLK.out).set HBLK.out).set HBLK.out).set HBLK.out).set HBLK.out).set HBLK.out).set HBLK.out) (fun a h => by have := HBLK.out a h; omega) (((((((HT.out.bel.setCell (Nat.le_refl _) _).setCell (Nat.le_refl _) _).setCell (Nat.le_refl _) _).setCell (Nat.le_refl _) _).setCell (Nat.le_refl _) _).setCell (Nat.le_refl _) _).setCell (Nat.le_refl _) _))
    obtain ⟨o, c, hsl1, hB1⟩ := from_lit HX.out i (i : Int) rfl hi
    obtain ⟨a, ha⟩ : ∃ a, a = (cutB (x.drop i) (len : Int)).1 := ⟨_, rfl⟩
    obtain ⟨k, hk⟩ : ∃ a, a = (cutB (x.drop i) (len : Int)).2 := ⟨_, rfl⟩
    have hkl : k ≤ len - i := by
     have := cutB_le (x.drop i) (len : Int)
     rw [List.length_drop, HXL.out, ← hk] at this
     exact this
    have hik : i + k ≤ len := by omega
    obtain ⟨o2, c2, hsl2, hB2⟩ := from_lit HX.out (i + k) ((i : Int) + (k : Int)) (by omega) hik
    obtain ⟨a2, ha2⟩ : ∃ a, a = (cutB (x.drop (i + k)) (len : Int)).1 := ⟨_, rfl⟩
    obtain ⟨k2, hk2⟩ : ∃ a, a = (cutB (x.drop (i + k)) (len : Int)).2 := ⟨_, rfl⟩
    have hk2l : i + k + k2 ≤ len := by
     have := cutB_le (x.drop (i + k)) (len : Int)
     rw [List.length_drop, HXL.out, ← hk2] at this
     omega
    obtain ⟨s1, hs1'⟩ := exq (sb a)
    obtain ⟨s2, hs2'⟩ := exq (sb a2)
    have C1 : Hid (∀ W, Below w.heap.size w W → Calls Tryz.prog 145 #[.slice (some ⟨bx, o, none⟩) (len - i) c, .int .i64 (len : Int)] W fun e w' => e = .returned (.tuple #[.string s1, .int .i64 (k : Int)]) ∧ Below W.heap.size W w') := by
     intro W hW
     have := refCut_any W _ _ _ _ (len : Int) (hB1.keep hW (Nat.le_refl _)) (by omega) (by omega) (by omega)
     unfold GivesCut at this
     rw [← ha, ← hk] at this
     rw [hs1']
     exact this
    have C2 : Hid (∀ W, Below w.heap.size w W → Calls Tryz.prog 145 #[.slice (some ⟨bx, o2, none⟩) (len - (i + k)) c2, .int .i64 (len : Int)] W fun e w' => e = .returned (.tuple #[.string s2, .int .i64 (k2 : Int)]) ∧ Below W.heap.size W w') := by
     intro W hW
     have := refCut_any W _ _ _ _ (len : Int) (hB2.keep hW (Nat.le_refl _)) (by omega) (by omega) (by omega)
     unfold GivesCut at this
     rw [← ha2, ← hk2] at this
     rw [hs2']
     exact this
    have hcut1 : cutB (x.drop i) (x.length : Int) = (a, k) := by rw [HXL.out, ha, hk]
    have hcut2 : cutB (x.drop (i + k)) (x.length : Int) = (a2, k2) := by rw [HXL.out, ha2, hk2]
    have hnj : n - j = n - (j + 1) + 1 := by omega
    have HFELL : Hid (k = 0 ∨ k2 = 0 → recsD n x 20 = none) := by
     intro hh
     rw [HD.out, hnj, recsD_fell hcut1 hcut2 hh]
     rfl
    have HSTEP : Hid (k ≠ 0 → k2 ≠ 0 → recsD n x 20 = (recsD (n - (j + 1)) x (i + k + k2)).map (fun q => ((l ++ [⟨s1, s2⟩]) ++ q.1, q.2))) := by
     intro h1 h2
     rw [HD.out, hnj, recsD_step hcut1 hcut2 h1 h2, hs1', hs2']
     cases recsD (n - (j + 1)) x (i + k + k2)
     · rfl
     simp
    clear hB1 hB2 ha hk ha2 hk2 hs1' hs2' hcut1 hcut2 hnj hkl
    go_wp2_with fail
    refine (C1.out _ HT.out.bel).mono ?_
    rintro e w1 ⟨rfl, hb1⟩
    have HT1 := qh (HT.out.on hb1)
    have HO1 := qh (HO.out.on hb1)
    clear hb1
    go_wp2_with fail
    refine (C2.out _ HT1.out.bel).mono ?_
    rintro e w2 ⟨rfl, hb2⟩
    have HT2 := qh (HT1.out.on hb2)
    have HO2 := qh (HO1.out.on hb2)
    clear hb2 hsl1 hsl2
    by_cases hz : k = 0 ∨ k2 = 0
    · have HI0 : Hid (innerD x = (Bat.zero, false)) := by show innerD x = _; rw [hin.out, HFELL.out hz]; rfl
      have r0 := HT2.out.rs.c0
      have q0 := HT2.out.rs.free 0
      have r1 := HT2.out.rs.c1
      have q1 := HT2.out.rs.free 1
      have r2 := HT2.out.rs.c2
      have q2 := HT2.out.rs.free 2
      have r3 := HT2.out.rs.c3
      have q3 := HT2.out.rs.free 3
      have r4 := HT2.out.rs.c4
      have q4 := HT2.out.rs.free 4
      have r5 := HT2.out.rs.c5
      have q5 := HT2.out.rs.free 5
      have r6 := HT2.out.rs.c6
      have q6 := HT2.out.rs.free 6
      rcases Nat.eq_zero_or_pos k with hk0 | hk0
      · subst hk0
        clear hz
        go_wp2
        exact bodyPost_ret (resultsInner (((((((HT2.out.rs.s0 0).s1 0).s2 0).s3 0).s4 false).s5 0).s6 (.slice none 0 0)) rfl) rfl (gives_inner HI0.out rfl (recsAt_nil _) (fun a h => by cases h) (((((((HT2.out.bel.setCell (Nat.le_refl _) _).setCell (Nat.le_refl _) _).setCell (Nat.le_refl _) _).setCell (Nat.le_refl _) _).setCell (Nat.le_refl _) _).setCell (Nat.le_refl _) _).setCell (Nat.le_refl _) _))
      have hk20 : k2 = 0 := by omega
      subst hk20
      clear hz
      have hkb : ((k : Int) == 0) = false := by simp; omega
      go_wp2
      exact bodyPost_ret (resultsInner (((((((HT2.out.rs.s0 0).s1 0).s2 0).s3 0).s4 false).s5 0).s6 (.slice none 0 0)) rfl) rfl (gives_inner HI0.out rfl (recsAt_nil _) (fun a h => by cases h) (((((((HT2.out.bel.setCell (Nat.le_refl _) _).setCell (Nat.le_refl _) _).setCell (Nat.le_refl _) _).setCell (Nat.le_refl _) _).setCell (Nat.le_refl _) _).setCell (Nat.le_refl _) _).setCell (Nat.le_refl _) _))
    have hk1 : ((k : Int) == 0) = false := by simp; omega
    have hk2 : ((k2 : Int) == 0) = false := by simp; omega
    have HSTEP2 := qh (HSTEP.out (by omega) (by omega))
    have p6 := HT2.out.bx.c6
    clear hz
    go_wp2_with (at_builtin; refine list_recs (by rfl) (.tmp 94) (.tmp 98) rfl (w.heap.size + 1 + 1) l [⟨s1, s2⟩] _ rfl (HO2.out.on (bal _ _)) (by have := HT2.out.sz; simp; omega) ⟨w2.heap.size, 0, none⟩ 1 1 rfl rfl (recNews_lit w2 s1 s2 _ rfl) (by have := HLJ.out; omega) ?_)
    intro v' w3 ho3 hg3
    have HT3 := qh ((HT2.out.on (bal _ _)).grown (HO2.out.on (bal _ _)) hg3)
    obtain ⟨ad3, cap3, hv3, _, _⟩ := ho3.at
    obtain ⟨nl, hnl⟩ : ∃ nl, nl = (l ++ [(⟨s1, s2⟩ : Rc)]).length := ⟨_, rfl⟩
    rw [← hnl] at hv3
    subst hv3
    clear hnl
    have HO3 := qh ho3
    have p6' := HT3.out.bx.c6
    have f6 := HT3.out.bx.free 6
    have HLL : Hid ((l ++ [(⟨s1, s2⟩ : Rc)]).length = j + 1) := by show _ = _; rw [List.length_append, HLJ.out]; rfl
    have HIX : Hid (i + k + k2 ≤ x.length) := by show _ ≤ _; rw [HXL.out]; exact hk2l
    clear ho3 hg3 p6
    go_wp2
    go_roundw
    case rel => exact ⟨j + 1, i + k + k2, _, _, hlt, HIX.out, by go_num, by go_num, HLL.out, HO3.out.set (by omega), HSTEP2.out, HT3.out.s6 _⟩
    simp [intOf]; omega
end Go.Proofs.YtjmfdildnojknaaGreat
namespace Go.Proofs.YtjmfdildnojknaaGreat
open Go.RowKit
open Go.CrcMath hiding AllB
theorem xorc (c b : Nat) (hc : c < 4294967296) (hb : b < 256) : bits .xor .u32 (c : Int) (b : Int) = ((c ^^^ b : Nat) : Int) := u32_xor_nat c b hc (by omega)
theorem and1 (d : Nat) (h : d < 4294967296) : bits .and .u32 (d : Int) 1 = ((d % 2 : Nat) : Int) := by
 have := u32_and_nat d 1 h (by omega)
 rw [nat_mask1] at this
 exact this
theorem xorp (d : Nat) (h : d < 4294967296) : bits .xor .u32 ((d : Int) / 2) 2197175160 = ((d / 2 ^^^ poly : Nat) : Int) := by
 have := u32_xor_nat (d / 2) 2197175160 (by omega) (by omega)
 exact this
theorem bstep_odd (d : Nat) (h : d % 2 = 1) : bstep d = d / 2 ^^^ poly := if_pos h
theorem bstep_even (d : Nat) (h : ¬ d % 2 = 1) : bstep d = d / 2 := if_neg h
theorem u32_eq {a b : Int} (h : a = b) : Value.int .u32 a = Value.int .u32 b := by rw [h]
theorem ret_u32 {a b : Int} (h : a = b) : Ending.returned (.int .u32 a) = .returned (.int .u32 b) := by rw [h]
theorem cplc (c : Nat) (h : c < 4294967296) : bits .xor .u32 IntKind.u32.max (c : Int) = ((cpl c : Nat) : Int) := by
 have e : IntKind.u32.max = ((full : Nat) : Int) := by decide
 rw [e, u32_xor_nat full c full_lt h, cpl_eq]
theorem usig : IntKind.u32.signed = false := rfl
theorem xor00 : bits .xor .u32 IntKind.u32.max 4294967295 = 0 := by decide
theorem run_next (c : Nat) (bs : List Nat) (k : Nat) (h : k < bs.length) : run c (bs.take (k + 1)) = nxt (run c (bs.take k)) (bs.getD k 0) := by
 rw [List.take_succ_eq_append_getElem h, run_snoc, List.getD_eq_getElem?_getD, List.getElem?_eq_getElem h]; rfl
theorem next_any (c b : Nat) (w : World) (hc : c < 4294967296) (hb : b < 256) :
 Calls Tryz.prog 168 #[.int .u32 c, .int .u8 b] w fun e w' => e = .returned (.int .u32 (nxt c b : Nat)) ∧ w = w' := by
 have hx := xorc c b hc hb
 obtain ⟨x, hxe⟩ := exq (c ^^^ b)
 have hxl : x < 4294967296 := by rw [hxe]; exact xor_lt hc (by omega)
 rw [← hxe] at hx
 have HX : Hid (x = c ^^^ b) := hxe
 clear hxe
 go_enter Tryz.func168, Tryz.ntmps168
 go_wp2
 go_loop [0, 10] (fun s i => ∃ k : Nat, k ≤ 8 ∧ i = .int .i64 k ∧ s = .int .u32 (bsteps k x : Nat)) (fun _ i => (8 - intOf i).toNat)
 case atStart => exact ⟨0, by omega, rfl, rfl⟩
 obtain ⟨k, hk, rfl, rfl⟩ := hrel
 have hl := bsteps_lt hxl k
 obtain ⟨d, hd⟩ := exq (bsteps k x)
 rw [← hd] at hl ⊢
 have HD : Hid (d = bsteps k x) := hd
 clear hd hx
 have h1 := and1 d hl
 have h2 := xorp d hl
 by_cases hlt : k < 8
 rotate_left
 · have E : Hid (d = nxt c b) := by
    have : k = 8 := by omega
    subst this
    show d = bsteps 8 (c ^^^ b)
    rw [HD.out, HX.out]
   go_wp2
   go_ret
   exact ⟨ret_u32 (by rw [E.out]), rfl⟩
 by_cases ho : d % 2 = 1
 · have hb1 : (((d % 2 : Nat) : Int) == 1) = true := by simp; omega
   have S : Hid (bsteps (k + 1) x = d / 2 ^^^ poly) := by show bstep (bsteps k x) = _; rw [← HD.out]; exact bstep_odd d ho
   clear ho
   go_wp2
   go_round
   case rel => exact ⟨k + 1, by omega, by go_num, by rw [S.out]⟩
   simp [intOf]; omega
 have hb1 : (((d % 2 : Nat) : Int) == 1) = false := by simp; omega
 have S : Hid (bsteps (k + 1) x = d / 2) := by show bstep (bsteps k x) = _; rw [← HD.out]; exact bstep_even d ho
 clear ho
 go_wp2
 go_round
 case rel => exact ⟨k + 1, by omega, by go_num, by rw [S.out]; exact u32_eq (by omega)⟩
 simp [intOf]; omega
theorem of_any (w : World) (ad : Option Addr) (len cap : Nat) (bs : List Nat) (h : Byt w ad len cap bs) (hL : len ≤ 140737488355328) :
 Calls Tryz.prog 147 #[.slice ad len cap] w fun e w' => e = .returned (.int .u32 (ofB bs : Nat)) ∧ w = w' := by
 obtain ⟨hlen, hfit, hall, hcs⟩ := h
 rcases hcs with h0 | ⟨b, off, rfl, hcell⟩
 · subst h0
   obtain rfl : bs = [] := by simpa using hlen
   have E : Hid (ofB [] = 0) := by show _ = _; decide
   clear hlen hfit hall
   have hcp := xor00
   have hsg := usig
   go_enter Tryz.func147, Tryz.ntmps147
   go_wp2
   refine wp_loop_rounds 1 ?_
   rw [rounds_succ]
   go_wp2
   go_ret
   exact ⟨ret_u32 (by rw [E.out]; rfl), rfl⟩
 have hmx : ∀ k, run full (bs.take k) < 4294967296 := fun k => run_lt _ _ full_lt (take_all hall k)
 have HM := qh hmx
 have HC := qh hcell
 have HA := qh hall
 have HL := qh hlen
 clear hmx hcell hall hlen
 go_enter Tryz.func147, Tryz.ntmps147
 go_wp2
 go_loop [3, 8] (fun s i => ∃ k : Nat, k ≤ len ∧ i = .int .i64 k ∧ s = .int .u32 (run full (bs.take k) : Nat)) (fun _ i => len - (intOf i).toNat)
 case atStart => exact ⟨0, by omega, rfl, rfl⟩
 obtain ⟨k, hk, rfl, rfl⟩ := hrel
 have hl := HM.out k
 obtain ⟨d, hd⟩ := exq (run full (bs.take k))
 rw [← hd] at hl ⊢
 have HD : Hid (d = run full (bs.take k)) := hd
 clear hd
 by_cases hlt : k < len
 · have hc := HC.out k hlt
   have hx8 := getD_all HA.out k
   obtain ⟨x, hx⟩ := exq (bs.getD k 0)
   rw [← hx] at hc hx8
   have S : Hid (run full (bs.take (k + 1)) = nxt d x) := by
    show _ = _
    rw [run_next _ _ _ (by rw [HL.out]; exact hlt), ← HD.out, ← hx]
   clear hx
   go_wp2_with (go_at_call 168; refine (next_any _ _ _ hl hx8).mono ?_; rintro e w' ⟨rfl, rfl⟩)
   go_round
   case rel => exact ⟨k + 1, by omega, by go_num, by rw [S.out]⟩
   simp [intOf]; omega
 have hcp := cplc d hl
 have hsg := usig
 have E : Hid (cpl d = ofB bs) := by
  show _ = _
  rw [HD.out, List.take_of_length_le (by rw [HL.out]; omega)]; rfl
 go_wp2
 go_ret
 exact ⟨ret_u32 (by rw [E.out]), rfl⟩
theorem or_join (i d e : Nat) (hd : d < 2 ^ i) (h : e * 2 ^ i + d < 4294967296) : bits .or .u32 (d : Int) ((e * 2 ^ i : Nat) : Int) = ((d + e * 2 ^ i : Nat) : Int) := by
 rw [u32_or_nat d (e * 2 ^ i) (by omega) (by omega), Nat.or_comm, nat_join i (e * 2 ^ i) d (Nat.mul_mod_left _ _) hd, Nat.add_comm]
theorem or0 (x : Nat) (h : x < 256) : bits .or .u32 0 (x : Int) = (x : Int) := by
 have := u32_or_nat 0 x (by omega) (by omega)
 rw [Nat.zero_or] at this
 exact this
theorem or8 (d e : Nat) (hd : d < 256) (he : e < 256) : bits .or .u32 (d : Int) ((e : Int) * 256) = ((d + e * 256 : Nat) : Int) := or_join 8 d e hd (by omega)
theorem or16 (d e : Nat) (hd : d < 65536) (he : e < 256) : bits .or .u32 (d : Int) ((e : Int) * 65536) = ((d + e * 65536 : Nat) : Int) := or_join 16 d e hd (by omega)
theorem or24 (d e : Nat) (hd : d < 16777216) (he : e < 256) : bits .or .u32 (d : Int) ((e : Int) * 16777216) = ((d + e * 16777216 : Nat) : Int) := or_join 24 d e hd (by omega)
theorem stored_any (w : World) (b off len cap : Nat) (x0 x1 x2 x3 : Nat) (h4 : 4 ≤ len) (hL : len ≤ 140737488355328)
 (c0 : w.cell? ⟨b, off, none⟩ = some (.int .u8 x0)) (c1 : w.cell? ⟨b, off + 1, none⟩ = some (.int .u8 x1)) (c2 : w.cell? ⟨b, off + 2, none⟩ = some (.int .u8 x2)) (c3 : w.cell? ⟨b, off + 3, none⟩ = some (.int .u8 x3))
 (h0 : x0 < 256) (h1 : x1 < 256) (h2 : x2 < 256) (h3 : x3 < 256) :
 Calls Tryz.prog 146 #[.slice (some ⟨b, off, none⟩) len cap] w fun e w' => e = .returned (.int .u32 (unl [x0, x1, x2, x3] : Nat)) ∧ w = w' := by
 go_enter Tryz.func146, Tryz.ntmps146
 go_wp2
 refine wp_loop_rounds 5 ?_
 rw [rounds_succ]
 go_wp2
 rw [rounds_succ]
 go_wp2
 rw [rounds_succ]
 go_wp2
 rw [rounds_succ]
 go_wp2
 rw [rounds_succ]
 go_wp2
 go_ret
 refine ⟨ret_u32 ?_, rfl⟩
 rw [or0 x0 h0, or8 x0 x1 h0 h1, or16 _ x2 (by omega) h2, or24 _ x3 (by omega) h3]
 simp only [unl]
 omega
theorem check_short (w : World) (ad : Option Addr) (len cap : Nat) (bs : List Nat) (h : Byt w ad len cap bs) (h4 : len < 4) :
 Calls Tryz.prog 128 #[.slice ad len cap] w fun e w' => e = .returned (.tuple #[.slice none 0 0, .bool false]) ∧ ∃ n, w' = w.drewN n := by
 have hd : decide ((len : Int) < 4) = true := by simp; omega
 go_enter Tryz.func128, Tryz.ntmps128
 go_wp2
 go_quiet (fail)
 go_wp2
 go_ret2
 exact ⟨rfl, _, rfl⟩
theorem Byt.four {w : World} {ad : Option Addr} {len cap : Nat} {bs : List Nat} (h : Byt w ad len cap bs) (h4 : 4 ≤ len) :
 ∃ b off x0 x1 x2 x3 r, ad = some ⟨b, off, none⟩ ∧ bs = x0 :: x1 :: x2 :: x3 :: r ∧ x0 < 256 ∧ x1 < 256 ∧ x2 < 256 ∧ x3 < 256 ∧ r.length = len - 4 ∧
   w.cell? ⟨b, off, none⟩ = some (.int .u8 x0) ∧ w.cell? ⟨b, off + 1, none⟩ = some (.int .u8 x1) ∧ w.cell? ⟨b, off + 2, none⟩ = some (.int .u8 x2) ∧ w.cell? ⟨b, off + 3, none⟩ = some (.int .u8 x3) ∧
   Byt w (some ⟨b, if cap = 4 then off else off + 4, none⟩) (len - 4) (cap - 4) r := by
 have hl := h.length
 have hf := h.fits
 obtain ⟨x0, x1, x2, x3, r, rfl⟩ := four_of (bs := bs) (by omega)
 simp only [List.length_cons] at hl
 rcases h.cells with h0 | ⟨b, off, rfl, hc⟩
 · omega
 have ha := h.all
 refine ⟨b, off, x0, x1, x2, x3, r, rfl, rfl, ha _ (by simp), ha _ (by simp), ha _ (by simp), ha _ (by simp), by omega, ?_, ?_, ?_, ?_, ?_⟩
 · simpa using hc 0 (by omega)
 · simpa using hc 1 (by omega)
 · simpa using hc 2 (by omega)
 · simpa using hc 3 (by omega)
 refine ⟨by omega, by omega, fun x hx => ha x (by simp [hx]), ?_⟩
 by_cases h5 : len - 4 = 0
 · exact .inl h5
 refine .inr ⟨b, off + 4, by rw [if_neg (by omega)], fun i hi => ?_⟩
 have := hc (4 + i) (by omega)
 rw [Nat.add_assoc, this]
 rw [Nat.add_comm 4 i]
 rfl
theorem run_from4 (b off len cap o4 : Nat) (h : 4 ≤ len) (ho : o4 = if cap = 4 then off else off + 4) (w : World) :
 (Instr.slice 30 (.slice (some ⟨b, off, none⟩) len cap) (some (.int .i64 4)) none none).run Tryz.prog w = .ok (.slice (some ⟨b, o4, none⟩) (len - 4) (cap - 4)) w := by
 rw [ho]; exact run_from b off len cap 4 h w
theorem splice_zero (n : Nat) (bs : List Nat) (h : bs.length = n) : splice (vals (List.replicate n 0)) 0 (vals bs) = vals bs := by
 subst h
 rw [splice, List.take_zero, List.drop_eq_nil_of_le (by simp [vals]), List.append_nil, List.nil_append]
theorem check_long (w : World) (ad : Option Addr) (len cap : Nat) (bs : List Nat) (h : Byt w ad len cap bs) (h4 : 4 ≤ len) (hL : len ≤ 140737488355328) :
 Calls Tryz.prog 128 #[.slice ad len cap] w fun e w' => (okB bs = false → e = .returned (.tuple #[.slice none 0 0, .bool false]) ∧ Below w.heap.size w w') ∧
  (okB bs = true → ∃ g, e = .returned (.tuple #[.slice (some ⟨g, 0, none⟩) (len - 4) (len - 4), .bool true]) ∧ w.heap.size ≤ g ∧ Own w' g (bs.drop 4) ∧ Below w.heap.size w w') := by
 obtain ⟨i0, hi, hz0, hz1, hz2⟩ := info_parts info5
 obtain ⟨b, off, x0, x1, x2, x3, r, rfl, rfl, l0, l1, l2, l3, hr, c0, c1, c2, c3, hB⟩ := h.four h4
 have hd : decide ((len : Int) < 4) = false := by simp; omega
 obtain ⟨o4, ho4⟩ : ∃ o4, o4 = if cap = 4 then off else off + 4 := ⟨_, rfl⟩
 rw [← ho4] at hB
 have hsl := run_from4 b off len cap o4 h4 ho4
 have hok : okB (x0 :: x1 :: x2 :: x3 :: r) = decide (unl [x0, x1, x2, x3] = ofB r) := by rw [okB_long (by simp)]; rfl
 rw [hok]
 have HU := exq (unl [x0, x1, x2, x3])
 obtain ⟨u, hu⟩ := HU
 have HV := exq (ofB r)
 obtain ⟨v, hv⟩ := HV
 rw [← hu, ← hv]
 have K18 : ∀ n, Calls Tryz.prog 146 #[.slice (some ⟨b, off, none⟩) len cap] (w.drewN n) fun e w' => e = .returned (.int .u32 u) ∧ w' = w.drewN n := fun n => by
  rw [hu]
  exact (stored_any _ _ _ _ _ x0 x1 x2 x3 h4 hL (by simpa using c0) (by simpa using c1) (by simpa using c2) (by simpa using c3) l0 l1 l2 l3).mono fun e w' ⟨h1, h2⟩ => ⟨h1, h2.symm⟩
 have K13 : ∀ n, Calls Tryz.prog 147 #[.slice (some ⟨b, o4, none⟩) (len - 4) (cap - 4)] (w.drewN n) fun e w' => e = .returned (.int .u32 v) ∧ w' = w.drewN n := fun n => by
  rw [hv]
  exact (of_any _ _ _ _ r (hB.drewN _) (by omega)).mono fun e w' ⟨h1, h2⟩ => ⟨h1, h2.symm⟩
 have HK18 := qh K18
 have HK13 := qh K13
 have HB := qh hB
 have HR := qh hr
 clear hB ho4 h hok hu hv K18 K13 c0 c1 c2 c3 hr
 by_cases hc : u = v
 rotate_left
 · have hne : ((u : Int) != (v : Int)) = true := by simp; omega
   go_enter Tryz.func128, Tryz.ntmps128
   go_wp2
   go_quiet (first | (go_at_call 146; exact Calls.quiet_of_same (HK18.out _)) | (go_at_call 147; exact Calls.quiet_of_same (HK13.out _)))
   go_wp2
   go_ret2
   exact ⟨fun _ => ⟨rfl, below_drewN (Below.refl _ _) _⟩, fun h => absurd (of_decide_eq_true h) hc⟩
 subst hc
 go_enter Tryz.func128, Tryz.ntmps128
 go_wp2
 go_quiet (first | (go_at_call 146; exact Calls.quiet_of_same (HK18.out _)) | (go_at_call 147; exact Calls.quiet_of_same (HK13.out _)))
 go_wp2_with (first | (at_make; refine wpList_make_full _ rfl _ _ 30 rfl w.heap.size 5 i0 (.int .u8 0) 1 Tryz.underlying30 hi hz0 hz1 .i64 .i64 _ _ (len - 4) rfl rfl (by omega) (by omega) (by rw [hz2]; omega) (by unfold maxLen; omega) (Nat.le_refl _) ?_; intro w0 hown0 hgrow0) | (with_reducible refine wpList_copy_splice rfl (.tmp 20) (.tmp 22) 30 30 rfl 5 Tryz.underlying30 size5 _ _ _ _ _ _ rfl rfl w.heap.size 0 (vals (List.replicate (len - 4) 0)) 5 ?_ (vals r) ?_ ?_ ?_ (vals_one r) w.heap.size w ?_ (Nat.le_refl _) ?_))
 · exact own_zero (own_made hown0)
 · rw [length_vals, HR.out]; simp
 · intro hp
   rw [length_vals, HR.out] at hp
   have hb0 : Below w.heap.size w w0 := (below_drewN (Below.refl _ _) nq).grown hgrow0 (Nat.le_refl _) (by simp)
   exact source_at ((HB.out.keep hb0 (Nat.le_refl _)).source hp)
 · rw [length_vals, length_vals, HR.out]; simp
 · exact (below_drewN (Below.refl _ _) nq).grown hgrow0 (Nat.le_refl _) (by simp)
 intro w2 HG2 hB2
 have R : Hid (Own w2 w.heap.size r) := by
  have h1 := HG2.out
  rw [splice_zero _ _ HR.out] at h1
  exact h1
 clear HG2
 go_wp2
 go_ret2
 exact ⟨fun h => absurd h (by simp), fun _ => ⟨w.heap.size, rfl, Nat.le_refl _, R.out, hB2⟩⟩
end Go.Proofs.YtjmfdildnojknaaGreat
namespace Go.Proofs.YtjmfdildnojknaaGreat
open Go.RowKit
open Go.SeqMath
theorem seq_ret {a b : Int} (h : a = b) : Ending.returned (.int .i64 a) = .returned (.int .i64 b) := by rw [h]
theorem seq_right (n : Int) (w : World) (r : Bool) (hr : rightB n = r) :
 Calls Tryz.prog 109 #[.int .i64 n] w fun e w' => e = .returned (.bool r) ∧ w = w' := by
 subst hr
 by_cases h0 : 0 ≤ n
 rotate_left
 · have h0' : n < 0 := by omega
   rw [right_no (.inl h0')]
   go_enter Tryz.func109, Tryz.ntmps109
   go_wp2
   go_ret
   exact ⟨rfl, rfl⟩
 by_cases h1 : n ≤ 2147483647
 · rw [right_yes h0 h1]
   go_enter Tryz.func109, Tryz.ntmps109
   go_wp2
   go_ret
   exact ⟨rfl, rfl⟩
 have h1' : 2147483647 < n := by omega
 rw [right_no (.inr h1')]
 go_enter Tryz.func109, Tryz.ntmps109
 go_wp2
 go_ret
 exact ⟨rfl, rfl⟩
end Go.Proofs.YtjmfdildnojknaaGreat
namespace Go.Proofs.YtjmfdildnojknaaGreat
open Go.RowKit
open Go.CrcMath hiding AllB
theorem refNext_any (c b : Nat) (w : World) (hc : c < 4294967296) (hb : b < 256) :
 Calls Tryz.prog 155 #[.int .u32 c, .int .u8 b] w fun e w' => e = .returned (.int .u32 (nxt c b : Nat)) ∧ w = w' := by
 have hx := xorc c b hc hb
 obtain ⟨x, hxe⟩ := exq (c ^^^ b)
 have hxl : x < 4294967296 := by rw [hxe]; exact xor_lt hc (by omega)
 rw [← hxe] at hx
 have HX : Hid (x = c ^^^ b) := hxe
 clear hxe
 go_enter Tryz.func155, Tryz.ntmps155
 go_wp2
 go_loop [0, 5] (fun s i => ∃ k : Nat, k ≤ 8 ∧ i = .int .i64 k ∧ s = .int .u32 (bsteps k x : Nat)) (fun _ i => (8 - intOf i).toNat)
 case atStart => exact ⟨0, by omega, rfl, rfl⟩
 obtain ⟨k, hk, rfl, rfl⟩ := hrel
 have hl := bsteps_lt hxl k
 obtain ⟨d, hd⟩ := exq (bsteps k x)
 rw [← hd] at hl ⊢
 have HD : Hid (d = bsteps k x) := hd
 clear hd hx
 have h1 := and1 d hl
 have h2 := xorp d hl
 by_cases hlt : k < 8
 rotate_left
 · have E : Hid (d = nxt c b) := by
    have : k = 8 := by omega
    subst this
    show d = bsteps 8 (c ^^^ b)
    rw [HD.out, HX.out]
   go_wp2
   go_ret
   exact ⟨ret_u32 (by rw [E.out]), rfl⟩
 by_cases ho : d % 2 = 1
 · have hb1 : (((d % 2 : Nat) : Int) == 1) = true := by simp; omega
   have S : Hid (bsteps (k + 1) x = d / 2 ^^^ poly) := by show bstep (bsteps k x) = _; rw [← HD.out]; exact bstep_odd d ho
   clear ho
   go_wp2
   go_round
   case rel => exact ⟨k + 1, by omega, by go_num, by rw [S.out]⟩
   simp [intOf]; omega
 have hb1 : (((d % 2 : Nat) : Int) == 1) = false := by simp; omega
 have S : Hid (bsteps (k + 1) x = d / 2) := by show bstep (bsteps k x) = _; rw [← HD.out]; exact bstep_even d ho
 clear ho
 go_wp2
 go_round
 case rel => exact ⟨k + 1, by omega, by go_num, by rw [S.out]; exact u32_eq (by omega)⟩
 simp [intOf]; omega
theorem refCrc_any (w : World) (ad : Option Addr) (len cap : Nat) (bs : List Nat) (h : Byt w ad len cap bs) (hL : len ≤ 140737488355328) :
 Calls Tryz.prog 140 #[.slice ad len cap] w fun e w' => e = .returned (.int .u32 (ofB bs : Nat)) ∧ w = w' := by
 obtain ⟨hlen, hfit, hall, hcs⟩ := h
 rcases hcs with h0 | ⟨b, off, rfl, hcell⟩
 · subst h0
   obtain rfl : bs = [] := by simpa using hlen
   have E : Hid (ofB [] = 0) := by show _ = _; decide
   clear hlen hfit hall
   have hcp := xor00
   have hsg := usig
   go_enter Tryz.func140, Tryz.ntmps140
   go_wp2
   refine wp_loop_rounds 1 ?_
   rw [rounds_succ]
   go_wp2
   go_ret
   exact ⟨ret_u32 (by rw [E.out]; rfl), rfl⟩
 have hmx : ∀ k, run full (bs.take k) < 4294967296 := fun k => run_lt _ _ full_lt (take_all hall k)
 have HM := qh hmx
 have HC := qh hcell
 have HA := qh hall
 have HL := qh hlen
 clear hmx hcell hall hlen
 go_enter Tryz.func140, Tryz.ntmps140
 go_wp2
 go_loop [3, 4] (fun s i => ∃ k : Nat, k ≤ len ∧ i = .int .i64 k ∧ s = .int .u32 (run full (bs.take k) : Nat)) (fun _ i => len - (intOf i).toNat)
 case atStart => exact ⟨0, by omega, rfl, rfl⟩
 obtain ⟨k, hk, rfl, rfl⟩ := hrel
 have hl := HM.out k
 obtain ⟨d, hd⟩ := exq (run full (bs.take k))
 rw [← hd] at hl ⊢
 have HD : Hid (d = run full (bs.take k)) := hd
 clear hd
 by_cases hlt : k < len
 · have hc := HC.out k hlt
   have hx8 := getD_all HA.out k
   obtain ⟨x, hx⟩ := exq (bs.getD k 0)
   rw [← hx] at hc hx8
   have S : Hid (run full (bs.take (k + 1)) = nxt d x) := by
    show _ = _
    rw [run_next _ _ _ (by rw [HL.out]; exact hlt), ← HD.out, ← hx]
   clear hx
   go_wp2_with (go_at_call 155; refine (refNext_any _ _ _ hl hx8).mono ?_; rintro e w' ⟨rfl, rfl⟩)
   go_round
   case rel => exact ⟨k + 1, by omega, by go_num, by rw [S.out]⟩
   simp [intOf]; omega
 have hcp := cplc d hl
 have hsg := usig
 have E : Hid (cpl d = ofB bs) := by
  show _ = _
  rw [HD.out, List.take_of_length_le (by rw [HL.out]; omega)]; rfl
 go_wp2
 go_ret
 exact ⟨ret_u32 (by rw [E.out]), rfl⟩
theorem lit4 (w : World) (c : Nat) (hc : c < 4294967296) : (w.alloc (.cells #[.int .u8 ((c : Int) % 256), .int .u8 ((c : Int) / 256 % 256), .int .u8 ((c : Int) / 65536 % 256), .int .u8 ((c : Int) / 16777216)] 5)).ownsRow w.heap.size 5 1 (.slice (some ⟨w.heap.size, 0, none⟩) 4 4) 4 (vals (leB c)) := by
 have h := World.ownsRow_lit (e := 5) (size := 1) (base := w.heap.size) w (vals (leB c)).toArray 4 (Nat.le_refl _) (by decide) rfl
 have e3 : (((c / 16777216 % 256 : Nat)) : Int) = (c : Int) / 16777216 := by omega
 have e : (vals (leB c)).toArray = #[.int .u8 ((c : Int) % 256), .int .u8 ((c : Int) / 256 % 256), .int .u8 ((c : Int) / 65536 % 256), .int .u8 ((c : Int) / 16777216)] := by
  show #[byte _, byte _, byte _, byte _] = _
  unfold byte
  rw [e3]; rfl
 rw [e] at h
 have e2 : (vals (leB c)) = [.int .u8 ((c : Int) % 256), .int .u8 ((c : Int) / 256 % 256), .int .u8 ((c : Int) / 65536 % 256), .int .u8 ((c : Int) / 16777216)] := congrArg Array.toList e
 rw [e2]
 exact h
theorem sealed_some (w : World) (a : Addr) (len cap : Nat) (bs : List Nat) (h : Byt w (some a) len cap bs) (hL : len ≤ 140737488355300) :
 Calls Tryz.prog 115 #[.slice (some a) len cap] w (GivesMade w (sealB bs)) := by
 obtain ⟨i0, hi, hz0, hz1, hz2⟩ := info_parts info5
 have HB := qh h
 clear h
 go_enter Tryz.func115, Tryz.ntmps115
 go_wp2_with fail
 refine (refCrc_any _ _ _ _ _ HB.out (by omega)).mono ?_
 rintro e w' ⟨rfl, rfl⟩
 have hsl := ofB_lt HB.out.all
 obtain ⟨c, hc⟩ := exq (ofB bs)
 rw [← hc] at hsl ⊢
 have HCC := qh hc
 clear hc
 have HX := qh (lit4 w c hsl)
 have HB1 : Hid (Below w.heap.size w (w.alloc (.cells #[.int .u8 ((c : Int) % 256), .int .u8 ((c : Int) / 256 % 256), .int .u8 ((c : Int) / 65536 % 256), .int .u8 ((c : Int) / 16777216)] 5))) := (bal _ _)
 go_wp2_with (at_builtin; refine wpList_append_own _ rfl (.tmp 17) (.tmp 18) 30 rfl w.heap.size 5 i0 (.int .u8 0) 1 1 Tryz.underlying30 hi hz0 hz1 hz2 rfl (by decide) _ 4 (vals (leB c)) rfl HX.out a len cap (vals bs) rfl ?c1 ?c2 (vals_one bs) ?c3 ?c4 ?c5 ?_)
 case c1 => rw [length_vals, HB.out.length]; simp
 case c2 =>
  intro j u hj
  have hjl : j < bs.length := by
   have := (List.getElem?_eq_some_iff.1 hj).1
   rwa [length_vals] at this
  obtain ⟨a', ha', hs⟩ := HB.out.source (by have := HB.out.length; omega)
  obtain rfl := Option.some.inj ha'
  have h1 := hs j u hj
  rw [HB1.out.cell (World.block_lt_of_cell? w _ h1)]
  exact h1
 case c3 => unfold maxLen; omega
 case c4 => omega
 case c5 => simp
 intro v' w1 hown' hgrow _
 have hlen := HB.out.length
 have R : Hid (Made w (sealB bs) v' w1) := by
  refine made_of ?_ (by rw [length_sealB]; omega) (HB1.out.grown hgrow (by simp) (by intro k hk; simp [Value.ownBlock] at hk; omega))
  have e : sealB bs = leB c ++ bs := by rw [HCC.out]; rfl
  rw [length_sealB, hlen, e, vals_append, Nat.add_comm len 4]
  exact hown'
 clear hown' hgrow hlen
 go_wp2
 go_ret
 exact ⟨_, rfl, R.out⟩
theorem sealed_none (w : World) : Calls Tryz.prog 115 #[.slice none 0 0] w (GivesMade w (sealB [])) := by
 obtain ⟨i0, hi, hz0, hz1, hz2⟩ := info_parts info5
 have HB : Hid (Byt w none 0 0 []) := ⟨rfl, Nat.le_refl _, (fun x hx => by cases hx), .inl rfl⟩
 go_enter Tryz.func115, Tryz.ntmps115
 go_wp2_with fail
 refine (refCrc_any _ _ _ _ _ HB.out (by omega)).mono ?_
 rintro e w' ⟨rfl, rfl⟩
 have hsl := ofB_lt HB.out.all
 obtain ⟨c, hc⟩ := exq (ofB [])
 rw [← hc] at hsl ⊢
 have HCC := qh hc
 clear hc
 have HX := qh (lit4 w c hsl)
 have HB1 : Hid (Below w.heap.size w (w.alloc (.cells #[.int .u8 ((c : Int) % 256), .int .u8 ((c : Int) / 256 % 256), .int .u8 ((c : Int) / 65536 % 256), .int .u8 ((c : Int) / 16777216)] 5))) := (bal _ _)
 go_wp2_with (at_builtin; refine wpList_append_own_none rfl (.tmp 17) (.tmp 18) 30 rfl w.heap.size 5 i0 1 Tryz.underlying30 hi _ 4 (vals (leB c)) rfl HX.out rfl ?_)
 go_ret
 have R : Made w (sealB []) _ _ := made_of (by
  have e : sealB [] = leB c := by rw [HCC.out]; rfl
  rw [e]; exact HX.out) (by rw [length_sealB]; omega) HB1.out
 exact ⟨_, rfl, R⟩
theorem sealed_any (w : World) (ad : Option Addr) (len cap : Nat) (bs : List Nat) (h : Byt w ad len cap bs) (hn : ad = none → cap = 0) (hL : len ≤ 140737488355300) :
 Calls Tryz.prog 115 #[.slice ad len cap] w (GivesMade w (sealB bs)) := by
 rcases ad with _ | a
 · obtain rfl := hn rfl
   have hf := h.fits
   have hl := h.length
   obtain rfl : len = 0 := by omega
   obtain rfl : bs = [] := List.eq_nil_of_length_eq_zero hl
   exact sealed_none w
 exact sealed_some w a len cap bs h hL
end Go.Proofs.YtjmfdildnojknaaGreat
namespace Go.Proofs.YtjmfdildnojknaaGreat
open Go.RowKit
open Go.SeqMath
open Go.BatMath hiding AllB getD_lt take_all
open Go.VarMath (longB length_longB textB)
open Go.CrcMath (sealB)
theorem owns_low {w : World} {base base' e size n : Nat} {v : Value} {xs : List Value} (h : w.ownsRow base e size v n xs) (hb : base' ≤ base) : w.ownsRow base' e size v n xs := by
 refine ⟨h.1, ?_⟩
 rcases h.2 with hn | ⟨g, cap, cur, rfl, hbg, hh, r⟩
 · exact .inl hn
 exact .inr ⟨g, cap, cur, rfl, Nat.le_trans hb hbg, hh, r⟩
theorem gives_on {w W w' : World} {bs : List Nat} {e : Ending} {n : Nat} (h : GivesRow W bs e w') (hW : Below w.heap.size w W) (hn : bs.length = n) :
 ∃ g cap, e = .returned (.slice (some ⟨g, 0, none⟩) n cap) ∧ Hid (w'.ownsRow w.heap.size 5 1 (.slice (some ⟨g, 0, none⟩) n cap) n (vals bs)) ∧ Hid (Below w.heap.size w w') ∧ Hid (Below W.heap.size W w') := by
 subst hn
 obtain ⟨g, cap, rfl, ho, hb⟩ := h
 exact ⟨g, cap, rfl, owns_low ho hW.size, hW.trans (hb.mono hW.size), hb⟩
theorem cell_on {w W : World} {a : Addr} {u : Value} (h : Below w.heap.size w W) (ha : w.cell? a = some u) : W.cell? a = some u := (h.cell (World.block_lt_of_cell? _ _ ha)).trans ha
theorem keep_two {w2 W : World} {a b : Addr} {u v : Value} (h : Below w2.heap.size w2 W) (hu : w2.cell? a = some u) (hv : w2.cell? b = some v) : Below w2.heap.size w2 W ∧ W.cell? a = some u ∧ W.cell? b = some v := ⟨h, cell_on h hu, cell_on h hv⟩
theorem row_lit (W : World) (cs : Array Value) (bs : List Nat) (k n : Nat) (hk : W.heap.size = k) (hcs : cs = (vals bs).toArray) (ha : AllB bs) (hn : bs.length = n) : Row (W.alloc (.cells cs 5)) (some ⟨k, 0, none⟩) n n bs := by
 subst hn hk hcs; exact ⟨(own_new W bs).byt ha _ (Nat.le_refl _), fun h => by cases h⟩
def WriteAt (w : World) (fr : List Nat) (l : List Rc) (v4 v45 : Value) (wr : World) : Prop := ∃ (j g c m : Nat), j ≤ l.length ∧ v45 = .int .i64 j ∧ v4 = .slice (some ⟨g, 0, none⟩) m c ∧ (fr ++ recsB (l.take j)).length = m ∧ wr.ownsRow w.heap.size 5 1 (.slice (some ⟨g, 0, none⟩) m c) m (vals (fr ++ recsB (l.take j))) ∧ Below w.heap.size w wr
theorem writeAt_start {w W : World} {fr : List Nat} {l : List Rc} {g c m : Nat} (hm : fr.length = m) (ho : W.ownsRow w.heap.size 5 1 (.slice (some ⟨g, 0, none⟩) m c) m (vals fr)) (hb : Below w.heap.size w W) : WriteAt w fr l (.slice (some ⟨g, 0, none⟩) m c) (.int .i64 0) W :=
 ⟨0, g, c, m, Nat.zero_le _, rfl, rfl, by simpa [recsB] using hm, by simpa [recsB] using ho, hb⟩
theorem take_recs {l : List Rc} {j : Nat} {r : Rc} (h : l[j]? = some r) : recsB (l.take (j + 1)) = recsB (l.take j) ++ recB r := by
 obtain ⟨hj, rfl⟩ := List.getElem?_eq_some_iff.1 h
 rw [List.take_succ_eq_append_getElem hj, recsB_snoc]
theorem take_texts {l : List Rc} (h : ∀ r ∈ l, r.key.size ≤ 64 ∧ r.val.size ≤ 64) (j : Nat) : ∀ r ∈ l.take j, r.key.size ≤ 64 ∧ r.val.size ≤ 64 := fun r hr => h r (List.mem_of_mem_take hr)
theorem write_any (w : World) (b : Bat) (ad : Option Addr) (len cap : Nat) (hr : RecsAt w ad len cap b.recs) (hok : Ok b) (hp1 : b.prod ≤ 9223372036854775807) :
 Calls Tryz.prog 80 #[.agg #[.int .i64 b.base, .int .i64 b.prod, .int .i64 b.epoch, .int .i64 b.seq, .bool b.txn, .int .i64 b.marker, .slice ad len cap]] w (GivesRow w (bytesB b)) := by
 obtain ⟨q0, q1, q2, q3, q4, q5, q6, q7, q8, q9, q10⟩ := hok
 have hlr := hr.length
 obtain ⟨F, hF⟩ := exq (flagN b)
 have hF256 : F < 256 := by rw [hF]; exact flag_lt b
 have hFx : (F : Int) = 2 * b.marker + (if b.txn = true then 1 else 0) := by
  rw [hF]; unfold flagN; split <;> omega
 obtain ⟨E, hE⟩ := exq (epochN b)
 have hE1 : b.epoch / 256 % 256 = ((E / 256 : Nat) : Int) := by rw [hE]; unfold epochN; omega
 have hE2 : b.epoch % 256 = ((E % 256 : Nat) : Int) := by rw [hE]; unfold epochN; omega
 have hfr : frontB b = F :: (longB b.prod ++ (E / 256 :: E % 256 :: (longB b.seq ++ [len % 256]))) := by rw [hF, hE, ← hlr]; rfl
 have hE6 : E < 65536 := by rw [hE]; exact epoch_lt b
 obtain ⟨E1, hE1'⟩ := exq (E / 256)
 obtain ⟨E2, hE2'⟩ := exq (E % 256)
 have hE1l : E1 < 256 := by omega
 have hE2l : E2 < 256 := by omega
 rw [← hE1'] at hE1 hfr
 rw [← hE2'] at hE2 hfr
 have HFR := qh hfr
 have HBO : Hid (bodyB b = frontB b ++ recsB b.recs) := rfl
 have HBY : Hid (bytesB b = longB b.base ++ (VarMath.beB 4 (sealB (bodyB b)).length ++ sealB (bodyB b))) := rfl
 have HT := qh q10
 have HR := qh hr
 have HE1 := qh hE1
 have HE2 := qh hE2
 have HF := qh hFx
 have hlen16 : len ≤ 16 := by omega
 have HLR := qh hlr
 clear hF hE hfr hE1' hE2' hE6 q9 q10 hr hFx hlr hE1 hE2
 obtain ⟨base, prod, epoch, seq, txn, marker, recs⟩ := b
 simp only at q0 q1 q2 q3 q4 q5 q6 q7 q8 hp1 HR HE1 HE2 HF HT HLR ⊢
 go_enter Tryz.func80, Tryz.ntmps80
 go_upto_if 14 with (fail)
 go_cut [3] from 9 (fun s3 wx => s3 = .int .u8 (F : Int) ∧ wx = w.alloc (.cells #[.int .i64 base, .int .i64 prod, .int .i64 epoch, .int .i64 seq, .bool txn, .int .i64 marker, .slice ad len cap] 29))
 case first =>
  have hmm : marker = 0 ∨ marker = 1 ∨ marker = 2 := by omega
  cases txn
  · rcases hmm with rfl | rfl | rfl
    all_goals
     go_wp2
     go_meet
     case rel => exact ⟨by have := HF.out; rw [this]; rfl, rfl⟩
  rcases hmm with rfl | rfl | rfl
  all_goals
   go_wp2
   go_meet
   case rel => exact ⟨by have := HF.out; rw [this]; rfl, rfl⟩
 case rest =>
  obtain ⟨rfl, rfl⟩ := hcut
  obtain ⟨W0, hW0⟩ : ∃ W0, W0 = (w.alloc (.cells #[.int .i64 base, .int .i64 prod, .int .i64 epoch, .int .i64 seq, .bool txn, .int .i64 marker, .slice ad len cap] 29)) := ⟨_, rfl⟩
  have hs0 : W0.heap.size = w.heap.size + 1 := by rw [hW0]; simp
  have HX := qh (show BoxAt W0 w.heap.size base prod epoch seq txn marker (.slice ad len cap) by rw [hW0]; exact boxAt_new w _ _ _ _ _ _ _)
  have HB := qh (show Below w.heap.size w W0 by rw [hW0]; exact (bal _ _))
  rw [← hW0]
  have hc1 := HX.out.c1
  have HROW := qh (row_lit W0 #[.int .u8 (F : Int)] [F] (w.heap.size + 1) 1 hs0 rfl (all_cons hF256 all_nil) rfl)
  have HB0 : Hid (Below W0.heap.size W0 (W0.alloc (.cells #[.int .u8 (F : Int)] 5))) := (bal _ _)
  clear hW0
  go_wp2_with fail
  (with_reducible refine (refLong_any _ _ 1 1 [F] prod HROW.out (by omega) (by omega) hp1).mono ?_)
  rintro e w1 hg
  obtain ⟨g1, c1, rfl, ho1, hb1, hbb⟩ := gives_on hg HB0.out (n := 9) (by simp [length_longB])
  have HX1 := qh (HX.out.on hb1.out)
  clear hg hbb hc1
  have hc2 := HX1.out.c2
  have he1 := HE1.out
  have he2 := HE2.out
  have HROW2 := qh (row_lit w1 #[.int .u8 (E1 : Int), .int .u8 (E2 : Int)] [E1, E2] w1.heap.size 2 rfl rfl (all_cons hE1l (all_cons hE2l all_nil)) rfl)
  have HB2 := qh (hb1.out.alloc hb1.out.size (.cells #[.int .u8 (E1 : Int), .int .u8 (E2 : Int)] 5))
  have HZ := qh hs0
  clear hs0
  go_wp2_with (at_builtin; refine append_row rfl (.tmp 22) (.tmp 30) rfl W0.heap.size 9 ([F] ++ longB prod) [E1, E2] _ rfl (ho1.out.alloc _) (some_ne _ _ _) HB2.out.size _ _ _ rfl HROW2.out (by omega) W0 HB2.out ?_)
  intro g2 c2 w2 ho2 hb2
  have HO2 := qh ho2
  have HBW2 := qh hb2
  have HA2 : Hid (AllB (([F] ++ longB prod) ++ [E1, E2])) := all_app (all_app (all_cons hF256 all_nil) (VarMath.longB_all _)) (all_cons hE1l (all_cons hE2l all_nil))
  have HX2 := qh (HX.out.on hb2)
  clear ho2 hb2 hc2 he1 he2
  have hc3 := HX2.out.c3
  have hc6 := HX2.out.c6
  have hl256 : IntKind.u8.wrap (len : Int) = (len : Int) := by rw [wrap_u8']; omega
  have CL : Hid (∀ W, Below w2.heap.size w2 W → Calls Tryz.prog 113 #[.slice (some ⟨g2, 0, none⟩) 11 c2, .int .i64 seq] W (GivesRow W ((([F] ++ longB prod) ++ [E1, E2]) ++ longB seq))) := by
   intro W hW
   exact refLong_any W _ 11 c2 _ seq ((owns_row HO2.out HA2.out).keep hW (Nat.le_refl _)) (by omega) (by omega) (by omega)
  go_upto_region 6 with fail
  go_cut [4] from 32 (fun s4 wx => ∃ g c, s4 = .slice (some ⟨g, 0, none⟩) 20 c ∧ Hid (wx.ownsRow W0.heap.size 5 1 (.slice (some ⟨g, 0, none⟩) 20 c) 20 (vals (((([F] ++ longB prod) ++ [E1, E2]) ++ longB seq) ++ [len]))) ∧ Hid (Below W0.heap.size W0 wx))
  case first =>
   have HL8 : Hid (AllB [len]) := all_cons (by omega) all_nil
   have HRL : Hid (∀ W, Below (w2.drew.alloc (.cells #[.int .u8 (len : Int)] 5)).heap.size (w2.drew.alloc (.cells #[.int .u8 (len : Int)] 5)) W → Row W (some ⟨w2.heap.size, 0, none⟩) 1 1 [len]) := fun W hW => (row_lit w2.drew #[.int .u8 (len : Int)] [len] w2.heap.size 1 rfl rfl HL8.out rfl).keep hW (Nat.le_refl _)
   go_region_held3 (fun W => Below w2.heap.size w2 W ∧ W.cell? ⟨w.heap.size, 3, none⟩ = some (.int .i64 seq) ∧ W.cell? ⟨w.heap.size, 6, none⟩ = some (.slice ad len cap)) (first | exact keep_two hb4 hc3 hc6 | exact keep_two hb3.out hc3 hc6 | exact keep_two (hb3.out.alloc hb3.out.size _) hc3 hc6 | exact keep_two ((Below.refl _ w2).drew) hc3 hc6 | exact keep_two (((Below.refl _ w2).drew).alloc (by simp) _) hc3 hc6) (first | (go_at_call 113; refine (CL.out _ ?_).mono ?_; exact (And.left ‹Below w2.heap.size w2 _ ∧ _›); rintro e w3 hg; obtain ⟨g3, k3, rfl, ho3, hb3, hbb3⟩ := gives_on (w := w2) (n := 19) hg (And.left ‹Below w2.heap.size w2 _ ∧ _›) (by simp [length_longB])) | (refine held_append (by rfl) (.tmp 35) (.tmp 40) rfl w2.heap.size 19 ((([F] ++ longB prod) ++ [E1, E2]) ++ longB seq) [len] _ rfl (ho3.out.alloc _) (hb3.out.alloc hb3.out.size _).size ⟨w3.heap.size, 0, none⟩ 1 1 rfl (row_lit w3 #[.int .u8 (len : Int)] [len] w3.heap.size 1 rfl rfl HL8.out rfl) (by omega) (by omega) w2 (hb3.out.alloc hb3.out.size _) ?_; intro g4 k4 w4 ho4 hp4 hb4) | (refine held_append (by rfl) (.tmp 35) (.tmp 40) rfl w2.heap.size 19 ((([F] ++ longB prod) ++ [E1, E2]) ++ longB seq) [len] _ rfl ho3.out hb3.out.size ⟨w2.heap.size, 0, none⟩ 1 1 rfl (HRL.out _ hbb3.out) (by omega) (by omega) w2 hb3.out ?_; intro g4 k4 w4 ho4 hp4 hb4))
   all_goals
    go_wp2
    go_meet
    case rel => exact ⟨_, _, rfl, owns_low ho4 HBW2.out.size, HBW2.out.trans (hb4.mono HBW2.out.size)⟩
  case rest =>
   clear hc3 hc6 hl256
   obtain ⟨g4, c4, rfl, ho4, hb4⟩ := hcut
   have HX4 := qh (HX.out.on hb4.out)
   have hc6 := HX4.out.c6
   obtain ⟨fr, hfr⟩ : ∃ fr, fr = ((([F] ++ longB prod) ++ [E1, E2]) ++ longB seq) ++ [len] := ⟨_, rfl⟩
   rw [← hfr] at ho4
   have hfl : fr.length = 20 := by rw [hfr]; simp [length_longB]
   have HFA : Hid (AllB fr) := by
    show AllB fr
    rw [hfr]
    exact all_app (all_app HA2.out (VarMath.longB_all _)) (all_cons (by omega) all_nil)
   have HFR2 : Hid (bodyB ⟨base, prod, epoch, seq, txn, marker, recs⟩ = fr ++ recsB recs) := by
    show _ = _
    rw [HBO.out, HFR.out, hfr, Nat.mod_eq_of_lt (show len < 256 by omega)]
    simp
   have HFL := qh hfl
   clear hfr hfl
   go_wp2_with fail
   go_loopw [4, 45] (fun v4 v45 wr => WriteAt W0 fr recs v4 v45 wr) (fun _ v45 _ => len - (intOf v45).toNat)
   case atStart => exact writeAt_start HFL.out ho4.out hb4.out
   obtain ⟨j, g, c, m, hj, rfl, rfl, hm, hown, hbel⟩ := hrel
   rw [HLR.out] at hj
   have HM := qh hm
   have HOWN := qh hown
   have HBEL := qh hbel
   have hmle : m ≤ 2388 := by
    have h1 := (recs_len (take_texts HT.out j)).2
    have h2 : (recs.take j).length ≤ 16 := by rw [List.length_take]; have := HLR.out; omega
    have h3 := HFL.out
    rw [← hm, List.length_append]
    omega
   clear hm hown hbel
   by_cases hlt : j < len
   · obtain ⟨r, hrj⟩ : ∃ r, recs[j]? = some r := by
      have hjl : j < recs.length := by rw [HLR.out]; exact hlt
      exact ⟨_, List.getElem?_eq_getElem hjl⟩
     obtain ⟨bk, off, rfl, hbk, hcell⟩ : ∃ bk off, ad = some ⟨bk, off, none⟩ ∧ bk < w.heap.size ∧ ∀ i r, recs[i]? = some r → wr.cell? ⟨bk, off + i * 2, none⟩ = some (.string r.key) ∧ wr.cell? ⟨bk, off + i * 2 + 1, none⟩ = some (.string r.val) := by
      have hbw : Below w.heap.size w wr := HB.out.trans (HBEL.out.mono HB.out.size)
      rcases HR.out.cells with h | ⟨bk, off, e, hlt, hc⟩
      · omega
      exact ⟨bk, off, e, hlt, fun i r hi => ⟨(hbw.cell (p := ⟨bk, _, none⟩) hlt).trans (hc i r hi).1, (hbw.cell (p := ⟨bk, _, none⟩) hlt).trans (hc i r hi).2⟩⟩
     obtain ⟨hk, hv⟩ := hcell j r hrj
     have hmem := List.mem_of_getElem? hrj
     obtain ⟨hs1, hs2⟩ := HT.out r hmem
     have hsn := take_recs hrj
     have hta := take_texts HT.out j
     obtain ⟨pre, hpre⟩ := exq (fr ++ recsB (recs.take j))
     have hpa : AllB pre := by
      rw [hpre]
      exact all_app HFA.out (recs_all fun x hx => by have := hta x hx; omega)
     rw [← hpre] at HM HOWN
     have HSN : Hid (fr ++ recsB (recs.take (j + 1)) = pre ++ recB r) := by
      show _ = _
      rw [hsn, hpre, List.append_assoc]
     obtain ⟨ks, vs⟩ := r
     simp only at hk hv hs1 hs2
     have HPA := qh hpa
     have HLE : Hid (j + 1 ≤ recs.length) := by show _ ≤ _; rw [HLR.out]; exact hlt
     clear hcell hrj hmem hsn hta hpre hpa
     have l1 := BatMath.text_len (s := bl ks) (by rw [bl_len]; omega)
     have l2 := BatMath.text_len (s := bl vs) (by rw [bl_len]; omega)
     rw [bl_len] at l1 l2
     obtain ⟨n1, hn1⟩ : ∃ n1, n1 = (textB (bl ks)).length := ⟨_, rfl⟩
     obtain ⟨n2, hn2⟩ : ∃ n2, n2 = (textB (bl vs)).length := ⟨_, rfl⟩
     rw [← hn1] at l1
     rw [← hn2] at l2
     have HN1 : Hid ((pre ++ textB (bl ks)).length = m + n1) := by show _ = _; rw [List.length_append, HM.out, hn1]
     have HN2 : Hid (((pre ++ textB (bl ks)) ++ textB (bl vs)).length = m + n1 + n2) := by show _ = _; rw [List.length_append, HN1.out, hn2]
     have HA1 : Hid (AllB (pre ++ textB (bl ks))) := all_app HPA.out (text_all (bl_all _) (by rw [bl_len]; omega))
     clear hn1 hn2
     obtain ⟨wx, hwx⟩ := exq (wr.alloc (.cells #[.string ks, .string vs] 84))
     have hd0 : wx.cell? ⟨wr.heap.size, 0, none⟩ = some (.string ks) := by rw [hwx, World.cell?, heap_alloc_new]; rfl
     have hd1 : wx.cell? ⟨wr.heap.size, 1, none⟩ = some (.string vs) := by rw [hwx, World.cell?, heap_alloc_new]; rfl
     have HWX := qh hwx
     have HBX : Hid (Below W0.heap.size W0 wx) := by rw [hwx]; exact HBEL.out.alloc HBEL.out.size _
     have CT : Hid (∀ W, Below wx.heap.size wx W → Calls Tryz.prog 114 #[.slice (some ⟨g, 0, none⟩) m c, .string ks] W (GivesRow W (pre ++ textB (bl ks)))) := by
      intro W hW
      have hown : wx.ownsRow W0.heap.size 5 1 (.slice (some ⟨g, 0, none⟩) m c) m (vals pre) := by rw [HWX.out]; exact HOWN.out.alloc _
      exact refText_any W _ m c _ ks ((owns_row hown HPA.out).keep hW (Nat.le_refl _)) (by omega)
     clear hwx
     go_upto_region 10 with fail
     rw [← HWX.out]
     go_region_held3 (fun W => Below wx.heap.size wx W ∧ W.cell? ⟨wr.heap.size, 0, none⟩ = some (.string ks) ∧ W.cell? ⟨wr.heap.size, 1, none⟩ = some (.string vs)) (first | exact keep_two hb6.out hd0 hd1 | exact keep_two hb5.out hd0 hd1 | exact keep_two ((Below.refl _ wx).drew) hd0 hd1) (first | (go_at_call 114; refine (refText_any _ _ _ _ _ vs (owns_row ho5.out HA1.out) (by omega)).mono ?_; rintro e w6 hg; obtain ⟨g6, k6, rfl, ho6, hb6, hbb6⟩ := gives_on (w := wx) (n := m + n1 + n2) hg hb5.out HN2.out) | (go_at_call 114; refine (CT.out _ ?_).mono ?_; exact (And.left ‹Below wx.heap.size wx _ ∧ _›); rintro e w5 hg; obtain ⟨g5, k5, rfl, ho5, hb5, hbb5⟩ := gives_on (w := wx) (n := m + n1) hg (And.left ‹Below wx.heap.size wx _ ∧ _›) HN1.out))
     go_wp2
     go_roundw
     case rel => exact ⟨j + 1, _, _, _, HLE.out, by go_num, rfl, by rw [HSN.out, recB, ← List.append_assoc]; exact HN2.out, by rw [HSN.out, recB, ← List.append_assoc]; exact owns_low ho6.out HBX.out.size, HBX.out.trans (hb6.out.mono HBX.out.size)⟩
     simp [intOf]; omega
   obtain rfl : j = len := by omega
   have hrl : recs.take j = recs := by rw [List.take_of_length_le (by rw [HLR.out]; exact Nat.le_refl _)]
   rw [hrl] at HM HOWN
   have HBA : Hid (AllB (fr ++ recsB recs)) := all_app HFA.out (recs_all fun x hx => by have := HT.out x hx; omega)
   have HBB : Hid (bodyB ⟨base, prod, epoch, seq, txn, marker, recs⟩ = fr ++ recsB recs) := HFR2
   clear hlt hrl
   go_wp2_with fail
   refine (sealed_any wr _ m c _ (owns_row HOWN.out HBA.out).1 (fun h => by cases h) (by omega)).mono ?_
   rintro e w7 ⟨v7, rfl, g7, k7, rfl, hk7, hg7, hp7, hb7⟩
   obtain ⟨N, hN⟩ : ∃ N, N = (sealB (fr ++ recsB recs)).length := ⟨_, rfl⟩
   have hN4 : N = m + 4 := by rw [hN, CrcMath.length_sealB, HM.out]
   rw [← hN] at hk7 ⊢
   have HX7 := qh (HX.out.on (HBEL.out.trans (hb7.mono HBEL.out.size)))
   have HY7 := qh (hp7.byt (CrcMath.sealB_all HBA.out) k7 (by rw [← hN]; exact hk7))
   rw [← hN] at HY7
   have HB7 : Hid (Below W0.heap.size W0 w7) := HBEL.out.trans (hb7.mono HBEL.out.size)
   have HNN := qh hN
   have hN1 : N ≤ 2392 := by omega
   clear hp7 hN hN4 hb7
   have hc0 := HX7.out.c0
   go_wp2_with fail
   refine (refLong_any w7 none 0 0 [] base ⟨Byt.nil w7, fun _ => rfl⟩ (by omega) (by omega) (by omega)).mono ?_
   rintro e w8 hg
   obtain ⟨g8, k8, rfl, ho8, hb8, hbb8⟩ := gives_on (w := w7) hg (Below.refl _ _) (n := 8) (by simp [length_longB])
   clear hg hc0
   obtain ⟨B3, hB3⟩ := exq (N / 16777216)
   obtain ⟨B2, hB2⟩ := exq (N / 65536)
   obtain ⟨B1, hB1⟩ := exq (N / 256)
   obtain ⟨B0, hB0⟩ := exq (N % 256)
   have hv3 : (N : Int) / 16777216 = (B3 : Int) := by omega
   have hv2 : (N : Int) / 65536 = (B2 : Int) := by omega
   have hv1 : (N : Int) / 256 = (B1 : Int) := by omega
   have hv0 : (N : Int) % 256 = (B0 : Int) := by omega
   have HBE : Hid (VarMath.beB 4 N = [B3, B2, B1, B0]) := by
    show _ = _
    simp only [VarMath.beB]
    have p3 : N / 256 ^ 3 % 256 = B3 := by rw [hB3]; simp only [Nat.reducePow]; omega
    have p2 : N / 256 ^ 2 % 256 = B2 := by rw [hB2]; simp only [Nat.reducePow]; omega
    have p1 : N / 256 ^ 1 % 256 = B1 := by rw [hB1]; simp only [Nat.reducePow]; omega
    have p0 : N / 256 ^ 0 % 256 = B0 := by rw [hB0]; simp only [Nat.reducePow]; omega
    rw [p3, p2, p1, p0]
   have HBL : Hid (AllB [B3, B2, B1, B0]) := all_cons (by omega) (all_cons (by omega) (all_cons (by omega) (all_cons (by omega) all_nil)))
   have HROW8 := qh (row_lit w8 #[.int .u8 (B3 : Int), .int .u8 (B2 : Int), .int .u8 (B1 : Int), .int .u8 (B0 : Int)] [B3, B2, B1, B0] w8.heap.size 4 rfl rfl HBL.out rfl)
   have HY8 := qh (HY7.out.keep (hbb8.out.alloc hbb8.out.size (.cells #[.int .u8 (B3 : Int), .int .u8 (B2 : Int), .int .u8 (B1 : Int), .int .u8 (B0 : Int)] 5)) (Nat.le_refl _))
   clear hB3 hB2 hB1 hB0
   go_wp2_with (at_builtin; refine append_row rfl (.tmp 63) (.tmp 75) rfl w7.heap.size 8 ([] ++ longB base) [B3, B2, B1, B0] _ rfl (ho8.out.alloc _) (some_ne _ _ _) (hbb8.out.alloc hbb8.out.size _).size _ _ _ rfl HROW8.out (by omega) w7 (hbb8.out.alloc hbb8.out.size _) ?_)
   intro g9 c9 w9 ho9 hb9
   have HO9 := qh ho9
   have HY9 := qh (HY7.out.keep hb9 (Nat.le_refl _))
   have HB9 := qh hb9
   clear ho9 hb9 hv3 hv2 hv1 hv0
   go_wp2_with (at_builtin; refine append_row rfl (.tmp 77) (.tmp 78) rfl w7.heap.size 12 (longB base ++ [B3, B2, B1, B0]) (sealB (fr ++ recsB recs)) _ rfl HO9.out (some_ne _ _ _) HB9.out.size _ _ _ rfl ⟨HY9.out, fun h => by cases h⟩ (by omega) w7 HB9.out ?_)
   intro g10 c10 w10 ho10 hb10
   have HFIN : Hid (longB base ++ [B3, B2, B1, B0] ++ sealB (fr ++ recsB recs) = bytesB ⟨base, prod, epoch, seq, txn, marker, recs⟩) := by
    show _ = _
    rw [HBY.out, HBB.out, ← HNN.out, HBE.out]
    simp
   have hlen : (bytesB ⟨base, prod, epoch, seq, txn, marker, recs⟩).length = 12 + N := by
    rw [← HFIN.out]
    simp only [List.length_append, length_longB, List.length_nil, List.length_cons, ← HNN.out]
   have hfe : w10.ownsRow w7.heap.size 5 1 (.slice (some ⟨g10, 0, none⟩) (12 + N) c10) (12 + N) (vals (bytesB ⟨base, prod, epoch, seq, txn, marker, recs⟩)) := by
    rw [← HFIN.out]
    simpa using ho10
   have HO10 := qh (owns_low hfe HB7.out.size)
   clear hfe
   have HB10 := qh (HB7.out.trans (hb10.mono HB7.out.size))
   have HLEN := qh hlen
   clear ho10 hb10 hlen
   go_wp2
   go_ret
   exact gives_row HLEN.out (owns_low HO10.out HB.out.size) (HB.out.trans (HB10.out.mono HB.out.size))
theorem refRight_any (w : World) (b : Bat) (ad : Option Addr) (len cap : Nat) (hr : RecsAt w ad len cap b.recs) (ht : TextsOk b.recs) (hL : len ≤ 140737488355328) (hp : b.prod ≤ 9223372036854775807) :
 Calls Tryz.prog 46 #[.agg #[.int .i64 b.base, .int .i64 b.prod, .int .i64 b.epoch, .int .i64 b.seq, .bool b.txn, .int .i64 b.marker, .slice ad len cap]] w (Says (rightE b) w) := by
 obtain rfl := hr.length
 have CP : Hid (∀ W, Below w.heap.size w W → Calls Tryz.prog 79 #[.agg #[.int .i64 b.base, .int .i64 b.prod, .int .i64 b.epoch, .int .i64 b.seq, .bool b.txn, .int .i64 b.marker, .slice ad b.recs.length cap]] W (Says (rightE b) W)) := fun W hW => plain_any W b ad cap (hr.keep hW) ht hL
 obtain ⟨ev, hev⟩ := exq (rightE b)
 rw [← hev] at CP ⊢
 have CW : Hid (ev = 0 → ∀ W, Below w.heap.size w W → Calls Tryz.prog 80 #[.agg #[.int .i64 b.base, .int .i64 b.prod, .int .i64 b.epoch, .int .i64 b.seq, .bool b.txn, .int .i64 b.marker, .slice ad b.recs.length cap]] W (GivesRow W (bytesB b))) := by
  intro h W hW
  exact write_any W b ad _ cap (hr.keep hW) (ok_of (by rw [← hev, h])) hp
 have HLE : Hid (ev = 0 → (bytesB b).length ≤ 4096) := by
  intro h
  have := (ok_len (ok_of (b := b) (by rw [← hev, h]))).1
  omega
 clear hev hr ht hp
 obtain ⟨base, prod, epoch, seq, txn, marker, recs⟩ := b
 simp only at CP CW hL ⊢
 obtain ⟨len, hlen⟩ := exq recs.length
 rw [← hlen] at CP CW hL ⊢
 clear hlen
 obtain ⟨W0, hW0⟩ : ∃ W0, W0 = (w.alloc (.cells #[.int .i64 base, .int .i64 prod, .int .i64 epoch, .int .i64 seq, .bool txn, .int .i64 marker, .slice ad len cap] 29)) := ⟨_, rfl⟩
 have hs0 : W0.heap.size = w.heap.size + 1 := by rw [hW0]; simp
 have HX := qh (show BoxAt W0 w.heap.size base prod epoch seq txn marker (.slice ad len cap) by rw [hW0]; exact boxAt_new w _ _ _ _ _ _ _)
 have HB := qh (show Below w.heap.size w W0 by rw [hW0]; exact (bal _ _))
 have HW0 := qh hW0
 clear hW0
 go_enter Tryz.func46, Tryz.ntmps46
 go_wp2_with fail
 rw [← HW0.out]
 refine (CP.out W0 HB.out).mono ?_
 rintro e w1 ⟨rfl, hb⟩
 have HX1 := qh (HX.out.on hb)
 have HB1 := qh (HB.out.trans (hb.mono HB.out.size))
 clear hb
 by_cases h0 : ev = 0
 rotate_left
 · have h1 : (ev != 0) = true := by simpa using h0
   go_wp2
   go_ret
   exact says_mk rfl HB1.out
 have h1 : (ev != 0) = false := by simpa using h0
 have H0 := qh h0
 clear h0
 have hc0 := HX1.out.c0
 have hc1 := HX1.out.c1
 have hc2 := HX1.out.c2
 have hc3 := HX1.out.c3
 have hc4 := HX1.out.c4
 have hc5 := HX1.out.c5
 have hc6 := HX1.out.c6
 obtain ⟨n, hn⟩ : ∃ n, (bytesB ⟨base, prod, epoch, seq, txn, marker, recs⟩).length = n := ⟨_, rfl⟩
 have hn4 : n ≤ 4096 := by rw [← hn]; exact HLE.out H0.out
 have HN := qh hn
 clear hn
 go_wp2_with fail
 refine (CW.out H0.out w1 HB1.out).mono ?_
 rintro e w2 hg
 obtain ⟨g, c, rfl, ho, hb, hbb⟩ := gives_on hg HB1.out HN.out
 clear hg hc0 hc1 hc2 hc3 hc4 hc5 hc6
 go_wp2
 go_ret
 exact says_mk H0.out.symm hb.out
def GivesBytes (w : World) (ev : Int) (L : List Nat) (e : Ending) (w' : World) : Prop :=
 (ev = 0 ∧ ∃ g c, e = .returned (.tuple #[.slice (some ⟨g, 0, none⟩) L.length c, .int .i64 0]) ∧ w'.ownsRow w.heap.size 5 1 (.slice (some ⟨g, 0, none⟩) L.length c) L.length (vals L) ∧ Below w.heap.size w w') ∨
 (ev ≠ 0 ∧ e = .returned (.tuple #[.slice none 0 0, .int .i64 ev]) ∧ Below w.heap.size w w')
theorem gives_bytes {w w' : World} {ev : Int} {L : List Nat} {g c : Nat} (h : ev = 0) (h1 : w'.ownsRow w.heap.size 5 1 (.slice (some ⟨g, 0, none⟩) L.length c) L.length (vals L)) (h2 : Below w.heap.size w w') : GivesBytes w ev L (.returned (.tuple #[.slice (some ⟨g, 0, none⟩) L.length c, .int .i64 0])) w' := .inl ⟨h, g, c, rfl, h1, h2⟩
theorem gives_none {w w' : World} {ev : Int} {L : List Nat} (h : ev ≠ 0) (h2 : Below w.heap.size w w') : GivesBytes w ev L (.returned (.tuple #[.slice none 0 0, .int .i64 ev])) w' := .inr ⟨h, rfl, h2⟩
theorem refBytes_any (w : World) (b : Bat) (ad : Option Addr) (len cap : Nat) (hr : RecsAt w ad len cap b.recs) (ht : TextsOk b.recs) (hL : len ≤ 140737488355328) (hp : b.prod ≤ 9223372036854775807) :
 Calls Tryz.prog 53 #[.agg #[.int .i64 b.base, .int .i64 b.prod, .int .i64 b.epoch, .int .i64 b.seq, .bool b.txn, .int .i64 b.marker, .slice ad len cap]] w (GivesBytes w (rightE b) (bytesB b)) := by
 have CP : Hid (∀ W, Below w.heap.size w W → Calls Tryz.prog 46 #[.agg #[.int .i64 b.base, .int .i64 b.prod, .int .i64 b.epoch, .int .i64 b.seq, .bool b.txn, .int .i64 b.marker, .slice ad len cap]] W (Says (rightE b) W)) := fun W hW => refRight_any W b ad len cap (hr.keep hW) ht hL hp
 have CW : Hid (rightE b = 0 → ∀ W, Below w.heap.size w W → Calls Tryz.prog 80 #[.agg #[.int .i64 b.base, .int .i64 b.prod, .int .i64 b.epoch, .int .i64 b.seq, .bool b.txn, .int .i64 b.marker, .slice ad len cap]] W (GivesRow W (bytesB b))) :=
  fun h W hW => write_any W b ad len cap (hr.keep hW) (ok_of h) hp
 obtain ⟨ev, hev⟩ := exq (rightE b)
 rw [← hev] at CP CW ⊢
 obtain ⟨L, hLL⟩ := exq (bytesB b)
 rw [← hLL] at CW ⊢
 clear hev hr ht hp hLL hL
 obtain ⟨base, prod, epoch, seq, txn, marker, recs⟩ := b
 simp only at CP CW ⊢
 obtain ⟨W0, hW0⟩ : ∃ W0, W0 = (w.alloc (.cells #[.int .i64 base, .int .i64 prod, .int .i64 epoch, .int .i64 seq, .bool txn, .int .i64 marker, .slice ad len cap] 29)) := ⟨_, rfl⟩
 have hs0 : W0.heap.size = w.heap.size + 1 := by rw [hW0]; simp
 have HX := qh (show BoxAt W0 w.heap.size base prod epoch seq txn marker (.slice ad len cap) by rw [hW0]; exact boxAt_new w _ _ _ _ _ _ _)
 have HB := qh (show Below w.heap.size w W0 by rw [hW0]; exact (bal _ _))
 have HW0 := qh hW0
 clear hW0
 go_enter Tryz.func53, Tryz.ntmps53
 go_wp2_with fail
 rw [← HW0.out]
 refine (CP.out W0 HB.out).mono ?_
 rintro e w1 ⟨rfl, hb⟩
 have HX1 := qh (HX.out.on hb)
 have HB1 := qh (HB.out.trans (hb.mono HB.out.size))
 clear hb
 by_cases h0 : ev = 0
 rotate_left
 · have h1 : (ev != 0) = true := by simpa using h0
   have H0 := qh h0
   clear h0
   go_wp2
   go_ret2
   exact gives_none H0.out HB1.out
 have h1 : (ev != 0) = false := by simpa using h0
 have H0 := qh h0
 clear h0
 have hc0 := HX1.out.c0
 have hc1 := HX1.out.c1
 have hc2 := HX1.out.c2
 have hc3 := HX1.out.c3
 have hc4 := HX1.out.c4
 have hc5 := HX1.out.c5
 have hc6 := HX1.out.c6
 go_wp2_with fail
 refine (CW.out H0.out w1 HB1.out).mono ?_
 rintro e w2 hg
 obtain ⟨g, c, rfl, ho, hb, hbb⟩ := gives_on hg HB1.out rfl
 clear hg hc0 hc1 hc2 hc3 hc4 hc5 hc6
 go_wp2
 go_ret2
 exact gives_bytes H0.out ho.out hb.out
theorem refSize_any (w : World) (b : Bat) (ad : Option Addr) (len cap : Nat) (hr : RecsAt w ad len cap b.recs) (ht : TextsOk b.recs) (hL : len ≤ 140737488355328) (hp : b.prod ≤ 9223372036854775807) :
 Calls Tryz.prog 25 #[.agg #[.int .i64 b.base, .int .i64 b.prod, .int .i64 b.epoch, .int .i64 b.seq, .bool b.txn, .int .i64 b.marker, .slice ad len cap]] w (Says (sizeB b) w) := by
 have CP : Hid (∀ W, Below w.heap.size w W → Calls Tryz.prog 53 #[.agg #[.int .i64 b.base, .int .i64 b.prod, .int .i64 b.epoch, .int .i64 b.seq, .bool b.txn, .int .i64 b.marker, .slice ad len cap]] W (GivesBytes W (rightE b) (bytesB b))) := fun W hW => refBytes_any W b ad len cap (hr.keep hW) ht hL hp
 have HY : Hid (rightE b = 0 → ((bytesB b).length : Int) = sizeB b) := fun h => by unfold sizeB; rw [if_pos h]
 have HN : Hid (rightE b ≠ 0 → 0 = sizeB b) := fun h => by unfold sizeB; rw [if_neg h]
 obtain ⟨P, hP⟩ := exq (sizeB b)
 rw [← hP] at HY HN ⊢
 obtain ⟨ev, hev⟩ := exq (rightE b)
 rw [← hev] at HY HN CP
 obtain ⟨L, hLL⟩ := exq (bytesB b)
 rw [← hLL] at HY CP
 clear hev hP hr ht hp hLL hL
 obtain ⟨base, prod, epoch, seq, txn, marker, recs⟩ := b
 simp only at CP ⊢
 go_enter Tryz.func25, Tryz.ntmps25
 go_wp2_with fail
 refine (CP.out _ (bal _ _)).mono ?_
 rintro e w1 hg
 rcases hg with ⟨h, g, c, rfl, _, hb⟩ | ⟨h, rfl, hb⟩
 · have H := qh h
   have HB := qh (((Below.refl w.heap.size w).alloc (Nat.le_refl _) _).trans (hb.mono (by simp)))
   clear h hb
   go_wp2
   go_ret
   exact says_mk (HY.out H.out) HB.out
 have H := qh h
 have HB := qh (((Below.refl w.heap.size w).alloc (Nat.le_refl _) _).trans (hb.mono (by simp)))
 clear h hb
 go_wp2
 go_ret
 exact says_mk (HN.out H.out) HB.out
theorem refCount_any (w : World) (b0 b1 b2 b3 : Int) (b4 : Bool) (b5 : Int) (ad : Option Addr) (len cap : Nat) (n : Int) (hn : (if b5 ≠ 0 then 1 else (len : Int)) = n) :
 Calls Tryz.prog 74 #[.agg #[.int .i64 b0, .int .i64 b1, .int .i64 b2, .int .i64 b3, .bool b4, .int .i64 b5, .slice ad len cap]] w (Says n w) := by
 by_cases h : b5 = 0
 · subst h
   obtain rfl : (len : Int) = n := by rw [← hn, if_neg (by decide)]
   clear hn
   go_enter Tryz.func74, Tryz.ntmps74
   go_wp2
   go_ret
   exact says_mk rfl (bal _ _)
 have h1 : (b5 != 0) = true := by simpa using h
 obtain rfl : 1 = n := by rw [← hn, if_pos h]
 clear hn
 go_enter Tryz.func74, Tryz.ntmps74
 go_wp2
 go_ret
 exact says_mk rfl (bal _ _)
end Go.Proofs.YtjmfdildnojknaaGreat
