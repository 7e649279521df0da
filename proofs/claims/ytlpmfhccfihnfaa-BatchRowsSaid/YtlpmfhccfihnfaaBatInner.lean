/- The document's own 'inner' of chapter 6: what stands under the sum. -/
import Derived.Test.YtlpmfhccfihnfaaBatRecs
import Derived.Test.YtlpmfhccfihnfaaBatSame
import Derived.Laws.ResultCell
import Derived.Deep.RegionHeld3
import Derived.Deep.CutRange
namespace Go.Proofs.Ytlpmfhccfihnfaa
open Go.RowKit
open Go.SeqMath
open Go.BatMath hiding AllB getD_lt take_all
open Go.VarMath (longB length_longB textB backB cutB getB_bounds getB cutB_no cutB_yes)
set_option linter.unusedVariables false

theorem cutB_le (bs : List Nat) (most : Int) : (cutB bs most).2 ≤ bs.length := by
  obtain ⟨b2, b3, b4, b5⟩ := getB_bounds bs
  by_cases h : (getB bs).2 = 0 ∨ (getB bs).1 < 0 ∨ most < (getB bs).1 ∨ (bs.length : Int) - ((getB bs).2 : Int) < (getB bs).1
  · rw [cutB_no h]; exact Nat.zero_le _
  · rw [cutB_yes h]; simp only; omega
theorem resultsInner {tmps : Array Value} {B : Nat} {W : World} {b0 b1 b2 b3 : Int} {b4 : Bool} {b5 : Int} {v : Value} (h : BoxAt W B b0 b1 b2 b3 b4 b5 v) (ht : tmps.getD 2 undef = .pointer (some ⟨B, 0, none⟩)) :
    (results Try.f52 tmps).run Try.prog W = .ok (.tuple #[.agg #[.int .i64 b0, .int .i64 b1, .int .i64 b2, .int .i64 b3, .bool b4, .int .i64 b5, v], tmps.getD 3 undef]) W := by
  rw [results_cell_tmp (p := 2) (u := 3) (ty := 24) Try.results52, ht]
  have hl := run_loadVar_row (P := Try.prog) W B 24 24 _ (0, 0) _ h Try.underlying24 rfl (by kernel_rfl)
  simp only [asAddr, Sem.run_pure, Result.andThen, hl]
theorem boxAt_second (w : World) (o : Obj) (b0 b1 b2 b3 : Int) (b4 : Bool) (b5 : Int) (v : Value) : BoxAt (((w.alloc o).alloc (.cells #[.int .i64 b0, .int .i64 b1, .int .i64 b2, .int .i64 b3, .bool b4, .int .i64 b5, v] 24)).drew) (w.heap.size + 1) b0 b1 b2 b3 b4 b5 v := by
  have := boxAt_new (w.alloc o) b0 b1 b2 b3 b4 b5 v
  rw [show (w.alloc o).heap.size = w.heap.size + 1 by simp] at this
  exact this
/-- The two boxes of the walk: the batch that is being read, and the result that is none yet. -/
structure Two (w : World) (p e s : Int) (t : Bool) (m : Int) (v : Value) (W : World) : Prop where
  bx : BoxAt W (w.heap.size + 1) 0 p e s t m v
  rs : BoxAt W w.heap.size 0 0 0 0 false 0 (.slice none 0 0)
  bel : Below w.heap.size w W
theorem Two.sz {w W : World} {p e s : Int} {t : Bool} {m : Int} {v : Value} (h : Two w p e s t m v W) : w.heap.size + 1 + 1 ≤ W.heap.size := h.bx.lt
theorem Two.drew {w W : World} {p e s : Int} {t : Bool} {m : Int} {v : Value} (h : Two w p e s t m v W) : Two w p e s t m v W.drew := ⟨h.bx, h.rs, h.bel.drew⟩
theorem Two.s1 {w W : World} {p e s : Int} {t : Bool} {m : Int} {v : Value} (h : Two w p e s t m v W) (n : Int) : Two w n e s t m v (W.setCell ⟨w.heap.size + 1, 1, none⟩ (.int .i64 n)) := ⟨h.bx.s1 n, h.rs.off (by omega) _, h.bel.setCell (Nat.le_succ _) _⟩
theorem Two.s2 {w W : World} {p e s : Int} {t : Bool} {m : Int} {v : Value} (h : Two w p e s t m v W) (n : Int) : Two w p n s t m v (W.setCell ⟨w.heap.size + 1, 2, none⟩ (.int .i64 n)) := ⟨h.bx.s2 n, h.rs.off (by omega) _, h.bel.setCell (Nat.le_succ _) _⟩
theorem Two.s3 {w W : World} {p e s : Int} {t : Bool} {m : Int} {v : Value} (h : Two w p e s t m v W) (n : Int) : Two w p e n t m v (W.setCell ⟨w.heap.size + 1, 3, none⟩ (.int .i64 n)) := ⟨h.bx.s3 n, h.rs.off (by omega) _, h.bel.setCell (Nat.le_succ _) _⟩
theorem Two.s6 {w W : World} {p e s : Int} {t : Bool} {m : Int} {v : Value} (h : Two w p e s t m v W) (n : Value) : Two w p e s t m n (W.setCell ⟨w.heap.size + 1, 6, none⟩ n) := ⟨h.bx.s6 n, h.rs.off (by omega) _, h.bel.setCell (Nat.le_succ _) _⟩
theorem Two.on {w W W' : World} {p e s : Int} {t : Bool} {m : Int} {v : Value} (h : Two w p e s t m v W) (hb : Below W.heap.size W W') : Two w p e s t m v W' := ⟨h.bx.on hb, h.rs.on hb, h.bel.trans (hb.mono h.bel.size)⟩
theorem Two.grown {w W W' : World} {p e s : Int} {t : Bool} {m : Int} {u v : Value} {l : List Rc} (h : Two w p e s t m u W) (ho : OwnRecs W (w.heap.size + 1 + 1) v l) (hg : W.grownBy W' v.ownBlock) : Two w p e s t m u W' :=
  ⟨h.bx.grown ho (by omega) hg, h.rs.grown ho (by omega) hg, Below.recs h.bel ho (by omega) h.bel.size hg⟩
/-- A cell of a block below the records' is written. -/
theorem RecsAt.set {w : World} {base j len cap : Nat} {ad : Option Addr} {l : List Rc} {u : Value} (h : RecsAt w ad len cap l) (hb : ∀ a, ad = some a → base + 1 + 1 ≤ a.block) : RecsAt (w.setCell ⟨base, j, none⟩ u) ad len cap l := by
  refine ⟨h.length, h.fits, h.room, ?_⟩
  rcases h.cells with h0 | ⟨b, off, e, hlt, hc⟩
  · exact .inl h0
  · have hne : b ≠ base := by have := hb _ e; simp only at this; omega
    have hx : ∀ i, (w.setCell ⟨base, j, none⟩ u).cell? ⟨b, i, none⟩ = w.cell? ⟨b, i, none⟩ := fun i => World.cell?_of_block (a := ⟨b, i, none⟩) (by
      show (w.heap.modify base _)[b]? = _
      rw [Array.getElem?_modify, if_neg (Ne.symm hne)])
    refine .inr ⟨b, off, e, by simpa using hlt, fun i r hi => ?_⟩
    rw [hx, hx]
    exact hc i r hi
theorem two_new (w : World) (t : Bool) (m : Int) : Two w 0 0 0 t m (.slice none 0 0) (((w.alloc (.cells #[.int .i64 0, .int .i64 0, .int .i64 0, .int .i64 0, .bool false, .int .i64 0, .slice none 0 0] 24)).alloc (.cells #[.int .i64 0, .int .i64 0, .int .i64 0, .int .i64 0, .bool t, .int .i64 m, .slice none 0 0] 24)).drew) :=
  ⟨boxAt_second _ _ _ _ _ _ _ _ _, BoxAt.keep (B := w.heap.size + 1) (boxAt_new w 0 0 0 0 false 0 (.slice none 0 0)) (((Below.refl _ _).alloc (by simp) _).drew) (by omega), (((Below.refl _ _).alloc (Nat.le_refl _) _).alloc (by simp) _).drew⟩
/-- What inner gives. -/
def GivesInner (w : World) (x : List Nat) (e : Ending) (w' : World) : Prop :=
  ∃ (b : Bat) (ok : Bool) (ad : Option Addr) (cap : Nat), innerD x = (b, ok) ∧ e = .returned (.tuple #[.agg #[.int .i64 b.base, .int .i64 b.prod, .int .i64 b.epoch, .int .i64 b.seq, .bool b.txn, .int .i64 b.marker, .slice ad b.recs.length cap], .bool ok]) ∧
    RecsAt w' ad b.recs.length cap b.recs ∧ (∀ a, ad = some a → w.heap.size ≤ a.block) ∧ Below w.heap.size w w'
theorem gives_inner {w w' : World} {x : List Nat} {b : Bat} {ok : Bool} {ad : Option Addr} {n cap : Nat} (h : innerD x = (b, ok)) (hn : b.recs.length = n) (hr : RecsAt w' ad n cap b.recs) (hk : ∀ a, ad = some a → w.heap.size ≤ a.block) (hb : Below w.heap.size w w') :
    GivesInner w x (.returned (.tuple #[.agg #[.int .i64 b.base, .int .i64 b.prod, .int .i64 b.epoch, .int .i64 b.seq, .bool b.txn, .int .i64 b.marker, .slice ad n cap], .bool ok])) w' := by
  subst hn; exact ⟨b, ok, ad, cap, h, rfl, hr, hk, hb⟩
/-- What stands before round j of the loop over the records. -/
def InnerAt (w : World) (x : List Nat) (n : Nat) (p e s : Int) (t : Bool) (m : Int) (v6 v7 : Value) (wr : World) : Prop :=
  ∃ (j i : Nat) (l : List Rc) (v : Value), j ≤ n ∧ i ≤ x.length ∧ v7 = .int .i64 j ∧ v6 = .int .i64 i ∧ l.length = j ∧ OwnRecs wr (w.heap.size + 1 + 1) v l ∧
    recsD n x 20 = (recsD (n - j) x i).map (fun q => (l ++ q.1, q.2)) ∧ Two w p e s t m v wr
theorem map_nil_app (o : Option (List Rc × Nat)) : o = o.map (fun q => ([] ++ q.1, q.2)) := by cases o <;> rfl
theorem innerAt_start {w W : World} {x : List Nat} {n : Nat} {p e s : Int} {t : Bool} {m : Int} (hx : 20 ≤ x.length) (h : Two w p e s t m (.slice none 0 0) W) : InnerAt w x n p e s t m (.int .i64 20) (.int .i64 0) W :=
  ⟨0, 20, [], _, Nat.zero_le _, hx, rfl, rfl, rfl, ownRecs_nil _ _, map_nil_app _, h⟩
set_option maxRecDepth 100000 in
set_option maxHeartbeats 4000000 in
theorem inner_any (w : World) (ad : Option Addr) (len cap : Nat) (x : List Nat) (h : Byt w ad len cap x) (hL : len ≤ 4096) :
    Calls Try.prog 52 #[.slice ad len cap] w (GivesInner w x) := by
  have hxl := h.length
  by_cases h20 : len < 20
  · have hin : Hid (innerD x = (Bat.zero, false)) := by
      show innerD x = _
      unfold innerD
      rw [if_pos (by omega)]
    have hd : decide ((len : Int) < 20) = true := by simp; omega
    clear h hxl
    go_enter Try.func52, Try.ntmps52
    go_wp2
    exact bodyPost_ret (resultsInner (boxAt_new w 0 0 0 0 false 0 (.slice none 0 0)) rfl) rfl (gives_inner hin.out rfl (recsAt_nil _) (fun a h => by cases h) ((Below.refl _ _).alloc (Nat.le_refl _) _))
  · have h20' : 20 ≤ len := by omega
    obtain ⟨bx, ox, rfl, hcell⟩ := h.get (by omega)
    have g0 := getD_all h.all 0
    have g9 := getD_all h.all 9
    have g10 := getD_all h.all 10
    have g19 := getD_all h.all 19
    have hc0 := hcell 0 (by omega)
    have hc9 := hcell 9 (by omega)
    have hc10 := hcell 10 (by omega)
    have hc19 := hcell 19 (by omega)
    rw [Nat.add_zero] at hc0
    have hbx : bx < w.heap.size := World.block_lt_of_cell? _ _ hc0
    have hin : Hid (innerD x = innerOf (recsD (x.getD 19 0) x 20) (backB (x.drop 1)).1 (epD (x.getD 9 0 * 256 + x.getD 10 0)) (backB (x.drop 11)).1 (decide (x.getD 0 0 % 2 = 1)) ((x.getD 0 0 / 2 : Nat) : Int) x.length) := by
      show innerD x = _
      unfold innerD
      rw [if_neg (by omega)]
    obtain ⟨x0, hx0⟩ : ∃ x0, x0 = x.getD 0 0 := ⟨_, rfl⟩
    obtain ⟨x9, hx9⟩ : ∃ x0, x0 = x.getD 9 0 := ⟨_, rfl⟩
    obtain ⟨x10, hx10⟩ : ∃ x0, x0 = x.getD 10 0 := ⟨_, rfl⟩
    obtain ⟨n, hn⟩ : ∃ x0, x0 = x.getD 19 0 := ⟨_, rfl⟩
    obtain ⟨o1, k1, hs1, hB1⟩ := from_lit h 1 1 rfl (by omega)
    obtain ⟨o11, k11, hs11, hB11⟩ := from_lit h 11 11 rfl (by omega)
    obtain ⟨p, hp⟩ : ∃ p, p = (backB (x.drop 1)).1 := ⟨_, rfl⟩
    obtain ⟨s, hs⟩ : ∃ p, p = (backB (x.drop 11)).1 := ⟨_, rfl⟩
    obtain ⟨po, hpo⟩ : ∃ p, p = (backB (x.drop 1)).2 := ⟨_, rfl⟩
    obtain ⟨so, hso⟩ : ∃ p, p = (backB (x.drop 11)).2 := ⟨_, rfl⟩
    have CB1 : Hid (∀ W, Below w.heap.size w W → Calls Try.prog 53 #[.slice (some ⟨bx, o1, none⟩) (len - 1) k1] W fun e w' => e = .returned (.tuple #[.int .i64 p, .bool po]) ∧ W = w') := by
      intro W hW
      have := refBack_any W _ _ _ _ (hB1.keep hW (Nat.le_refl _)) (by omega)
      unfold GivesBack at this
      rw [← hp, ← hpo] at this
      exact this
    have CB11 : Hid (∀ W, Below w.heap.size w W → Calls Try.prog 53 #[.slice (some ⟨bx, o11, none⟩) (len - 11) k11] W fun e w' => e = .returned (.tuple #[.int .i64 s, .bool so]) ∧ W = w') := by
      intro W hW
      have := refBack_any W _ _ _ _ (hB11.keep hW (Nat.le_refl _)) (by omega)
      unfold GivesBack at this
      rw [← hs, ← hso] at this
      exact this
    rw [← hx0, ← hx9, ← hx10, ← hn, ← hp, ← hs] at hin
    rw [← hx0] at hc0 g0
    rw [← hx9] at hc9 g9
    rw [← hx10] at hc10 g10
    rw [← hn] at hc19 g19
    have hlow : bits .and .u8 (x0 : Int) 1 = ((x0 % 2 : Nat) : Int) := u8_low x0 g0
    obtain ⟨tx, htx⟩ : ∃ tx, (bits .and .u8 (x0 : Int) 1 == 1) = tx := ⟨_, rfl⟩
    have htx2 : Hid (decide (x0 % 2 = 1) = tx) := by
      show decide _ = tx
      rw [← htx, hlow]
      by_cases h1 : x0 % 2 = 1
      · rw [h1]; rfl
      · have : x0 % 2 = 0 := by omega
        rw [this]; rfl
    have hor : bits .or .i64 ((x9 : Int) * 256) (x10 : Int) = ((x9 * 256 + x10 : Nat) : Int) := by
      have := i64_or 8 (x9 * 256) x10 (by omega) (by omega) (by omega)
      rw [← this]
      rfl
    obtain ⟨ep, hep⟩ : ∃ ep, ep = x9 * 256 + x10 := ⟨_, rfl⟩
    rw [← hep] at hor hin
    obtain ⟨m2, hm2'⟩ : ∃ m2, m2 = x0 / 2 := ⟨_, rfl⟩
    have hm2 : (x0 : Int) / 2 = (m2 : Int) := by omega
    rw [← hm2'] at hin
    have hep6 : ep < 65536 := by omega
    have HX := Lib.hid h
    have HXL := Lib.hid hxl
    clear h hxl hcell hx0 hx9 hx10 hn hB1 hB11 hp hs hpo hso hlow hep hm2'
    have hd : decide ((len : Int) < 20) = false := by simp; omega
    have HC9 := Lib.hid hc9
    have HC10 := Lib.hid hc10
    have HC19 := Lib.hid hc19
    clear hc9 hc10 hc19
    go_enter Try.func52, Try.ntmps52
    go_upto_region 4 with fail
    go_cut [] from 16 (fun wx => Hid (Two w 0 0 0 tx (m2 : Int) (.slice none 0 0) wx))
    case first =>
      go_region
      go_wp2
      go_meet
      case rel => exact two_new w tx (m2 : Int)
    case rest =>
      have HT1 := hcut
      clear hc0
      have hk1 := HT1.out.bx.c1
      have hf1 := HT1.out.bx.free 1
      have HB1 := Lib.hid HT1.out.bel
      have hsl1 := hs1
      go_wp2_with fail
      refine (CB1.out _ HB1.out).mono ?_
      rintro e w' ⟨rfl, rfl⟩
      go_upto_region 6 with fail
      obtain ⟨W2, hW2⟩ : ∃ W2, W2 = wc.setCell ⟨w.heap.size + 1, 1, none⟩ (.int .i64 p) := ⟨_, rfl⟩
      have HT2 : Hid (Two w p 0 0 tx (m2 : Int) (.slice none 0 0) W2) := by show Two _ _ _ _ _ _ _ _; rw [hW2]; exact HT1.out.s1 p
      rw [← hW2]
      clear hk1 hf1 hsl1 hW2
      have hk2 := HT2.out.bx.c2
      have hf2 := HT2.out.bx.free 2
      have hx9 : W2.cell? ⟨bx, ox + 9, none⟩ = some (.int .u8 (x9 : Int)) := (HT2.out.bel.cell (p := ⟨bx, _, none⟩) hbx).trans HC9.out
      have hx10 : W2.cell? ⟨bx, ox + 10, none⟩ = some (.int .u8 (x10 : Int)) := (HT2.out.bel.cell (p := ⟨bx, _, none⟩) hbx).trans HC10.out
      go_cut [] from 35 (fun wx => Hid (Two w p (ep : Int) 0 tx (m2 : Int) (.slice none 0 0) wx))
      case first =>
        go_region
        go_wp2
        go_meet
        case rel => exact HT2.out.drew.s2 _
      case rest =>
        have HT3 := hcut
        clear hk2 hf2 hx9 hx10
        have hk2 := HT3.out.bx.c2
        have hf2 := HT3.out.bx.free 2
        go_upto_if 48 with (fail)
        go_cut [] from 46 (fun wx => Hid (Two w p (epD ep) 0 tx (m2 : Int) (.slice none 0 0) wx))
        case first =>
          by_cases he : ep = 65535
          · subst he
            go_wp2
            go_meet
            case rel => exact HT3.out.s2 (-1)
          · have he1 : ((ep : Int) == 65535) = false := by simp; omega
            have he2 : Hid (epD ep = (ep : Int)) := by show epD ep = _; unfold epD; rw [if_neg he]
            clear he
            go_wp2
            go_meet
            case rel =>
              rw [he2.out]
              exact HT3
        case rest =>
          have HT4 := hcut
          clear hk2 hf2
          have hk3 := HT4.out.bx.c3
          have hf3 := HT4.out.bx.free 3
          have HB4 := Lib.hid HT4.out.bel
          have hsl1 := hs11
          go_wp2_with fail
          refine (CB11.out _ HB4.out).mono ?_
          rintro e w' ⟨rfl, rfl⟩
          go_upto_region 10 with fail
          obtain ⟨W5, hW5⟩ : ∃ W5, W5 = wc.setCell ⟨w.heap.size + 1, 3, none⟩ (.int .i64 s) := ⟨_, rfl⟩
          have HT5 : Hid (Two w p (epD ep) s tx (m2 : Int) (.slice none 0 0) W5) := by show Two _ _ _ _ _ _ _ _; rw [hW5]; exact HT4.out.s3 s
          rw [← hW5]
          clear hk3 hf3 hsl1 hW5
          have hx19 : W5.cell? ⟨bx, ox + 19, none⟩ = some (.int .u8 (n : Int)) := (HT5.out.bel.cell (p := ⟨bx, _, none⟩) hbx).trans HC19.out
          go_wp2_with fail
          clear hx19
          go_loopw [6, 7] (fun v6 v7 wr => InnerAt w x n p (epD ep) s tx (m2 : Int) v6 v7 wr) (fun _ v7 _ => n - (intOf v7).toNat)
          case atStart => exact innerAt_start (by rw [HXL.out]; exact h20') HT5.out
          case round =>
            obtain ⟨j, i, l, v, hj, hi, rfl, rfl, hl, hown, hdec, htwo⟩ := hrel
            rw [HXL.out] at hi
            have HLJ := Lib.hid hl
            have HO := Lib.hid hown
            have HD := Lib.hid hdec
            have HT := Lib.hid htwo
            clear hl hown hdec htwo
            by_cases hlt : j < n
            · obtain ⟨o, c, hsl1, hB1⟩ := from_lit HX.out i (i : Int) rfl hi
              obtain ⟨a, ha⟩ : ∃ a, a = (cutB (x.drop i) (len : Int)).1 := ⟨_, rfl⟩
              obtain ⟨k, hk⟩ : ∃ a, a = (cutB (x.drop i) (len : Int)).2 := ⟨_, rfl⟩
              have hkl : k ≤ len - i := by
                have := cutB_le (x.drop i) (len : Int)
                rw [List.length_drop, HXL.out, ← hk] at this
                exact this
              have hik : i + k ≤ len := by omega
              obtain ⟨o2, c2, hsl2, hB2⟩ := from_lit HX.out (i + k) ((i : Int) + (k : Int)) (by omega) hik
              obtain ⟨a2, ha2⟩ : ∃ a, a = (cutB (x.drop (i + k)) (len : Int)).1 := ⟨_, rfl⟩
              obtain ⟨k2, hk2⟩ : ∃ a, a = (cutB (x.drop (i + k)) (len : Int)).2 := ⟨_, rfl⟩
              have hk2l : i + k + k2 ≤ len := by
                have := cutB_le (x.drop (i + k)) (len : Int)
                rw [List.length_drop, HXL.out, ← hk2] at this
                omega
              obtain ⟨s1, hs1'⟩ : ∃ s, s = sb a := ⟨_, rfl⟩
              obtain ⟨s2, hs2'⟩ : ∃ s, s = sb a2 := ⟨_, rfl⟩
              have C1 : Hid (∀ W, Below w.heap.size w W → Calls Try.prog 72 #[.slice (some ⟨bx, o, none⟩) (len - i) c, .int .i64 (len : Int)] W fun e w' => e = .returned (.tuple #[.string s1, .int .i64 (k : Int)]) ∧ Below W.heap.size W w') := by
                intro W hW
                have := refCut_any W _ _ _ _ (len : Int) (hB1.keep hW (Nat.le_refl _)) (by omega) (by omega) (by omega)
                unfold GivesCut at this
                rw [← ha, ← hk] at this
                rw [hs1']
                exact this
              have C2 : Hid (∀ W, Below w.heap.size w W → Calls Try.prog 72 #[.slice (some ⟨bx, o2, none⟩) (len - (i + k)) c2, .int .i64 (len : Int)] W fun e w' => e = .returned (.tuple #[.string s2, .int .i64 (k2 : Int)]) ∧ Below W.heap.size W w') := by
                intro W hW
                have := refCut_any W _ _ _ _ (len : Int) (hB2.keep hW (Nat.le_refl _)) (by omega) (by omega) (by omega)
                unfold GivesCut at this
                rw [← ha2, ← hk2] at this
                rw [hs2']
                exact this
              have hcut1 : cutB (x.drop i) (x.length : Int) = (a, k) := by rw [HXL.out, ha, hk]
              have hcut2 : cutB (x.drop (i + k)) (x.length : Int) = (a2, k2) := by rw [HXL.out, ha2, hk2]
              have hnj : n - j = n - (j + 1) + 1 := by omega
              have HFELL : Hid (k = 0 ∨ k2 = 0 → recsD n x 20 = none) := by
                intro hh
                rw [HD.out, hnj, recsD_fell hcut1 hcut2 hh]
                rfl
              have HSTEP : Hid (k ≠ 0 → k2 ≠ 0 → recsD n x 20 = (recsD (n - (j + 1)) x (i + k + k2)).map (fun q => ((l ++ [⟨s1, s2⟩]) ++ q.1, q.2))) := by
                intro h1 h2
                rw [HD.out, hnj, recsD_step hcut1 hcut2 h1 h2, hs1', hs2']
                cases recsD (n - (j + 1)) x (i + k + k2)
                · rfl
                · simp
              clear hB1 hB2 ha hk ha2 hk2 hs1' hs2' hcut1 hcut2 hnj hkl
              go_wp2_with fail
              refine (C1.out _ HT.out.bel).mono ?_
              rintro e w1 ⟨rfl, hb1⟩
              have HT1 := Lib.hid (HT.out.on hb1)
              have HO1 := Lib.hid (HO.out.on hb1)
              clear hb1
              go_wp2_with fail
              refine (C2.out _ HT1.out.bel).mono ?_
              rintro e w2 ⟨rfl, hb2⟩
              have HT2 := Lib.hid (HT1.out.on hb2)
              have HO2 := Lib.hid (HO1.out.on hb2)
              clear hb2 hsl1 hsl2
              by_cases hz : k = 0 ∨ k2 = 0
              · have HI0 : Hid (innerD x = (Bat.zero, false)) := by show innerD x = _; rw [hin.out, HFELL.out hz]; rfl
                have r0 := HT2.out.rs.c0
                have q0 := HT2.out.rs.free 0
                have r1 := HT2.out.rs.c1
                have q1 := HT2.out.rs.free 1
                have r2 := HT2.out.rs.c2
                have q2 := HT2.out.rs.free 2
                have r3 := HT2.out.rs.c3
                have q3 := HT2.out.rs.free 3
                have r4 := HT2.out.rs.c4
                have q4 := HT2.out.rs.free 4
                have r5 := HT2.out.rs.c5
                have q5 := HT2.out.rs.free 5
                have r6 := HT2.out.rs.c6
                have q6 := HT2.out.rs.free 6
                rcases Nat.eq_zero_or_pos k with hk0 | hk0
                · subst hk0
                  clear hz
                  go_wp2
                  exact bodyPost_ret (resultsInner (((((((HT2.out.rs.s0 0).s1 0).s2 0).s3 0).s4 false).s5 0).s6 (.slice none 0 0)) rfl) rfl (gives_inner HI0.out rfl (recsAt_nil _) (fun a h => by cases h) (((((((HT2.out.bel.setCell (Nat.le_refl _) _).setCell (Nat.le_refl _) _).setCell (Nat.le_refl _) _).setCell (Nat.le_refl _) _).setCell (Nat.le_refl _) _).setCell (Nat.le_refl _) _).setCell (Nat.le_refl _) _))
                · have hk20 : k2 = 0 := by omega
                  subst hk20
                  clear hz
                  have hkb : ((k : Int) == 0) = false := by simp; omega
                  go_wp2
                  exact bodyPost_ret (resultsInner (((((((HT2.out.rs.s0 0).s1 0).s2 0).s3 0).s4 false).s5 0).s6 (.slice none 0 0)) rfl) rfl (gives_inner HI0.out rfl (recsAt_nil _) (fun a h => by cases h) (((((((HT2.out.bel.setCell (Nat.le_refl _) _).setCell (Nat.le_refl _) _).setCell (Nat.le_refl _) _).setCell (Nat.le_refl _) _).setCell (Nat.le_refl _) _).setCell (Nat.le_refl _) _).setCell (Nat.le_refl _) _))
              · have hk1 : ((k : Int) == 0) = false := by simp; omega
                have hk2 : ((k2 : Int) == 0) = false := by simp; omega
                have HSTEP2 := Lib.hid (HSTEP.out (by omega) (by omega))
                have p6 := HT2.out.bx.c6
                clear hz
                go_wp2_with (at_builtin; refine list_recs (by rfl) (.tmp 94) (.tmp 98) rfl (w.heap.size + 1 + 1) l [⟨s1, s2⟩] _ rfl (HO2.out.on ((Below.refl _ _).alloc (Nat.le_refl _) _)) (by have := HT2.out.sz; simp; omega) ⟨w2.heap.size, 0, none⟩ 1 1 rfl rfl (recNews_lit w2 s1 s2 _ rfl) (by have := HLJ.out; omega) ?_)
                intro v' w3 ho3 hg3
                have HT3 := Lib.hid ((HT2.out.on ((Below.refl _ _).alloc (Nat.le_refl _) _)).grown (HO2.out.on ((Below.refl _ _).alloc (Nat.le_refl _) _)) hg3)
                obtain ⟨ad3, cap3, hv3, _, _⟩ := ho3.at
                obtain ⟨nl, hnl⟩ : ∃ nl, nl = (l ++ [(⟨s1, s2⟩ : Rc)]).length := ⟨_, rfl⟩
                rw [← hnl] at hv3
                subst hv3
                clear hnl
                have HO3 := Lib.hid ho3
                have p6' := HT3.out.bx.c6
                have f6 := HT3.out.bx.free 6
                have HLL : Hid ((l ++ [(⟨s1, s2⟩ : Rc)]).length = j + 1) := by show _ = _; rw [List.length_append, HLJ.out]; rfl
                have HIX : Hid (i + k + k2 ≤ x.length) := by show _ ≤ _; rw [HXL.out]; exact hk2l
                clear ho3 hg3 p6
                go_wp2
                go_roundw
                case rel => exact ⟨j + 1, i + k + k2, _, _, hlt, HIX.out, by go_num, by go_num, HLL.out, HO3.out.set (by omega), HSTEP2.out, HT3.out.s6 _⟩
                case measure => simp [intOf]; omega
            · obtain rfl : j = n := by omega
              obtain ⟨ad', cap', rfl, hrecs, hblk⟩ := HO.out.at
              have HREC := Lib.hid hrecs
              have HBLK := Lib.hid hblk
              have HDD : Hid (innerD x = (⟨0, p, epD ep, s, tx, (m2 : Int), l⟩, decide (i = len))) := by
                show innerD x = _
                rw [hin.out, htx2.out, HD.out, Nat.sub_self, HXL.out]
                simp [recsD, innerOf]
              clear hrecs hblk hlt
              rw [HLJ.out] at HREC
              have r0 := HT.out.rs.c0
              have q0 := HT.out.rs.free 0
              have r1 := HT.out.rs.c1
              have q1 := HT.out.rs.free 1
              have r2 := HT.out.rs.c2
              have q2 := HT.out.rs.free 2
              have r3 := HT.out.rs.c3
              have q3 := HT.out.rs.free 3
              have r4 := HT.out.rs.c4
              have q4 := HT.out.rs.free 4
              have r5 := HT.out.rs.c5
              have q5 := HT.out.rs.free 5
              have r6 := HT.out.rs.c6
              have q6 := HT.out.rs.free 6
              have p0 := HT.out.bx.c0
              have p1 := HT.out.bx.c1
              have p2 := HT.out.bx.c2
              have p3 := HT.out.bx.c3
              have p4 := HT.out.bx.c4
              have p5 := HT.out.bx.c5
              have p6 := HT.out.bx.c6
              by_cases hend : i = len
              · subst hend
                have HD2 : Hid (innerD x = (⟨0, p, epD ep, s, tx, (m2 : Int), l⟩, true)) := by show _ = _; rw [HDD.out]; simp
                rw [HLJ.out] at p6
                go_wp2
                exact bodyPost_ret (resultsInner (((((((HT.out.rs.s0 0).s1 p).s2 (epD ep)).s3 s).s4 tx).s5 (m2 : Int)).s6 (.slice ad' j cap')) rfl) rfl (gives_inner HD2.out HLJ.out (((((((HREC.out.set HBLK.out).set HBLK.out).set HBLK.out).set HBLK.out).set HBLK.out).set HBLK.out).set HBLK.out) (fun a h => by have := HBLK.out a h; omega) (((((((HT.out.bel.setCell (Nat.le_refl _) _).setCell (Nat.le_refl _) _).setCell (Nat.le_refl _) _).setCell (Nat.le_refl _) _).setCell (Nat.le_refl _) _).setCell (Nat.le_refl _) _).setCell (Nat.le_refl _) _))
              · have hib : ((i : Int) == (len : Int)) = false := by simp; omega
                have HD2 : Hid (innerD x = (⟨0, p, epD ep, s, tx, (m2 : Int), l⟩, false)) := by show _ = _; rw [HDD.out, decide_eq_false hend]
                rw [HLJ.out] at p6
                go_wp2
                exact bodyPost_ret (resultsInner (((((((HT.out.rs.s0 0).s1 p).s2 (epD ep)).s3 s).s4 tx).s5 (m2 : Int)).s6 (.slice ad' j cap')) rfl) rfl (gives_inner HD2.out HLJ.out (((((((HREC.out.set HBLK.out).set HBLK.out).set HBLK.out).set HBLK.out).set HBLK.out).set HBLK.out).set HBLK.out) (fun a h => by have := HBLK.out a h; omega) (((((((HT.out.bel.setCell (Nat.le_refl _) _).setCell (Nat.le_refl _) _).setCell (Nat.le_refl _) _).setCell (Nat.le_refl _) _).setCell (Nat.le_refl _) _).setCell (Nat.le_refl _) _).setCell (Nat.le_refl _) _))
end Go.Proofs.Ytlpmfhccfihnfaa
