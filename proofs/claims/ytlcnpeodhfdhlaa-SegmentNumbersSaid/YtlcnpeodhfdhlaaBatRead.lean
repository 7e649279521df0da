/- The document's own 'Read' of chapter 6. -/
import Derived.Test.YtlcnpeodhfdhlaaGBatA
import Derived.Test.YtlcnpeodhfdhlaaGBatB
import Derived.Test.YtlcnpeodhfdhlaaGCrc
import Derived.Deep.RegionWith
import Derived.Deep.RegionHeld3
namespace Go.Proofs.Ytlcnpeodhfdhlaa
open Go.RowKit
open Go.SeqMath
open Go.BatMath hiding AllB getD_lt take_all
open Go.VarMath (longB length_longB backB unbe)
open Go.CrcMath (okB sealB)
set_option linter.unusedVariables false

/-- What Unseal gives. -/
def GivesOpen (w : World) (bs : List Nat) (e : Ending) (w' : World) : Prop :=
  (okB bs = false ∧ e = .returned (.tuple #[.slice none 0 0, .bool false]) ∧ Below w.heap.size w w') ∨
  (okB bs = true ∧ ∃ g cap, e = .returned (.tuple #[.slice (some ⟨g, 0, none⟩) (bs.length - 4) cap, .bool true]) ∧ Byt w' (some ⟨g, 0, none⟩) (bs.length - 4) cap (bs.drop 4) ∧ Below w.heap.size w w')
theorem refUnseal_any (w : World) (ad : Option Addr) (len cap : Nat) (bs : List Nat) (h : Byt w ad len cap bs) (hL : len ≤ 140737488355300) :
    Calls Try.prog 58 #[.slice ad len cap] w (GivesOpen w bs) := by
  have hl := h.length
  by_cases h4 : len < 4
  · refine (unseal_short w ad len cap bs h h4).mono ?_
    rintro e w' ⟨he, n, rfl⟩
    exact .inl ⟨CrcMath.okB_short (by omega), he, bel_drewN (Below.refl _ _) n⟩
  · refine (unseal_long w ad len cap bs h (by omega) hL).mono ?_
    rintro e w' ⟨h1, h2⟩
    cases hok : okB bs
    · exact .inl ⟨hok, h1 hok⟩
    · obtain ⟨v, he, g, c, rfl, hc, hg, hp, hb⟩ := h2 hok
      rw [List.length_drop] at he hc
      refine .inr ⟨hok, g, c, he, ?_, hb⟩
      have := hp.byt (BatMath.drop_all h.all 4) c (by rw [List.length_drop]; exact hc)
      rw [List.length_drop] at this
      exact this
theorem results_cell_tmp2 {fn : Func} {p u v : Tmp} {ty : TypeId} (h : fn.results = #[.cell p ty, .tmp u, .tmp v]) (tmps : Array Value) (P : Program) (w : World) :
    (results fn tmps).run P w =
      ((asAddr (tmps.getD p undef)).run P w).andThen fun a w₁ => ((loadVar ty a).run P w₁).andThen fun x w₂ => .ok (.tuple #[x, tmps.getD u undef, tmps.getD v undef]) w₂ := by
  simp only [results, h]
  simp [Sem.run_bind, Result.andThen]
theorem resultsRead {tmps : Array Value} {B : Nat} {W : World} {b0 b1 b2 b3 : Int} {b4 : Bool} {b5 : Int} {v : Value} (h : BoxAt W B b0 b1 b2 b3 b4 b5 v) (ht : tmps.getD 2 undef = .pointer (some ⟨B, 0, none⟩)) :
    (results Try.f42 tmps).run Try.prog W = .ok (.tuple #[.agg #[.int .i64 b0, .int .i64 b1, .int .i64 b2, .int .i64 b3, .bool b4, .int .i64 b5, v], tmps.getD 3 undef, tmps.getD 4 undef]) W := by
  rw [results_cell_tmp2 (p := 2) (u := 3) (v := 4) (ty := 51) Try.results42, ht]
  have hl := run_loadVar_row (P := Try.prog) W B 51 51 _ (0, 0) _ h Try.underlying51 rfl (by kernel_rfl)
  simp only [asAddr, Sem.run_pure, Result.andThen, hl]
/-- What a reader gives: o. -/
def GivesRead (w : World) (o : Out) (e : Ending) (w' : World) : Prop :=
  ∃ (ad : Option Addr) (cap : Nat), e = .returned (.tuple #[.agg #[.int .i64 o.b.base, .int .i64 o.b.prod, .int .i64 o.b.epoch, .int .i64 o.b.seq, .bool o.b.txn, .int .i64 o.b.marker, .slice ad o.b.recs.length cap], .int .i64 (o.n : Nat), .int .i64 o.e]) ∧
    RecsAt w' ad o.b.recs.length cap o.b.recs ∧ (∀ a, ad = some a → w.heap.size ≤ a.block) ∧ Below w.heap.size w w'
theorem gives_read {w w' : World} {o : Out} {b : Bat} {ad : Option Addr} {n cap : Nat} {m : Int} {k : Nat} {ev : Int} (ho : o = ⟨b, k, ev⟩) (hm : m = (k : Int)) (hn : b.recs.length = n) (hr : RecsAt w' ad n cap b.recs) (hk : ∀ a, ad = some a → w.heap.size ≤ a.block) (hb : Below w.heap.size w w') :
    GivesRead w o (.returned (.tuple #[.agg #[.int .i64 b.base, .int .i64 b.prod, .int .i64 b.epoch, .int .i64 b.seq, .bool b.txn, .int .i64 b.marker, .slice ad n cap], .int .i64 m, .int .i64 ev])) w' := by
  subst hn ho hm; exact ⟨ad, cap, rfl, hr, hk, hb⟩
theorem len_four {x : List Nat} (h : 12 ≤ x.length) : lenD x = ((x.getD 8 0 * 256 + x.getD 9 0) * 256 + x.getD 10 0) * 256 + x.getD 11 0 := by
  have e : (x.drop 8).take 4 = [x.getD 8 0, x.getD 9 0, x.getD 10 0, x.getD 11 0] := by
    have h8 : x.drop 8 = x.getD 8 0 :: x.drop 9 := by rw [List.drop_eq_getElem_cons (by omega), List.getD_eq_getElem?_getD, List.getElem?_eq_getElem (by omega)]; rfl
    have h9 : x.drop 9 = x.getD 9 0 :: x.drop 10 := by rw [List.drop_eq_getElem_cons (by omega), List.getD_eq_getElem?_getD, List.getElem?_eq_getElem (by omega)]; rfl
    have h10 : x.drop 10 = x.getD 10 0 :: x.drop 11 := by rw [List.drop_eq_getElem_cons (by omega), List.getD_eq_getElem?_getD, List.getElem?_eq_getElem (by omega)]; rfl
    have h11 : x.drop 11 = x.getD 11 0 :: x.drop 12 := by rw [List.drop_eq_getElem_cons (by omega), List.getD_eq_getElem?_getD, List.getElem?_eq_getElem (by omega)]; rfl
    rw [h8, h9, h10, h11]
    rfl
  unfold lenD
  rw [e]
  simp [unbe]
set_option maxRecDepth 100000 in
set_option maxHeartbeats 4000000 in
theorem refRead_any (w : World) (ad : Option Addr) (len cap : Nat) (x : List Nat) (h : Byt w ad len cap x) (hL : len ≤ 140737488355328) :
    Calls Try.prog 42 #[.slice ad len cap] w (GivesRead w (readD x)) := by
  have hxl := h.length
  have hro : Hid (readD x = (if x.length < 12 then ⟨Bat.zero, 0, 12⟩
    else if 4096 < lenD x + 12 then ⟨Bat.zero, 0, 13⟩
    else if x.length < lenD x + 12 then ⟨Bat.zero, 0, 12⟩
    else if okB ((x.drop 12).take (lenD x)) = false then ⟨Bat.zero, 0, 12⟩
    else open Classical in
      if (innerD (((x.drop 12).take (lenD x)).drop 4)).2 = true ∧ rightE ((innerD (((x.drop 12).take (lenD x)).drop 4)).1.at (backB x).1) = 0 ∧ bytesB ((innerD (((x.drop 12).take (lenD x)).drop 4)).1.at (backB x).1) = x.take (12 + lenD x)
      then ⟨(innerD (((x.drop 12).take (lenD x)).drop 4)).1.at (backB x).1, lenD x + 12, 0⟩ else ⟨Bat.zero, 0, 12⟩)) := rfl
  obtain ⟨o, ho⟩ : ∃ o, o = readD x := ⟨_, rfl⟩
  rw [← ho] at hro ⊢
  clear ho
  by_cases h12 : len < 12
  · have HO : Hid (o = ⟨Bat.zero, 0, 12⟩) := by show o = _; rw [hro.out, if_pos (by omega)]
    have hd : decide ((len : Int) < 12) = true := by simp; omega
    clear h hxl
    go_enter Try.func42, Try.ntmps42
    go_wp2
    exact bodyPost_ret (resultsRead (boxAt_new w 0 0 0 0 false 0 (.slice none 0 0)) rfl) rfl (gives_read HO.out rfl rfl (recsAt_nil _) (fun a h => by cases h) ((Below.refl _ _).alloc (Nat.le_refl _) _))
  · have h12' : 12 ≤ len := by omega
    obtain ⟨bx, ox, rfl, hcell⟩ := h.get (by omega)
    have g8 := getD_all h.all 8
    have g9 := getD_all h.all 9
    have g10 := getD_all h.all 10
    have g11 := getD_all h.all 11
    have hc8 := hcell 8 (by omega)
    have hc9 := hcell 9 (by omega)
    have hc10 := hcell 10 (by omega)
    have hc11 := hcell 11 (by omega)
    have hbx : bx < w.heap.size := World.block_lt_of_cell? _ _ hc8
    have hN := len_four (x := x) (by omega)
    obtain ⟨a, ha⟩ : ∃ a, a = x.getD 8 0 := ⟨_, rfl⟩
    obtain ⟨b, hb⟩ : ∃ a, a = x.getD 9 0 := ⟨_, rfl⟩
    obtain ⟨c, hc⟩ : ∃ a, a = x.getD 10 0 := ⟨_, rfl⟩
    obtain ⟨d, hd⟩ : ∃ a, a = x.getD 11 0 := ⟨_, rfl⟩
    rw [← ha, ← hb, ← hc, ← hd] at hN
    rw [← ha] at hc8 g8
    rw [← hb] at hc9 g9
    rw [← hc] at hc10 g10
    rw [← hd] at hc11 g11
    obtain ⟨N, hNN⟩ : ∃ N, N = lenD x := ⟨_, rfl⟩
    rw [← hNN] at hN hro
    obtain ⟨n1, hn1⟩ : ∃ n, n = a * 16777216 + b * 65536 := ⟨_, rfl⟩
    obtain ⟨n2, hn2⟩ : ∃ n, n = n1 + c * 256 := ⟨_, rfl⟩
    have hor1 : bits .or .i64 ((a : Int) * 16777216) ((b : Int) * 65536) = (n1 : Int) := by
      have := i64_or 24 (a * 16777216) (b * 65536) (by omega) (by omega) (by omega)
      rw [hn1, ← this]
      rfl
    have hor2 : bits .or .i64 (n1 : Int) ((c : Int) * 256) = (n2 : Int) := by
      have := i64_or 16 n1 (c * 256) (by omega) (by omega) (by omega)
      rw [hn2, ← this]
      rfl
    have hor3 : bits .or .i64 (n2 : Int) (d : Int) = (N : Int) := by
      rw [i64_or 8 n2 d (by omega) (by omega) (by omega), hN, hn2, hn1]
      congr 1
      omega
    have hN32 : N < 4294967296 := by omega
    have hdl : decide ((len : Int) < 12) = false := by simp; omega
    have HX := Lib.hid h
    have HXL := Lib.hid hxl
    clear h hxl hcell hn1 hn2 hN ha hb hc hd hNN
    have HRS := Lib.hid (boxAt_new w 0 0 0 0 false 0 (.slice none 0 0))
    go_enter Try.func42, Try.ntmps42
    go_upto_region 3 with fail
    go_cut [5] from 13 (fun s5 wx => s5 = .int .i64 (N : Int) ∧ Hid (BoxAt wx w.heap.size 0 0 0 0 false 0 (.slice none 0 0)) ∧ Hid (Below w.heap.size w wx))
    case first =>
      go_quiet (fail)
      go_wp2
      go_meet
      case rel => exact ⟨rfl, HRS, bel_drewN ((Below.refl _ _).alloc (Nat.le_refl _) _) _⟩
    case rest =>
      obtain ⟨rfl, HBX, HBW⟩ := hcut
      clear hc8 hc9 hc10 hc11 hor1 hor2 hor3
      have hn12 : ¬ x.length < 12 := by rw [HXL.out]; exact h12
      by_cases h2 : 4096 < N + 12
      · have HO : Hid (o = ⟨Bat.zero, 0, 13⟩) := by show o = _; rw [hro.out, if_neg hn12, if_pos h2]
        have r0 := HBX.out.c0
        have q0 := HBX.out.free 0
        have r1 := HBX.out.c1
        have q1 := HBX.out.free 1
        have r2 := HBX.out.c2
        have q2 := HBX.out.free 2
        have r3 := HBX.out.c3
        have q3 := HBX.out.free 3
        have r4 := HBX.out.c4
        have q4 := HBX.out.free 4
        have r5 := HBX.out.c5
        have q5 := HBX.out.free 5
        have r6 := HBX.out.c6
        have q6 := HBX.out.free 6
        go_wp2
        exact bodyPost_ret (resultsRead (((((((HBX.out.s0 0).s1 0).s2 0).s3 0).s4 false).s5 0).s6 (.slice none 0 0)) rfl) rfl (gives_read HO.out rfl rfl (recsAt_nil _) (fun a h => by cases h) (((((((HBW.out.setCell (Nat.le_refl _) _).setCell (Nat.le_refl _) _).setCell (Nat.le_refl _) _).setCell (Nat.le_refl _) _).setCell (Nat.le_refl _) _).setCell (Nat.le_refl _) _).setCell (Nat.le_refl _) _))
      · have h2' : N + 12 ≤ 4096 := by omega
        by_cases h3 : len < N + 12
        · have HO : Hid (o = ⟨Bat.zero, 0, 12⟩) := by show o = _; rw [hro.out, if_neg hn12, if_neg h2, if_pos (by rw [HXL.out]; exact h3)]
          have r0 := HBX.out.c0
          have q0 := HBX.out.free 0
          have r1 := HBX.out.c1
          have q1 := HBX.out.free 1
          have r2 := HBX.out.c2
          have q2 := HBX.out.free 2
          have r3 := HBX.out.c3
          have q3 := HBX.out.free 3
          have r4 := HBX.out.c4
          have q4 := HBX.out.free 4
          have r5 := HBX.out.c5
          have q5 := HBX.out.free 5
          have r6 := HBX.out.c6
          have q6 := HBX.out.free 6
          go_wp2
          exact bodyPost_ret (resultsRead (((((((HBX.out.s0 0).s1 0).s2 0).s3 0).s4 false).s5 0).s6 (.slice none 0 0)) rfl) rfl (gives_read HO.out rfl rfl (recsAt_nil _) (fun a h => by cases h) (((((((HBW.out.setCell (Nat.le_refl _) _).setCell (Nat.le_refl _) _).setCell (Nat.le_refl _) _).setCell (Nat.le_refl _) _).setCell (Nat.le_refl _) _).setCell (Nat.le_refl _) _).setCell (Nat.le_refl _) _))
        · have h3' : N + 12 ≤ len := by omega
          have hro2 : Hid (o = (if okB ((x.drop 12).take N) = false then ⟨Bat.zero, 0, 12⟩
              else open Classical in
                if (innerD (((x.drop 12).take N).drop 4)).2 = true ∧ rightE ((innerD (((x.drop 12).take N).drop 4)).1.at (backB x).1) = 0 ∧ bytesB ((innerD (((x.drop 12).take N).drop 4)).1.at (backB x).1) = x.take (12 + N)
                then ⟨(innerD (((x.drop 12).take N).drop 4)).1.at (backB x).1, N + 12, 0⟩ else ⟨Bat.zero, 0, 12⟩)) := by
            show o = _
            rw [hro.out, if_neg hn12, if_neg h2, if_neg (by rw [HXL.out]; exact h3)]
          obtain ⟨o12, c12, hsl, hB12⟩ := part_lit HX.out 12 N 12 (12 + (N : Int)) rfl (by omega) (by omega)
          obtain ⟨y, hy⟩ : ∃ y, y = (x.drop 12).take N := ⟨_, rfl⟩
          rw [← hy] at hro2 hB12
          have hyl := hB12.length
          have HB12 := Lib.hid hB12
          have HYL := Lib.hid hyl
          clear hro hn12 h2 h3 hy hB12 hyl
          go_wp2_with fail
          refine (refUnseal_any wc _ _ _ y (HB12.out.keep HBW.out (Nat.le_refl _)) (by omega)).mono ?_
          rintro e w2 hg
          rcases hg with ⟨hok, rfl, hb2⟩ | ⟨hok, g2, c2, rfl, hby2, hb2⟩
          · have HO : Hid (o = ⟨Bat.zero, 0, 12⟩) := by show o = _; rw [hro2.out, if_pos hok]
            have HBX2 := Lib.hid (HBX.out.on hb2)
            have HBW2 := Lib.hid (HBW.out.trans (hb2.mono HBW.out.size))
            clear hb2 hok hsl
            have r0 := HBX2.out.c0
            have q0 := HBX2.out.free 0
            have r1 := HBX2.out.c1
            have q1 := HBX2.out.free 1
            have r2 := HBX2.out.c2
            have q2 := HBX2.out.free 2
            have r3 := HBX2.out.c3
            have q3 := HBX2.out.free 3
            have r4 := HBX2.out.c4
            have q4 := HBX2.out.free 4
            have r5 := HBX2.out.c5
            have q5 := HBX2.out.free 5
            have r6 := HBX2.out.c6
            have q6 := HBX2.out.free 6
            go_wp2
            exact bodyPost_ret (resultsRead (((((((HBX2.out.s0 0).s1 0).s2 0).s3 0).s4 false).s5 0).s6 (.slice none 0 0)) rfl) rfl (gives_read HO.out rfl rfl (recsAt_nil _) (fun a h => by cases h) (((((((HBW2.out.setCell (Nat.le_refl _) _).setCell (Nat.le_refl _) _).setCell (Nat.le_refl _) _).setCell (Nat.le_refl _) _).setCell (Nat.le_refl _) _).setCell (Nat.le_refl _) _).setCell (Nat.le_refl _) _))
          · have HBX2 := Lib.hid (HBX.out.on hb2)
            have HBW2 := Lib.hid (HBW.out.trans (hb2.mono HBW.out.size))
            rw [HYL.out] at hby2 ⊢
            have hro3 : Hid (o = (open Classical in
                if (innerD (y.drop 4)).2 = true ∧ rightE ((innerD (y.drop 4)).1.at (backB x).1) = 0 ∧ bytesB ((innerD (y.drop 4)).1.at (backB x).1) = x.take (12 + N)
                then ⟨(innerD (y.drop 4)).1.at (backB x).1, N + 12, 0⟩ else ⟨Bat.zero, 0, 12⟩)) := by
              show o = _
              rw [hro2.out, if_neg (by rw [hok]; decide)]
            have HBY2 := Lib.hid hby2
            clear hro2 hb2 hby2 hok hsl
            go_wp2_with fail
            refine (inner_any w2 _ _ _ _ HBY2.out (by omega)).mono ?_
            rintro e w3 ⟨b1, ok, ad1, cap1, hin, rfl, hrec, hblk, hb3⟩
            have HBLK : Hid (∀ a, ad1 = some a → w.heap.size < a.block) := fun a h => by have h1 := hblk a h; have h2 := HBX2.out.lt; omega
            have HBX3 := Lib.hid (HBX2.out.on hb3)
            have HBW3 := Lib.hid (HBW2.out.trans (hb3.mono HBW2.out.size))
            rw [hin] at hro3
            have hwf : b1.wf := by
              have := inner_wf (BatMath.drop_all (p := y) HB12.out.all 4)
              rw [hin] at this
              exact this
            have HREC := Lib.hid hrec
            obtain ⟨bs, hbs⟩ : ∃ p, p = (backB x).1 := ⟨_, rfl⟩
            obtain ⟨bo, hbo⟩ : ∃ p, p = (backB x).2 := ⟨_, rfl⟩
            rw [← hbs] at hro3
            have CB : Hid (∀ W, Below w.heap.size w W → Calls Try.prog 60 #[.slice (some ⟨bx, ox, none⟩) len cap] W fun e w' => e = .returned (.tuple #[.int .i64 bs, .bool bo]) ∧ W = w') := by
              intro W hW
              have := refBack_any W _ _ _ _ (HX.out.keep hW (Nat.le_refl _)) hL
              unfold GivesBack at this
              rw [← hbs, ← hbo] at this
              exact this
            have hsh := inner_short (BatMath.drop_all (p := y) HB12.out.all 4) hin
            rw [List.length_drop, HYL.out] at hsh
            clear hin hrec hblk hb3 hbs hbo
            go_wp2_with fail
            refine (CB.out _ (HBW3.out.alloc HBW3.out.size _)).mono ?_
            rintro e w' ⟨rfl, rfl⟩
            go_upto_region 13 with fail
            obtain ⟨W4, hW4⟩ : ∃ W4, W4 = w3.alloc (.cells #[.int .i64 bs, .int .i64 b1.prod, .int .i64 b1.epoch, .int .i64 b1.seq, .bool b1.txn, .int .i64 b1.marker, .slice ad1 b1.recs.length cap1] 51) := ⟨_, rfl⟩
            have HBV := Lib.hid (show BoxAt W4 w3.heap.size bs b1.prod b1.epoch b1.seq b1.txn b1.marker (.slice ad1 b1.recs.length cap1) by rw [hW4]; exact boxAt_new w3 _ _ _ _ _ _ _)
            have hb34 : Below w3.heap.size w3 W4 := by rw [hW4]; exact (Below.refl _ _).alloc (Nat.le_refl _) _
            have HBX4 := Lib.hid (HBX3.out.on hb34)
            have HBW4 := Lib.hid (HBW3.out.trans (hb34.mono HBW3.out.size))
            have HREC4 := Lib.hid (HREC.out.keep hb34)
            rw [← hW4]
            obtain ⟨k4, hk4⟩ : ∃ k4, k4 = w3.heap.size := ⟨_, rfl⟩
            rw [← hk4] at HBV ⊢
            clear hb34 hW4 hk4
            have htx : TextsOk b1.recs := fun r hr => by have := hsh.2 r hr; omega
            have hln : b1.recs.length ≤ 140737488355328 := by have := hsh.1; omega
            have hp1 : b1.prod ≤ 9223372036854775807 := hwf.prod.2
            obtain ⟨sp, hsp⟩ : ∃ sp, sp = str (x.take (12 + N)) := ⟨_, rfl⟩
            have hpb := byt_upto HX.out (12 + N) (by omega)
            have hfit := HX.out.fits
            have hw12 : IntKind.i64.wrap (12 + (N : Int)) = 12 + (N : Int) := IntWalk.i64_in _ (by omega)
            have ht12 : (12 + (N : Int)).toNat = 12 + N := by omega
            have hc12 : 12 + (N : Int) ≤ (cap : Int) := by omega
            have hc0 : 0 ≤ 12 + (N : Int) := by omega
            obtain ⟨ev, hev⟩ : ∃ ev, ev = rightE (b1.at bs) := ⟨_, rfl⟩
            obtain ⟨L, hLL⟩ : ∃ L, L = bytesB (b1.at bs) := ⟨_, rfl⟩
            obtain ⟨sw, hsw⟩ : ∃ sw, sw = str L := ⟨_, rfl⟩
            obtain ⟨q3, hq3⟩ : ∃ q3 : Bool, q3 = true ↔ L = x.take (12 + N) := by
              rcases Classical.em (L = x.take (12 + N)) with h | h
              · exact ⟨true, fun _ => h, fun _ => rfl⟩
              · exact ⟨false, fun h' => (by cases h'), fun h' => absurd h' h⟩
            have hevs : ev = 0 ∨ ev = 12 ∨ ev = 13 ∨ ev = 18 := by rw [hev]; exact right_few _
            have HBAD : Hid ((ok && (decide (ev = 0) && q3)) = false → o = ⟨Bat.zero, 0, 12⟩) := by
              intro h
              rw [hro3.out, if_neg]
              rintro ⟨h1, h2, h3⟩
              rw [← hev] at h2
              rw [← hLL] at h3
              rw [show ok = true from h1, h2, hq3.2 h3] at h
              cases h
            have HGOOD : Hid ((ok && (decide (ev = 0) && q3)) = true → o = ⟨b1.at bs, N + 12, 0⟩) := by
              intro h
              have h1 : ok = true ∧ ev = 0 ∧ q3 = true := by simpa using h
              rw [hro3.out, if_pos ⟨h1.1, by rw [← hev]; exact h1.2.1, by rw [← hLL]; exact hq3.1 h1.2.2⟩]
            have CR : Hid (∀ W, Below W4.heap.size W4 W → Calls Try.prog 40 #[.agg #[.int .i64 bs, .int .i64 b1.prod, .int .i64 b1.epoch, .int .i64 b1.seq, .bool b1.txn, .int .i64 b1.marker, .slice ad1 b1.recs.length cap1]] W fun e w' => e = .returned (.int .i64 ev) ∧ Hid (Below W4.heap.size W4 w')) := by
              intro W hW
              refine (refRight_any W (b1.at bs) ad1 _ cap1 (HREC4.out.keep hW) htx hln hp1).mono ?_
              rintro e w' ⟨he, hb⟩
              exact ⟨by rw [he, hev], hW.trans (hb.mono hW.size)⟩
            have CW : Hid (ev = 0 → ∀ W, Below W4.heap.size W4 W → Calls Try.prog 41 #[.agg #[.int .i64 bs, .int .i64 b1.prod, .int .i64 b1.epoch, .int .i64 b1.seq, .bool b1.txn, .int .i64 b1.marker, .slice ad1 b1.recs.length cap1]] W fun e w' => ∃ g c, e = .returned (.slice (some ⟨g, 0, none⟩) L.length c) ∧ Hid (Below W4.heap.size W4 w') ∧
                (convert 26 9 (.slice (some ⟨g, 0, none⟩) L.length c)).run Try.prog w' = .ok (.string sw) w') := by
              intro h0 W hW
              have hok2 : Ok (b1.at bs) := ok_of (by rw [← hev]; exact h0)
              refine (write_any W (b1.at bs) ad1 _ cap1 (HREC4.out.keep hW) hok2 hp1).mono ?_
              rintro e w' ⟨g, c, he, ho, hb⟩
              rw [← hLL] at he ho
              exact ⟨g, c, he, hW.trans (hb.mono hW.size), run_str_at (owns_row ho (by rw [hLL]; exact bytes_all hok2)).1 hsw⟩
            have HS7 : Hid (∀ W, Below W4.heap.size W4 W → Below W4.heap.size W4 W ∧ W.cell? ⟨k4, 0, none⟩ = some (.int .i64 bs) ∧ W.cell? ⟨k4, 1, none⟩ = some (.int .i64 b1.prod) ∧ W.cell? ⟨k4, 2, none⟩ = some (.int .i64 b1.epoch) ∧ W.cell? ⟨k4, 3, none⟩ = some (.int .i64 b1.seq) ∧ W.cell? ⟨k4, 4, none⟩ = some (.bool b1.txn) ∧ W.cell? ⟨k4, 5, none⟩ = some (.int .i64 b1.marker) ∧ W.cell? ⟨k4, 6, none⟩ = some (.slice ad1 b1.recs.length cap1)) := fun W hW => have hx := HBV.out.on hW; ⟨hW, hx.c0, hx.c1, hx.c2, hx.c3, hx.c4, hx.c5, hx.c6⟩
            have HS8 : Hid (∀ W, Below W4.heap.size W4 W → Below W4.heap.size W4 W ∧ (convert 26 9 (.slice (some ⟨bx, ox, none⟩) (12 + N) cap)).run Try.prog W = .ok (.string sp) W ∧ W.cell? ⟨k4, 0, none⟩ = some (.int .i64 bs) ∧ W.cell? ⟨k4, 1, none⟩ = some (.int .i64 b1.prod) ∧ W.cell? ⟨k4, 2, none⟩ = some (.int .i64 b1.epoch) ∧ W.cell? ⟨k4, 3, none⟩ = some (.int .i64 b1.seq) ∧ W.cell? ⟨k4, 4, none⟩ = some (.bool b1.txn) ∧ W.cell? ⟨k4, 5, none⟩ = some (.int .i64 b1.marker) ∧ W.cell? ⟨k4, 6, none⟩ = some (.slice ad1 b1.recs.length cap1)) := fun W hW => have hx := HBV.out.on hW; ⟨hW, run_str_at (hpb.keep (HBW4.out.trans (hW.mono HBW4.out.size)) (Nat.le_refl _)) hsp, hx.c0, hx.c1, hx.c2, hx.c3, hx.c4, hx.c5, hx.c6⟩
            have HEQ : Hid (q3 = true → (sw.toList == sp.toList) = true) := by
              intro h
              rw [hsw, hsp, hq3.1 h]
              exact str_same _
            have HNE : Hid (ev = 0 → q3 = false → (sw.toList == sp.toList) = false) := by
              intro h0 h
              have hok2 : Ok (b1.at bs) := ok_of (by rw [← hev]; exact h0)
              rw [hsw, hsp]
              refine str_differ (by rw [hLL]; exact bytes_all hok2) (BatMath.take_all HX.out.all _) fun e => ?_
              rw [hq3.2 e] at h
              cases h
            clear hro3 hev hLL hsw hsp hpb hq3 htx hln hp1 hwf hsh
            go_cut [84] from 67 (fun s84 wx => s84 = .bool (!(ok && (decide (ev = 0) && q3))) ∧ Hid (Below W4.heap.size W4 wx))
            case first =>
              cases ok
              · go_quiet (fail)
                go_wp2
                go_meet
                case rel => exact ⟨rfl, bel_drewN (Below.refl _ _) _⟩
              · rcases hevs with rfl | rfl | rfl | rfl
                · have CW2 := Lib.hid (CW.out rfl)
                  cases q3
                  · have hne := HNE.out rfl rfl
                    refine wp_region_noPanic ?_
                    refine wp_region_held_drew (S := (fun W => Below W4.heap.size W4 W ∧ (convert 26 9 (.slice (some ⟨bx, ox, none⟩) (12 + N) cap)).run Try.prog W = .ok (.string sp) W ∧ W.cell? ⟨k4, 0, none⟩ = some (.int .i64 bs) ∧ W.cell? ⟨k4, 1, none⟩ = some (.int .i64 b1.prod) ∧ W.cell? ⟨k4, 2, none⟩ = some (.int .i64 b1.epoch) ∧ W.cell? ⟨k4, 3, none⟩ = some (.int .i64 b1.seq) ∧ W.cell? ⟨k4, 4, none⟩ = some (.bool b1.txn) ∧ W.cell? ⟨k4, 5, none⟩ = some (.int .i64 b1.marker) ∧ W.cell? ⟨k4, 6, none⟩ = some (.slice ad1 b1.recs.length cap1))) (by kernel_rfl) (HS8.out _ (Below.refl _ _).drew) (fun hHeld => ?_)
                    refine wpAnyH_take (i := 0) (oi := ⟨_, _, _, _, _, _⟩) (v := ?_) rfl (by kernel_rfl) (by kernel_rfl) (by kernel_rfl) (fun _ _ _ h => h) (Or.inl ⟨by rfl, ?_⟩) (by assumption) ?_
                    rotate_left
                    · intro W hSw
                      (try dsimp only at hSw)
                      go_simp
                      (try with_reducible rfl)
                    (try simp only [Act.put, List.setIfInBounds_toArray, List.set_cons_zero, List.set_cons_succ])
                    refine wpAnyH_take (i := 1) (oi := ⟨_, _, _, _, _, _⟩) (v := ?_) rfl (by kernel_rfl) (by kernel_rfl) (by kernel_rfl) (fun _ _ _ h => h) (Or.inl ⟨by rfl, ?_⟩) (by assumption) ?_
                    rotate_left
                    · intro W hSw
                      (try dsimp only at hSw)
                      go_simp
                      (try with_reducible rfl)
                    (try simp only [Act.put, List.setIfInBounds_toArray, List.set_cons_zero, List.set_cons_succ])
                    refine wpAnyH_take (i := 2) (oi := ⟨_, _, _, _, _, _⟩) (v := ?_) rfl (by kernel_rfl) (by kernel_rfl) (by kernel_rfl) (fun _ _ _ h => h) (Or.inl ⟨by rfl, ?_⟩) (by assumption) ?_
                    rotate_left
                    · intro W hSw
                      (try dsimp only at hSw)
                      go_simp
                      (try with_reducible rfl)
                    (try simp only [Act.put, List.setIfInBounds_toArray, List.set_cons_zero, List.set_cons_succ])
                    refine wpAnyH_take (i := 3) (oi := ⟨_, _, _, _, _, _⟩) (v := ?_) rfl (by kernel_rfl) (by kernel_rfl) (by kernel_rfl) (fun _ _ _ h => h) (Or.inl ⟨by rfl, ?_⟩) (by assumption) ?_
                    rotate_left
                    · intro W hSw
                      (try dsimp only at hSw)
                      go_simp
                      (try with_reducible rfl)
                    (try simp only [Act.put, List.setIfInBounds_toArray, List.set_cons_zero, List.set_cons_succ])
                    refine wpAnyH_ready (rs := [4]) (by kernel_rfl) (by simp) ?_
                    refine AllReadyH.cons (o := ⟨_, _, _, _, _, _⟩) rfl (fun K hK => ?_) AllReadyH.nil
                    go_simp
                    refine (CR.out _ (And.left hHeld)).mono ?_
                    rintro e w5 ⟨rfl, hb5⟩
                    go_wp2_with fail
                    refine hK.out _ _ ?_ (fun hHeld => ?_)
                    · exact HS8.out _ hb5.out
                    clear hK K
                    (try simp only [Act.put, List.setIfInBounds_toArray, List.set_cons_zero, List.set_cons_succ])
                    refine wpAnyH_take (i := 5) (oi := ⟨_, _, _, _, _, _⟩) (v := ?_) rfl (by kernel_rfl) (by kernel_rfl) (by kernel_rfl) (fun _ _ _ h => h) (Or.inl ⟨by rfl, ?_⟩) (by assumption) ?_
                    rotate_left
                    · intro W hSw
                      (try dsimp only at hSw)
                      go_simp
                      (try with_reducible rfl)
                    (try simp only [Act.put, List.setIfInBounds_toArray, List.set_cons_zero, List.set_cons_succ])
                    refine wpAnyH_take (i := 6) (oi := ⟨_, _, _, _, _, _⟩) (v := ?_) rfl (by kernel_rfl) (by kernel_rfl) (by kernel_rfl) (fun _ _ _ h => h) (Or.inl ⟨by rfl, ?_⟩) (by assumption) ?_
                    rotate_left
                    · intro W hSw
                      (try dsimp only at hSw)
                      go_simp
                      (try with_reducible rfl)
                    (try simp only [Act.put, List.setIfInBounds_toArray, List.set_cons_zero, List.set_cons_succ])
                    refine wpAnyH_take (i := 7) (oi := ⟨_, _, _, _, _, _⟩) (v := ?_) rfl (by kernel_rfl) (by kernel_rfl) (by kernel_rfl) (fun _ _ _ h => h) (Or.inl ⟨by rfl, ?_⟩) (by assumption) ?_
                    rotate_left
                    · intro W hSw
                      (try dsimp only at hSw)
                      go_simp
                      (try with_reducible rfl)
                    (try simp only [Act.put, List.setIfInBounds_toArray, List.set_cons_zero, List.set_cons_succ])
                    refine wpAnyH_take (i := 8) (oi := ⟨_, _, _, _, _, _⟩) (v := ?_) rfl (by kernel_rfl) (by kernel_rfl) (by kernel_rfl) (fun _ _ _ h => h) (Or.inl ⟨by rfl, ?_⟩) (by assumption) ?_
                    rotate_left
                    · intro W hSw
                      (try dsimp only at hSw)
                      go_simp
                      (try with_reducible rfl)
                    (try simp only [Act.put, List.setIfInBounds_toArray, List.set_cons_zero, List.set_cons_succ])
                    refine wpAnyH_take (i := 11) (oi := ⟨_, _, _, _, _, _⟩) (v := ?_) rfl (by kernel_rfl) (by kernel_rfl) (by kernel_rfl) (fun _ _ _ h => h) (Or.inl ⟨by rfl, ?_⟩) (by assumption) ?_
                    rotate_left
                    · intro W hSw
                      (try dsimp only at hSw)
                      go_simp
                      (try with_reducible rfl)
                    (try simp only [Act.put, List.setIfInBounds_toArray, List.set_cons_zero, List.set_cons_succ])
                    refine wpAnyH_take (i := 12) (oi := ⟨_, _, _, _, _, _⟩) (v := ?_) rfl (by kernel_rfl) (by kernel_rfl) (by kernel_rfl) (fun _ _ _ h => h) (Or.inl ⟨by rfl, ?_⟩) (by assumption) ?_
                    rotate_left
                    · intro W hSw
                      (try dsimp only at hSw)
                      go_simp
                      (try with_reducible rfl)
                    (try simp only [Act.put, List.setIfInBounds_toArray, List.set_cons_zero, List.set_cons_succ])
                    refine wpAnyH_take (i := 13) (oi := ⟨_, _, _, _, _, _⟩) (v := ?_) rfl (by kernel_rfl) (by kernel_rfl) (by kernel_rfl) (fun _ _ _ h => h) (Or.inl ⟨by rfl, ?_⟩) (by assumption) ?_
                    rotate_left
                    · intro W hSw
                      (try dsimp only at hSw)
                      go_simp
                      (try with_reducible rfl)
                    (try simp only [Act.put, List.setIfInBounds_toArray, List.set_cons_zero, List.set_cons_succ])
                    refine wpAnyH_take (i := 14) (oi := ⟨_, _, _, _, _, _⟩) (v := ?_) rfl (by kernel_rfl) (by kernel_rfl) (by kernel_rfl) (fun _ _ _ h => h) (Or.inl ⟨by rfl, ?_⟩) (by assumption) ?_
                    rotate_left
                    · intro W hSw
                      (try dsimp only at hSw)
                      go_simp
                      (try with_reducible rfl)
                    (try simp only [Act.put, List.setIfInBounds_toArray, List.set_cons_zero, List.set_cons_succ])
                    refine wpAnyH_take (i := 15) (oi := ⟨_, _, _, _, _, _⟩) (v := ?_) rfl (by kernel_rfl) (by kernel_rfl) (by kernel_rfl) (fun _ _ _ h => h) (Or.inl ⟨by rfl, ?_⟩) (by assumption) ?_
                    rotate_left
                    · intro W hSw
                      (try dsimp only at hSw)
                      go_simp
                      (try with_reducible rfl)
                    (try simp only [Act.put, List.setIfInBounds_toArray, List.set_cons_zero, List.set_cons_succ])
                    refine wpAnyH_ready (rs := [9]) (by kernel_rfl) (by simp) ?_
                    refine AllReadyH.cons (o := ⟨_, _, _, _, _, _⟩) rfl (fun K hK => ?_) AllReadyH.nil
                    go_simp
                    refine (CW2.out _ (And.left hHeld)).mono ?_
                    rintro e w6 ⟨g6, k6, rfl, hb6, hcv⟩
                    go_wp2_with fail
                    refine hK.out _ _ ?_ (fun hHeld => ?_)
                    · exact HS8.out _ hb6.out
                    clear hK K
                    (try simp only [Act.put, List.setIfInBounds_toArray, List.set_cons_zero, List.set_cons_succ])
                    refine wpAnyH_strengthen (S' := (fun W => (Below W4.heap.size W4 W ∧ (convert 26 9 (.slice (some ⟨bx, ox, none⟩) (12 + N) cap)).run Try.prog W = .ok (.string sp) W ∧ W.cell? ⟨k4, 0, none⟩ = some (.int .i64 bs) ∧ W.cell? ⟨k4, 1, none⟩ = some (.int .i64 b1.prod) ∧ W.cell? ⟨k4, 2, none⟩ = some (.int .i64 b1.epoch) ∧ W.cell? ⟨k4, 3, none⟩ = some (.int .i64 b1.seq) ∧ W.cell? ⟨k4, 4, none⟩ = some (.bool b1.txn) ∧ W.cell? ⟨k4, 5, none⟩ = some (.int .i64 b1.marker) ∧ W.cell? ⟨k4, 6, none⟩ = some (.slice ad1 b1.recs.length cap1)) ∧ (convert 26 9 (.slice (some ⟨g6, 0, none⟩) L.length k6)).run Try.prog W = .ok (.string sw) W)) (fun W h => h.1) _ _ _ _ ?_
                    clear hHeld
                    have hHeld : (fun W => (Below W4.heap.size W4 W ∧ (convert 26 9 (.slice (some ⟨bx, ox, none⟩) (12 + N) cap)).run Try.prog W = .ok (.string sp) W ∧ W.cell? ⟨k4, 0, none⟩ = some (.int .i64 bs) ∧ W.cell? ⟨k4, 1, none⟩ = some (.int .i64 b1.prod) ∧ W.cell? ⟨k4, 2, none⟩ = some (.int .i64 b1.epoch) ∧ W.cell? ⟨k4, 3, none⟩ = some (.int .i64 b1.seq) ∧ W.cell? ⟨k4, 4, none⟩ = some (.bool b1.txn) ∧ W.cell? ⟨k4, 5, none⟩ = some (.int .i64 b1.marker) ∧ W.cell? ⟨k4, 6, none⟩ = some (.slice ad1 b1.recs.length cap1)) ∧ (convert 26 9 (.slice (some ⟨g6, 0, none⟩) L.length k6)).run Try.prog W = .ok (.string sw) W) w6 := ⟨HS8.out _ hb6.out, hcv⟩
                    refine wpAnyH_take (i := 10) (oi := ⟨_, _, _, _, _, _⟩) (v := ?_) rfl (by kernel_rfl) (by kernel_rfl) (by kernel_rfl) (fun _ _ _ h => h) (Or.inl ⟨by rfl, ?_⟩) (by assumption) ?_
                    rotate_left
                    · intro W hSw
                      (try dsimp only at hSw)
                      go_simp
                      (try with_reducible rfl)
                    (try simp only [Act.put, List.setIfInBounds_toArray, List.set_cons_zero, List.set_cons_succ])
                    refine wpAnyH_take (i := 16) (oi := ⟨_, _, _, _, _, _⟩) (v := ?_) rfl (by kernel_rfl) (by kernel_rfl) (by kernel_rfl) (fun _ _ _ h => h) (Or.inl ⟨by rfl, ?_⟩) (by assumption) ?_
                    rotate_left
                    · intro W hSw
                      (try dsimp only at hSw)
                      go_simp
                      (try with_reducible rfl)
                    (try simp only [Act.put, List.setIfInBounds_toArray, List.set_cons_zero, List.set_cons_succ])
                    refine wpAnyH_take (i := 17) (oi := ⟨_, _, _, _, _, _⟩) (v := ?_) rfl (by kernel_rfl) (by kernel_rfl) (by kernel_rfl) (fun _ _ _ h => h) (Or.inl ⟨by rfl, ?_⟩) (by assumption) ?_
                    rotate_left
                    · intro W hSw
                      (try dsimp only at hSw)
                      go_simp
                      (try with_reducible rfl)
                    (try simp only [Act.put, List.setIfInBounds_toArray, List.set_cons_zero, List.set_cons_succ])
                    refine wpAnyH_done (by kernel_rfl) ?_ _
                    refine NoPanic.normal ?_
                    go_wp2
                    go_meet
                    case rel => exact ⟨by simp, hb6⟩
                  · have heq := HEQ.out rfl
                    refine wp_region_noPanic ?_
                    refine wp_region_held_drew (S := (fun W => Below W4.heap.size W4 W ∧ (convert 26 9 (.slice (some ⟨bx, ox, none⟩) (12 + N) cap)).run Try.prog W = .ok (.string sp) W ∧ W.cell? ⟨k4, 0, none⟩ = some (.int .i64 bs) ∧ W.cell? ⟨k4, 1, none⟩ = some (.int .i64 b1.prod) ∧ W.cell? ⟨k4, 2, none⟩ = some (.int .i64 b1.epoch) ∧ W.cell? ⟨k4, 3, none⟩ = some (.int .i64 b1.seq) ∧ W.cell? ⟨k4, 4, none⟩ = some (.bool b1.txn) ∧ W.cell? ⟨k4, 5, none⟩ = some (.int .i64 b1.marker) ∧ W.cell? ⟨k4, 6, none⟩ = some (.slice ad1 b1.recs.length cap1))) (by kernel_rfl) (HS8.out _ (Below.refl _ _).drew) (fun hHeld => ?_)
                    refine wpAnyH_take (i := 0) (oi := ⟨_, _, _, _, _, _⟩) (v := ?_) rfl (by kernel_rfl) (by kernel_rfl) (by kernel_rfl) (fun _ _ _ h => h) (Or.inl ⟨by rfl, ?_⟩) (by assumption) ?_
                    rotate_left
                    · intro W hSw
                      (try dsimp only at hSw)
                      go_simp
                      (try with_reducible rfl)
                    (try simp only [Act.put, List.setIfInBounds_toArray, List.set_cons_zero, List.set_cons_succ])
                    refine wpAnyH_take (i := 1) (oi := ⟨_, _, _, _, _, _⟩) (v := ?_) rfl (by kernel_rfl) (by kernel_rfl) (by kernel_rfl) (fun _ _ _ h => h) (Or.inl ⟨by rfl, ?_⟩) (by assumption) ?_
                    rotate_left
                    · intro W hSw
                      (try dsimp only at hSw)
                      go_simp
                      (try with_reducible rfl)
                    (try simp only [Act.put, List.setIfInBounds_toArray, List.set_cons_zero, List.set_cons_succ])
                    refine wpAnyH_take (i := 2) (oi := ⟨_, _, _, _, _, _⟩) (v := ?_) rfl (by kernel_rfl) (by kernel_rfl) (by kernel_rfl) (fun _ _ _ h => h) (Or.inl ⟨by rfl, ?_⟩) (by assumption) ?_
                    rotate_left
                    · intro W hSw
                      (try dsimp only at hSw)
                      go_simp
                      (try with_reducible rfl)
                    (try simp only [Act.put, List.setIfInBounds_toArray, List.set_cons_zero, List.set_cons_succ])
                    refine wpAnyH_take (i := 3) (oi := ⟨_, _, _, _, _, _⟩) (v := ?_) rfl (by kernel_rfl) (by kernel_rfl) (by kernel_rfl) (fun _ _ _ h => h) (Or.inl ⟨by rfl, ?_⟩) (by assumption) ?_
                    rotate_left
                    · intro W hSw
                      (try dsimp only at hSw)
                      go_simp
                      (try with_reducible rfl)
                    (try simp only [Act.put, List.setIfInBounds_toArray, List.set_cons_zero, List.set_cons_succ])
                    refine wpAnyH_ready (rs := [4]) (by kernel_rfl) (by simp) ?_
                    refine AllReadyH.cons (o := ⟨_, _, _, _, _, _⟩) rfl (fun K hK => ?_) AllReadyH.nil
                    go_simp
                    refine (CR.out _ (And.left hHeld)).mono ?_
                    rintro e w5 ⟨rfl, hb5⟩
                    go_wp2_with fail
                    refine hK.out _ _ ?_ (fun hHeld => ?_)
                    · exact HS8.out _ hb5.out
                    clear hK K
                    (try simp only [Act.put, List.setIfInBounds_toArray, List.set_cons_zero, List.set_cons_succ])
                    refine wpAnyH_take (i := 5) (oi := ⟨_, _, _, _, _, _⟩) (v := ?_) rfl (by kernel_rfl) (by kernel_rfl) (by kernel_rfl) (fun _ _ _ h => h) (Or.inl ⟨by rfl, ?_⟩) (by assumption) ?_
                    rotate_left
                    · intro W hSw
                      (try dsimp only at hSw)
                      go_simp
                      (try with_reducible rfl)
                    (try simp only [Act.put, List.setIfInBounds_toArray, List.set_cons_zero, List.set_cons_succ])
                    refine wpAnyH_take (i := 6) (oi := ⟨_, _, _, _, _, _⟩) (v := ?_) rfl (by kernel_rfl) (by kernel_rfl) (by kernel_rfl) (fun _ _ _ h => h) (Or.inl ⟨by rfl, ?_⟩) (by assumption) ?_
                    rotate_left
                    · intro W hSw
                      (try dsimp only at hSw)
                      go_simp
                      (try with_reducible rfl)
                    (try simp only [Act.put, List.setIfInBounds_toArray, List.set_cons_zero, List.set_cons_succ])
                    refine wpAnyH_take (i := 7) (oi := ⟨_, _, _, _, _, _⟩) (v := ?_) rfl (by kernel_rfl) (by kernel_rfl) (by kernel_rfl) (fun _ _ _ h => h) (Or.inl ⟨by rfl, ?_⟩) (by assumption) ?_
                    rotate_left
                    · intro W hSw
                      (try dsimp only at hSw)
                      go_simp
                      (try with_reducible rfl)
                    (try simp only [Act.put, List.setIfInBounds_toArray, List.set_cons_zero, List.set_cons_succ])
                    refine wpAnyH_take (i := 8) (oi := ⟨_, _, _, _, _, _⟩) (v := ?_) rfl (by kernel_rfl) (by kernel_rfl) (by kernel_rfl) (fun _ _ _ h => h) (Or.inl ⟨by rfl, ?_⟩) (by assumption) ?_
                    rotate_left
                    · intro W hSw
                      (try dsimp only at hSw)
                      go_simp
                      (try with_reducible rfl)
                    (try simp only [Act.put, List.setIfInBounds_toArray, List.set_cons_zero, List.set_cons_succ])
                    refine wpAnyH_take (i := 11) (oi := ⟨_, _, _, _, _, _⟩) (v := ?_) rfl (by kernel_rfl) (by kernel_rfl) (by kernel_rfl) (fun _ _ _ h => h) (Or.inl ⟨by rfl, ?_⟩) (by assumption) ?_
                    rotate_left
                    · intro W hSw
                      (try dsimp only at hSw)
                      go_simp
                      (try with_reducible rfl)
                    (try simp only [Act.put, List.setIfInBounds_toArray, List.set_cons_zero, List.set_cons_succ])
                    refine wpAnyH_take (i := 12) (oi := ⟨_, _, _, _, _, _⟩) (v := ?_) rfl (by kernel_rfl) (by kernel_rfl) (by kernel_rfl) (fun _ _ _ h => h) (Or.inl ⟨by rfl, ?_⟩) (by assumption) ?_
                    rotate_left
                    · intro W hSw
                      (try dsimp only at hSw)
                      go_simp
                      (try with_reducible rfl)
                    (try simp only [Act.put, List.setIfInBounds_toArray, List.set_cons_zero, List.set_cons_succ])
                    refine wpAnyH_take (i := 13) (oi := ⟨_, _, _, _, _, _⟩) (v := ?_) rfl (by kernel_rfl) (by kernel_rfl) (by kernel_rfl) (fun _ _ _ h => h) (Or.inl ⟨by rfl, ?_⟩) (by assumption) ?_
                    rotate_left
                    · intro W hSw
                      (try dsimp only at hSw)
                      go_simp
                      (try with_reducible rfl)
                    (try simp only [Act.put, List.setIfInBounds_toArray, List.set_cons_zero, List.set_cons_succ])
                    refine wpAnyH_take (i := 14) (oi := ⟨_, _, _, _, _, _⟩) (v := ?_) rfl (by kernel_rfl) (by kernel_rfl) (by kernel_rfl) (fun _ _ _ h => h) (Or.inl ⟨by rfl, ?_⟩) (by assumption) ?_
                    rotate_left
                    · intro W hSw
                      (try dsimp only at hSw)
                      go_simp
                      (try with_reducible rfl)
                    (try simp only [Act.put, List.setIfInBounds_toArray, List.set_cons_zero, List.set_cons_succ])
                    refine wpAnyH_take (i := 15) (oi := ⟨_, _, _, _, _, _⟩) (v := ?_) rfl (by kernel_rfl) (by kernel_rfl) (by kernel_rfl) (fun _ _ _ h => h) (Or.inl ⟨by rfl, ?_⟩) (by assumption) ?_
                    rotate_left
                    · intro W hSw
                      (try dsimp only at hSw)
                      go_simp
                      (try with_reducible rfl)
                    (try simp only [Act.put, List.setIfInBounds_toArray, List.set_cons_zero, List.set_cons_succ])
                    refine wpAnyH_ready (rs := [9]) (by kernel_rfl) (by simp) ?_
                    refine AllReadyH.cons (o := ⟨_, _, _, _, _, _⟩) rfl (fun K hK => ?_) AllReadyH.nil
                    go_simp
                    refine (CW2.out _ (And.left hHeld)).mono ?_
                    rintro e w6 ⟨g6, k6, rfl, hb6, hcv⟩
                    go_wp2_with fail
                    refine hK.out _ _ ?_ (fun hHeld => ?_)
                    · exact HS8.out _ hb6.out
                    clear hK K
                    (try simp only [Act.put, List.setIfInBounds_toArray, List.set_cons_zero, List.set_cons_succ])
                    refine wpAnyH_strengthen (S' := (fun W => (Below W4.heap.size W4 W ∧ (convert 26 9 (.slice (some ⟨bx, ox, none⟩) (12 + N) cap)).run Try.prog W = .ok (.string sp) W ∧ W.cell? ⟨k4, 0, none⟩ = some (.int .i64 bs) ∧ W.cell? ⟨k4, 1, none⟩ = some (.int .i64 b1.prod) ∧ W.cell? ⟨k4, 2, none⟩ = some (.int .i64 b1.epoch) ∧ W.cell? ⟨k4, 3, none⟩ = some (.int .i64 b1.seq) ∧ W.cell? ⟨k4, 4, none⟩ = some (.bool b1.txn) ∧ W.cell? ⟨k4, 5, none⟩ = some (.int .i64 b1.marker) ∧ W.cell? ⟨k4, 6, none⟩ = some (.slice ad1 b1.recs.length cap1)) ∧ (convert 26 9 (.slice (some ⟨g6, 0, none⟩) L.length k6)).run Try.prog W = .ok (.string sw) W)) (fun W h => h.1) _ _ _ _ ?_
                    clear hHeld
                    have hHeld : (fun W => (Below W4.heap.size W4 W ∧ (convert 26 9 (.slice (some ⟨bx, ox, none⟩) (12 + N) cap)).run Try.prog W = .ok (.string sp) W ∧ W.cell? ⟨k4, 0, none⟩ = some (.int .i64 bs) ∧ W.cell? ⟨k4, 1, none⟩ = some (.int .i64 b1.prod) ∧ W.cell? ⟨k4, 2, none⟩ = some (.int .i64 b1.epoch) ∧ W.cell? ⟨k4, 3, none⟩ = some (.int .i64 b1.seq) ∧ W.cell? ⟨k4, 4, none⟩ = some (.bool b1.txn) ∧ W.cell? ⟨k4, 5, none⟩ = some (.int .i64 b1.marker) ∧ W.cell? ⟨k4, 6, none⟩ = some (.slice ad1 b1.recs.length cap1)) ∧ (convert 26 9 (.slice (some ⟨g6, 0, none⟩) L.length k6)).run Try.prog W = .ok (.string sw) W) w6 := ⟨HS8.out _ hb6.out, hcv⟩
                    refine wpAnyH_take (i := 10) (oi := ⟨_, _, _, _, _, _⟩) (v := ?_) rfl (by kernel_rfl) (by kernel_rfl) (by kernel_rfl) (fun _ _ _ h => h) (Or.inl ⟨by rfl, ?_⟩) (by assumption) ?_
                    rotate_left
                    · intro W hSw
                      (try dsimp only at hSw)
                      go_simp
                      (try with_reducible rfl)
                    (try simp only [Act.put, List.setIfInBounds_toArray, List.set_cons_zero, List.set_cons_succ])
                    refine wpAnyH_take (i := 16) (oi := ⟨_, _, _, _, _, _⟩) (v := ?_) rfl (by kernel_rfl) (by kernel_rfl) (by kernel_rfl) (fun _ _ _ h => h) (Or.inl ⟨by rfl, ?_⟩) (by assumption) ?_
                    rotate_left
                    · intro W hSw
                      (try dsimp only at hSw)
                      go_simp
                      (try with_reducible rfl)
                    (try simp only [Act.put, List.setIfInBounds_toArray, List.set_cons_zero, List.set_cons_succ])
                    refine wpAnyH_take (i := 17) (oi := ⟨_, _, _, _, _, _⟩) (v := ?_) rfl (by kernel_rfl) (by kernel_rfl) (by kernel_rfl) (fun _ _ _ h => h) (Or.inl ⟨by rfl, ?_⟩) (by assumption) ?_
                    rotate_left
                    · intro W hSw
                      (try dsimp only at hSw)
                      go_simp
                      (try with_reducible rfl)
                    (try simp only [Act.put, List.setIfInBounds_toArray, List.set_cons_zero, List.set_cons_succ])
                    refine wpAnyH_done (by kernel_rfl) ?_ _
                    refine NoPanic.normal ?_
                    go_wp2
                    go_meet
                    case rel => exact ⟨by simp, hb6⟩
                · have hbe : ((12 : Int) != 0) = true := by decide
                  refine wp_region_noPanic ?_
                  refine wp_region_held_drew (S := (fun W => Below W4.heap.size W4 W ∧ W.cell? ⟨k4, 0, none⟩ = some (.int .i64 bs) ∧ W.cell? ⟨k4, 1, none⟩ = some (.int .i64 b1.prod) ∧ W.cell? ⟨k4, 2, none⟩ = some (.int .i64 b1.epoch) ∧ W.cell? ⟨k4, 3, none⟩ = some (.int .i64 b1.seq) ∧ W.cell? ⟨k4, 4, none⟩ = some (.bool b1.txn) ∧ W.cell? ⟨k4, 5, none⟩ = some (.int .i64 b1.marker) ∧ W.cell? ⟨k4, 6, none⟩ = some (.slice ad1 b1.recs.length cap1))) (by kernel_rfl) (HS7.out _ (Below.refl _ _).drew) (fun hHeld => ?_)
                  refine wpAnyH_take (i := 0) (oi := ⟨_, _, _, _, _, _⟩) (v := ?_) rfl (by kernel_rfl) (by kernel_rfl) (by kernel_rfl) (fun _ _ _ h => h) (Or.inl ⟨by rfl, ?_⟩) (by assumption) ?_
                  rotate_left
                  · intro W hSw
                    (try dsimp only at hSw)
                    go_simp
                    (try with_reducible rfl)
                  (try simp only [Act.put, List.setIfInBounds_toArray, List.set_cons_zero, List.set_cons_succ])
                  refine wpAnyH_take (i := 1) (oi := ⟨_, _, _, _, _, _⟩) (v := ?_) rfl (by kernel_rfl) (by kernel_rfl) (by kernel_rfl) (fun _ _ _ h => h) (Or.inl ⟨by rfl, ?_⟩) (by assumption) ?_
                  rotate_left
                  · intro W hSw
                    (try dsimp only at hSw)
                    go_simp
                    (try with_reducible rfl)
                  (try simp only [Act.put, List.setIfInBounds_toArray, List.set_cons_zero, List.set_cons_succ])
                  refine wpAnyH_take (i := 2) (oi := ⟨_, _, _, _, _, _⟩) (v := ?_) rfl (by kernel_rfl) (by kernel_rfl) (by kernel_rfl) (fun _ _ _ h => h) (Or.inl ⟨by rfl, ?_⟩) (by assumption) ?_
                  rotate_left
                  · intro W hSw
                    (try dsimp only at hSw)
                    go_simp
                    (try with_reducible rfl)
                  (try simp only [Act.put, List.setIfInBounds_toArray, List.set_cons_zero, List.set_cons_succ])
                  refine wpAnyH_take (i := 3) (oi := ⟨_, _, _, _, _, _⟩) (v := ?_) rfl (by kernel_rfl) (by kernel_rfl) (by kernel_rfl) (fun _ _ _ h => h) (Or.inl ⟨by rfl, ?_⟩) (by assumption) ?_
                  rotate_left
                  · intro W hSw
                    (try dsimp only at hSw)
                    go_simp
                    (try with_reducible rfl)
                  (try simp only [Act.put, List.setIfInBounds_toArray, List.set_cons_zero, List.set_cons_succ])
                  refine wpAnyH_ready (rs := [4]) (by kernel_rfl) (by simp) ?_
                  refine AllReadyH.cons (o := ⟨_, _, _, _, _, _⟩) rfl (fun K hK => ?_) AllReadyH.nil
                  go_simp
                  refine (CR.out _ (And.left hHeld)).mono ?_
                  rintro e w5 ⟨rfl, hb5⟩
                  go_wp2_with fail
                  refine hK.out _ _ ?_ (fun hHeld => ?_)
                  · exact HS7.out _ hb5.out
                  clear hK K
                  (try simp only [Act.put, List.setIfInBounds_toArray, List.set_cons_zero, List.set_cons_succ])
                  refine wpAnyH_take (i := 5) (oi := ⟨_, _, _, _, _, _⟩) (v := ?_) rfl (by kernel_rfl) (by kernel_rfl) (by kernel_rfl) (fun _ _ _ h => h) (Or.inl ⟨by rfl, ?_⟩) (by assumption) ?_
                  rotate_left
                  · intro W hSw
                    (try dsimp only at hSw)
                    go_simp
                    (try with_reducible rfl)
                  (try simp only [Act.put, List.setIfInBounds_toArray, List.set_cons_zero, List.set_cons_succ])
                  refine wpAnyH_take (i := 6) (oi := ⟨_, _, _, _, _, _⟩) (v := ?_) rfl (by kernel_rfl) (by kernel_rfl) (by kernel_rfl) (fun _ _ _ h => h) (Or.inl ⟨by rfl, ?_⟩) (by assumption) ?_
                  rotate_left
                  · intro W hSw
                    (try dsimp only at hSw)
                    go_simp
                    (try with_reducible rfl)
                  (try simp only [Act.put, List.setIfInBounds_toArray, List.set_cons_zero, List.set_cons_succ])
                  refine wpAnyH_take (i := 7) (oi := ⟨_, _, _, _, _, _⟩) (v := ?_) rfl (by kernel_rfl) (by kernel_rfl) (by kernel_rfl) (fun _ _ _ h => h) (Or.inl ⟨by rfl, ?_⟩) (by assumption) ?_
                  rotate_left
                  · intro W hSw
                    (try dsimp only at hSw)
                    go_simp
                    (try with_reducible rfl)
                  (try simp only [Act.put, List.setIfInBounds_toArray, List.set_cons_zero, List.set_cons_succ])
                  refine wpAnyH_take (i := 8) (oi := ⟨_, _, _, _, _, _⟩) (v := undef) rfl (by kernel_rfl) (by kernel_rfl) (by kernel_rfl) (fun _ _ _ h => h) (Or.inr ⟨by rfl, rfl⟩) (by assumption) ?_
                  (try simp only [Act.put, List.setIfInBounds_toArray, List.set_cons_zero, List.set_cons_succ])
                  refine wpAnyH_take (i := 9) (oi := ⟨_, _, _, _, _, _⟩) (v := undef) rfl (by kernel_rfl) (by kernel_rfl) (by kernel_rfl) (fun _ _ _ h => h) (Or.inr ⟨by rfl, rfl⟩) (by assumption) ?_
                  (try simp only [Act.put, List.setIfInBounds_toArray, List.set_cons_zero, List.set_cons_succ])
                  refine wpAnyH_take (i := 10) (oi := ⟨_, _, _, _, _, _⟩) (v := undef) rfl (by kernel_rfl) (by kernel_rfl) (by kernel_rfl) (fun _ _ _ h => h) (Or.inr ⟨by rfl, rfl⟩) (by assumption) ?_
                  (try simp only [Act.put, List.setIfInBounds_toArray, List.set_cons_zero, List.set_cons_succ])
                  refine wpAnyH_take (i := 11) (oi := ⟨_, _, _, _, _, _⟩) (v := undef) rfl (by kernel_rfl) (by kernel_rfl) (by kernel_rfl) (fun _ _ _ h => h) (Or.inr ⟨by rfl, rfl⟩) (by assumption) ?_
                  (try simp only [Act.put, List.setIfInBounds_toArray, List.set_cons_zero, List.set_cons_succ])
                  refine wpAnyH_take (i := 12) (oi := ⟨_, _, _, _, _, _⟩) (v := undef) rfl (by kernel_rfl) (by kernel_rfl) (by kernel_rfl) (fun _ _ _ h => h) (Or.inr ⟨by rfl, rfl⟩) (by assumption) ?_
                  (try simp only [Act.put, List.setIfInBounds_toArray, List.set_cons_zero, List.set_cons_succ])
                  refine wpAnyH_take (i := 13) (oi := ⟨_, _, _, _, _, _⟩) (v := undef) rfl (by kernel_rfl) (by kernel_rfl) (by kernel_rfl) (fun _ _ _ h => h) (Or.inr ⟨by rfl, rfl⟩) (by assumption) ?_
                  (try simp only [Act.put, List.setIfInBounds_toArray, List.set_cons_zero, List.set_cons_succ])
                  refine wpAnyH_take (i := 14) (oi := ⟨_, _, _, _, _, _⟩) (v := undef) rfl (by kernel_rfl) (by kernel_rfl) (by kernel_rfl) (fun _ _ _ h => h) (Or.inr ⟨by rfl, rfl⟩) (by assumption) ?_
                  (try simp only [Act.put, List.setIfInBounds_toArray, List.set_cons_zero, List.set_cons_succ])
                  refine wpAnyH_take (i := 15) (oi := ⟨_, _, _, _, _, _⟩) (v := undef) rfl (by kernel_rfl) (by kernel_rfl) (by kernel_rfl) (fun _ _ _ h => h) (Or.inr ⟨by rfl, rfl⟩) (by assumption) ?_
                  (try simp only [Act.put, List.setIfInBounds_toArray, List.set_cons_zero, List.set_cons_succ])
                  refine wpAnyH_take (i := 16) (oi := ⟨_, _, _, _, _, _⟩) (v := undef) rfl (by kernel_rfl) (by kernel_rfl) (by kernel_rfl) (fun _ _ _ h => h) (Or.inr ⟨by rfl, rfl⟩) (by assumption) ?_
                  (try simp only [Act.put, List.setIfInBounds_toArray, List.set_cons_zero, List.set_cons_succ])
                  refine wpAnyH_take (i := 17) (oi := ⟨_, _, _, _, _, _⟩) (v := ?_) rfl (by kernel_rfl) (by kernel_rfl) (by kernel_rfl) (fun _ _ _ h => h) (Or.inl ⟨by rfl, ?_⟩) (by assumption) ?_
                  rotate_left
                  · intro W hSw
                    (try dsimp only at hSw)
                    go_simp
                    (try with_reducible rfl)
                  (try simp only [Act.put, List.setIfInBounds_toArray, List.set_cons_zero, List.set_cons_succ])
                  refine wpAnyH_done (by kernel_rfl) ?_ _
                  refine NoPanic.normal ?_
                  go_wp2
                  go_meet
                  case rel => exact ⟨by simp, hb5⟩
                · have hbe : ((13 : Int) != 0) = true := by decide
                  refine wp_region_noPanic ?_
                  refine wp_region_held_drew (S := (fun W => Below W4.heap.size W4 W ∧ W.cell? ⟨k4, 0, none⟩ = some (.int .i64 bs) ∧ W.cell? ⟨k4, 1, none⟩ = some (.int .i64 b1.prod) ∧ W.cell? ⟨k4, 2, none⟩ = some (.int .i64 b1.epoch) ∧ W.cell? ⟨k4, 3, none⟩ = some (.int .i64 b1.seq) ∧ W.cell? ⟨k4, 4, none⟩ = some (.bool b1.txn) ∧ W.cell? ⟨k4, 5, none⟩ = some (.int .i64 b1.marker) ∧ W.cell? ⟨k4, 6, none⟩ = some (.slice ad1 b1.recs.length cap1))) (by kernel_rfl) (HS7.out _ (Below.refl _ _).drew) (fun hHeld => ?_)
                  refine wpAnyH_take (i := 0) (oi := ⟨_, _, _, _, _, _⟩) (v := ?_) rfl (by kernel_rfl) (by kernel_rfl) (by kernel_rfl) (fun _ _ _ h => h) (Or.inl ⟨by rfl, ?_⟩) (by assumption) ?_
                  rotate_left
                  · intro W hSw
                    (try dsimp only at hSw)
                    go_simp
                    (try with_reducible rfl)
                  (try simp only [Act.put, List.setIfInBounds_toArray, List.set_cons_zero, List.set_cons_succ])
                  refine wpAnyH_take (i := 1) (oi := ⟨_, _, _, _, _, _⟩) (v := ?_) rfl (by kernel_rfl) (by kernel_rfl) (by kernel_rfl) (fun _ _ _ h => h) (Or.inl ⟨by rfl, ?_⟩) (by assumption) ?_
                  rotate_left
                  · intro W hSw
                    (try dsimp only at hSw)
                    go_simp
                    (try with_reducible rfl)
                  (try simp only [Act.put, List.setIfInBounds_toArray, List.set_cons_zero, List.set_cons_succ])
                  refine wpAnyH_take (i := 2) (oi := ⟨_, _, _, _, _, _⟩) (v := ?_) rfl (by kernel_rfl) (by kernel_rfl) (by kernel_rfl) (fun _ _ _ h => h) (Or.inl ⟨by rfl, ?_⟩) (by assumption) ?_
                  rotate_left
                  · intro W hSw
                    (try dsimp only at hSw)
                    go_simp
                    (try with_reducible rfl)
                  (try simp only [Act.put, List.setIfInBounds_toArray, List.set_cons_zero, List.set_cons_succ])
                  refine wpAnyH_take (i := 3) (oi := ⟨_, _, _, _, _, _⟩) (v := ?_) rfl (by kernel_rfl) (by kernel_rfl) (by kernel_rfl) (fun _ _ _ h => h) (Or.inl ⟨by rfl, ?_⟩) (by assumption) ?_
                  rotate_left
                  · intro W hSw
                    (try dsimp only at hSw)
                    go_simp
                    (try with_reducible rfl)
                  (try simp only [Act.put, List.setIfInBounds_toArray, List.set_cons_zero, List.set_cons_succ])
                  refine wpAnyH_ready (rs := [4]) (by kernel_rfl) (by simp) ?_
                  refine AllReadyH.cons (o := ⟨_, _, _, _, _, _⟩) rfl (fun K hK => ?_) AllReadyH.nil
                  go_simp
                  refine (CR.out _ (And.left hHeld)).mono ?_
                  rintro e w5 ⟨rfl, hb5⟩
                  go_wp2_with fail
                  refine hK.out _ _ ?_ (fun hHeld => ?_)
                  · exact HS7.out _ hb5.out
                  clear hK K
                  (try simp only [Act.put, List.setIfInBounds_toArray, List.set_cons_zero, List.set_cons_succ])
                  refine wpAnyH_take (i := 5) (oi := ⟨_, _, _, _, _, _⟩) (v := ?_) rfl (by kernel_rfl) (by kernel_rfl) (by kernel_rfl) (fun _ _ _ h => h) (Or.inl ⟨by rfl, ?_⟩) (by assumption) ?_
                  rotate_left
                  · intro W hSw
                    (try dsimp only at hSw)
                    go_simp
                    (try with_reducible rfl)
                  (try simp only [Act.put, List.setIfInBounds_toArray, List.set_cons_zero, List.set_cons_succ])
                  refine wpAnyH_take (i := 6) (oi := ⟨_, _, _, _, _, _⟩) (v := ?_) rfl (by kernel_rfl) (by kernel_rfl) (by kernel_rfl) (fun _ _ _ h => h) (Or.inl ⟨by rfl, ?_⟩) (by assumption) ?_
                  rotate_left
                  · intro W hSw
                    (try dsimp only at hSw)
                    go_simp
                    (try with_reducible rfl)
                  (try simp only [Act.put, List.setIfInBounds_toArray, List.set_cons_zero, List.set_cons_succ])
                  refine wpAnyH_take (i := 7) (oi := ⟨_, _, _, _, _, _⟩) (v := ?_) rfl (by kernel_rfl) (by kernel_rfl) (by kernel_rfl) (fun _ _ _ h => h) (Or.inl ⟨by rfl, ?_⟩) (by assumption) ?_
                  rotate_left
                  · intro W hSw
                    (try dsimp only at hSw)
                    go_simp
                    (try with_reducible rfl)
                  (try simp only [Act.put, List.setIfInBounds_toArray, List.set_cons_zero, List.set_cons_succ])
                  refine wpAnyH_take (i := 8) (oi := ⟨_, _, _, _, _, _⟩) (v := undef) rfl (by kernel_rfl) (by kernel_rfl) (by kernel_rfl) (fun _ _ _ h => h) (Or.inr ⟨by rfl, rfl⟩) (by assumption) ?_
                  (try simp only [Act.put, List.setIfInBounds_toArray, List.set_cons_zero, List.set_cons_succ])
                  refine wpAnyH_take (i := 9) (oi := ⟨_, _, _, _, _, _⟩) (v := undef) rfl (by kernel_rfl) (by kernel_rfl) (by kernel_rfl) (fun _ _ _ h => h) (Or.inr ⟨by rfl, rfl⟩) (by assumption) ?_
                  (try simp only [Act.put, List.setIfInBounds_toArray, List.set_cons_zero, List.set_cons_succ])
                  refine wpAnyH_take (i := 10) (oi := ⟨_, _, _, _, _, _⟩) (v := undef) rfl (by kernel_rfl) (by kernel_rfl) (by kernel_rfl) (fun _ _ _ h => h) (Or.inr ⟨by rfl, rfl⟩) (by assumption) ?_
                  (try simp only [Act.put, List.setIfInBounds_toArray, List.set_cons_zero, List.set_cons_succ])
                  refine wpAnyH_take (i := 11) (oi := ⟨_, _, _, _, _, _⟩) (v := undef) rfl (by kernel_rfl) (by kernel_rfl) (by kernel_rfl) (fun _ _ _ h => h) (Or.inr ⟨by rfl, rfl⟩) (by assumption) ?_
                  (try simp only [Act.put, List.setIfInBounds_toArray, List.set_cons_zero, List.set_cons_succ])
                  refine wpAnyH_take (i := 12) (oi := ⟨_, _, _, _, _, _⟩) (v := undef) rfl (by kernel_rfl) (by kernel_rfl) (by kernel_rfl) (fun _ _ _ h => h) (Or.inr ⟨by rfl, rfl⟩) (by assumption) ?_
                  (try simp only [Act.put, List.setIfInBounds_toArray, List.set_cons_zero, List.set_cons_succ])
                  refine wpAnyH_take (i := 13) (oi := ⟨_, _, _, _, _, _⟩) (v := undef) rfl (by kernel_rfl) (by kernel_rfl) (by kernel_rfl) (fun _ _ _ h => h) (Or.inr ⟨by rfl, rfl⟩) (by assumption) ?_
                  (try simp only [Act.put, List.setIfInBounds_toArray, List.set_cons_zero, List.set_cons_succ])
                  refine wpAnyH_take (i := 14) (oi := ⟨_, _, _, _, _, _⟩) (v := undef) rfl (by kernel_rfl) (by kernel_rfl) (by kernel_rfl) (fun _ _ _ h => h) (Or.inr ⟨by rfl, rfl⟩) (by assumption) ?_
                  (try simp only [Act.put, List.setIfInBounds_toArray, List.set_cons_zero, List.set_cons_succ])
                  refine wpAnyH_take (i := 15) (oi := ⟨_, _, _, _, _, _⟩) (v := undef) rfl (by kernel_rfl) (by kernel_rfl) (by kernel_rfl) (fun _ _ _ h => h) (Or.inr ⟨by rfl, rfl⟩) (by assumption) ?_
                  (try simp only [Act.put, List.setIfInBounds_toArray, List.set_cons_zero, List.set_cons_succ])
                  refine wpAnyH_take (i := 16) (oi := ⟨_, _, _, _, _, _⟩) (v := undef) rfl (by kernel_rfl) (by kernel_rfl) (by kernel_rfl) (fun _ _ _ h => h) (Or.inr ⟨by rfl, rfl⟩) (by assumption) ?_
                  (try simp only [Act.put, List.setIfInBounds_toArray, List.set_cons_zero, List.set_cons_succ])
                  refine wpAnyH_take (i := 17) (oi := ⟨_, _, _, _, _, _⟩) (v := ?_) rfl (by kernel_rfl) (by kernel_rfl) (by kernel_rfl) (fun _ _ _ h => h) (Or.inl ⟨by rfl, ?_⟩) (by assumption) ?_
                  rotate_left
                  · intro W hSw
                    (try dsimp only at hSw)
                    go_simp
                    (try with_reducible rfl)
                  (try simp only [Act.put, List.setIfInBounds_toArray, List.set_cons_zero, List.set_cons_succ])
                  refine wpAnyH_done (by kernel_rfl) ?_ _
                  refine NoPanic.normal ?_
                  go_wp2
                  go_meet
                  case rel => exact ⟨by simp, hb5⟩
                · have hbe : ((18 : Int) != 0) = true := by decide
                  refine wp_region_noPanic ?_
                  refine wp_region_held_drew (S := (fun W => Below W4.heap.size W4 W ∧ W.cell? ⟨k4, 0, none⟩ = some (.int .i64 bs) ∧ W.cell? ⟨k4, 1, none⟩ = some (.int .i64 b1.prod) ∧ W.cell? ⟨k4, 2, none⟩ = some (.int .i64 b1.epoch) ∧ W.cell? ⟨k4, 3, none⟩ = some (.int .i64 b1.seq) ∧ W.cell? ⟨k4, 4, none⟩ = some (.bool b1.txn) ∧ W.cell? ⟨k4, 5, none⟩ = some (.int .i64 b1.marker) ∧ W.cell? ⟨k4, 6, none⟩ = some (.slice ad1 b1.recs.length cap1))) (by kernel_rfl) (HS7.out _ (Below.refl _ _).drew) (fun hHeld => ?_)
                  refine wpAnyH_take (i := 0) (oi := ⟨_, _, _, _, _, _⟩) (v := ?_) rfl (by kernel_rfl) (by kernel_rfl) (by kernel_rfl) (fun _ _ _ h => h) (Or.inl ⟨by rfl, ?_⟩) (by assumption) ?_
                  rotate_left
                  · intro W hSw
                    (try dsimp only at hSw)
                    go_simp
                    (try with_reducible rfl)
                  (try simp only [Act.put, List.setIfInBounds_toArray, List.set_cons_zero, List.set_cons_succ])
                  refine wpAnyH_take (i := 1) (oi := ⟨_, _, _, _, _, _⟩) (v := ?_) rfl (by kernel_rfl) (by kernel_rfl) (by kernel_rfl) (fun _ _ _ h => h) (Or.inl ⟨by rfl, ?_⟩) (by assumption) ?_
                  rotate_left
                  · intro W hSw
                    (try dsimp only at hSw)
                    go_simp
                    (try with_reducible rfl)
                  (try simp only [Act.put, List.setIfInBounds_toArray, List.set_cons_zero, List.set_cons_succ])
                  refine wpAnyH_take (i := 2) (oi := ⟨_, _, _, _, _, _⟩) (v := ?_) rfl (by kernel_rfl) (by kernel_rfl) (by kernel_rfl) (fun _ _ _ h => h) (Or.inl ⟨by rfl, ?_⟩) (by assumption) ?_
                  rotate_left
                  · intro W hSw
                    (try dsimp only at hSw)
                    go_simp
                    (try with_reducible rfl)
                  (try simp only [Act.put, List.setIfInBounds_toArray, List.set_cons_zero, List.set_cons_succ])
                  refine wpAnyH_take (i := 3) (oi := ⟨_, _, _, _, _, _⟩) (v := ?_) rfl (by kernel_rfl) (by kernel_rfl) (by kernel_rfl) (fun _ _ _ h => h) (Or.inl ⟨by rfl, ?_⟩) (by assumption) ?_
                  rotate_left
                  · intro W hSw
                    (try dsimp only at hSw)
                    go_simp
                    (try with_reducible rfl)
                  (try simp only [Act.put, List.setIfInBounds_toArray, List.set_cons_zero, List.set_cons_succ])
                  refine wpAnyH_ready (rs := [4]) (by kernel_rfl) (by simp) ?_
                  refine AllReadyH.cons (o := ⟨_, _, _, _, _, _⟩) rfl (fun K hK => ?_) AllReadyH.nil
                  go_simp
                  refine (CR.out _ (And.left hHeld)).mono ?_
                  rintro e w5 ⟨rfl, hb5⟩
                  go_wp2_with fail
                  refine hK.out _ _ ?_ (fun hHeld => ?_)
                  · exact HS7.out _ hb5.out
                  clear hK K
                  (try simp only [Act.put, List.setIfInBounds_toArray, List.set_cons_zero, List.set_cons_succ])
                  refine wpAnyH_take (i := 5) (oi := ⟨_, _, _, _, _, _⟩) (v := ?_) rfl (by kernel_rfl) (by kernel_rfl) (by kernel_rfl) (fun _ _ _ h => h) (Or.inl ⟨by rfl, ?_⟩) (by assumption) ?_
                  rotate_left
                  · intro W hSw
                    (try dsimp only at hSw)
                    go_simp
                    (try with_reducible rfl)
                  (try simp only [Act.put, List.setIfInBounds_toArray, List.set_cons_zero, List.set_cons_succ])
                  refine wpAnyH_take (i := 6) (oi := ⟨_, _, _, _, _, _⟩) (v := ?_) rfl (by kernel_rfl) (by kernel_rfl) (by kernel_rfl) (fun _ _ _ h => h) (Or.inl ⟨by rfl, ?_⟩) (by assumption) ?_
                  rotate_left
                  · intro W hSw
                    (try dsimp only at hSw)
                    go_simp
                    (try with_reducible rfl)
                  (try simp only [Act.put, List.setIfInBounds_toArray, List.set_cons_zero, List.set_cons_succ])
                  refine wpAnyH_take (i := 7) (oi := ⟨_, _, _, _, _, _⟩) (v := ?_) rfl (by kernel_rfl) (by kernel_rfl) (by kernel_rfl) (fun _ _ _ h => h) (Or.inl ⟨by rfl, ?_⟩) (by assumption) ?_
                  rotate_left
                  · intro W hSw
                    (try dsimp only at hSw)
                    go_simp
                    (try with_reducible rfl)
                  (try simp only [Act.put, List.setIfInBounds_toArray, List.set_cons_zero, List.set_cons_succ])
                  refine wpAnyH_take (i := 8) (oi := ⟨_, _, _, _, _, _⟩) (v := undef) rfl (by kernel_rfl) (by kernel_rfl) (by kernel_rfl) (fun _ _ _ h => h) (Or.inr ⟨by rfl, rfl⟩) (by assumption) ?_
                  (try simp only [Act.put, List.setIfInBounds_toArray, List.set_cons_zero, List.set_cons_succ])
                  refine wpAnyH_take (i := 9) (oi := ⟨_, _, _, _, _, _⟩) (v := undef) rfl (by kernel_rfl) (by kernel_rfl) (by kernel_rfl) (fun _ _ _ h => h) (Or.inr ⟨by rfl, rfl⟩) (by assumption) ?_
                  (try simp only [Act.put, List.setIfInBounds_toArray, List.set_cons_zero, List.set_cons_succ])
                  refine wpAnyH_take (i := 10) (oi := ⟨_, _, _, _, _, _⟩) (v := undef) rfl (by kernel_rfl) (by kernel_rfl) (by kernel_rfl) (fun _ _ _ h => h) (Or.inr ⟨by rfl, rfl⟩) (by assumption) ?_
                  (try simp only [Act.put, List.setIfInBounds_toArray, List.set_cons_zero, List.set_cons_succ])
                  refine wpAnyH_take (i := 11) (oi := ⟨_, _, _, _, _, _⟩) (v := undef) rfl (by kernel_rfl) (by kernel_rfl) (by kernel_rfl) (fun _ _ _ h => h) (Or.inr ⟨by rfl, rfl⟩) (by assumption) ?_
                  (try simp only [Act.put, List.setIfInBounds_toArray, List.set_cons_zero, List.set_cons_succ])
                  refine wpAnyH_take (i := 12) (oi := ⟨_, _, _, _, _, _⟩) (v := undef) rfl (by kernel_rfl) (by kernel_rfl) (by kernel_rfl) (fun _ _ _ h => h) (Or.inr ⟨by rfl, rfl⟩) (by assumption) ?_
                  (try simp only [Act.put, List.setIfInBounds_toArray, List.set_cons_zero, List.set_cons_succ])
                  refine wpAnyH_take (i := 13) (oi := ⟨_, _, _, _, _, _⟩) (v := undef) rfl (by kernel_rfl) (by kernel_rfl) (by kernel_rfl) (fun _ _ _ h => h) (Or.inr ⟨by rfl, rfl⟩) (by assumption) ?_
                  (try simp only [Act.put, List.setIfInBounds_toArray, List.set_cons_zero, List.set_cons_succ])
                  refine wpAnyH_take (i := 14) (oi := ⟨_, _, _, _, _, _⟩) (v := undef) rfl (by kernel_rfl) (by kernel_rfl) (by kernel_rfl) (fun _ _ _ h => h) (Or.inr ⟨by rfl, rfl⟩) (by assumption) ?_
                  (try simp only [Act.put, List.setIfInBounds_toArray, List.set_cons_zero, List.set_cons_succ])
                  refine wpAnyH_take (i := 15) (oi := ⟨_, _, _, _, _, _⟩) (v := undef) rfl (by kernel_rfl) (by kernel_rfl) (by kernel_rfl) (fun _ _ _ h => h) (Or.inr ⟨by rfl, rfl⟩) (by assumption) ?_
                  (try simp only [Act.put, List.setIfInBounds_toArray, List.set_cons_zero, List.set_cons_succ])
                  refine wpAnyH_take (i := 16) (oi := ⟨_, _, _, _, _, _⟩) (v := undef) rfl (by kernel_rfl) (by kernel_rfl) (by kernel_rfl) (fun _ _ _ h => h) (Or.inr ⟨by rfl, rfl⟩) (by assumption) ?_
                  (try simp only [Act.put, List.setIfInBounds_toArray, List.set_cons_zero, List.set_cons_succ])
                  refine wpAnyH_take (i := 17) (oi := ⟨_, _, _, _, _, _⟩) (v := ?_) rfl (by kernel_rfl) (by kernel_rfl) (by kernel_rfl) (fun _ _ _ h => h) (Or.inl ⟨by rfl, ?_⟩) (by assumption) ?_
                  rotate_left
                  · intro W hSw
                    (try dsimp only at hSw)
                    go_simp
                    (try with_reducible rfl)
                  (try simp only [Act.put, List.setIfInBounds_toArray, List.set_cons_zero, List.set_cons_succ])
                  refine wpAnyH_done (by kernel_rfl) ?_ _
                  refine NoPanic.normal ?_
                  go_wp2
                  go_meet
                  case rel => exact ⟨by simp, hb5⟩
            case rest =>
              obtain ⟨rfl, HB9⟩ := hcut
              have HBX9 := Lib.hid (HBX4.out.on HB9.out)
              have HBV9 := Lib.hid (HBV.out.on HB9.out)
              have HBW9 := Lib.hid (HBW4.out.trans (HB9.out.mono HBW4.out.size))
              have HREC9 := Lib.hid (HREC4.out.keep HB9.out)
              obtain ⟨cnd, hcn⟩ : ∃ cnd, cnd = (ok && (decide (ev = 0) && q3)) := ⟨_, rfl⟩
              rw [← hcn] at HBAD HGOOD ⊢
              clear hcn
              cases cnd
              · have HO := Lib.hid (HBAD.out rfl)
                have r0 := HBX9.out.c0
                have q0 := HBX9.out.free 0
                have r1 := HBX9.out.c1
                have q1 := HBX9.out.free 1
                have r2 := HBX9.out.c2
                have q2 := HBX9.out.free 2
                have r3 := HBX9.out.c3
                have q3 := HBX9.out.free 3
                have r4 := HBX9.out.c4
                have q4 := HBX9.out.free 4
                have r5 := HBX9.out.c5
                have q5 := HBX9.out.free 5
                have r6 := HBX9.out.c6
                have q6 := HBX9.out.free 6
                go_wp2
                exact bodyPost_ret (resultsRead (((((((HBX9.out.s0 0).s1 0).s2 0).s3 0).s4 false).s5 0).s6 (.slice none 0 0)) rfl) rfl (gives_read HO.out rfl rfl (recsAt_nil _) (fun a h => by cases h) (((((((HBW9.out.setCell (Nat.le_refl _) _).setCell (Nat.le_refl _) _).setCell (Nat.le_refl _) _).setCell (Nat.le_refl _) _).setCell (Nat.le_refl _) _).setCell (Nat.le_refl _) _).setCell (Nat.le_refl _) _))
              · have HO := Lib.hid (HGOOD.out rfl)
                have r0 := HBX9.out.c0
                have q0 := HBX9.out.free 0
                have r1 := HBX9.out.c1
                have q1 := HBX9.out.free 1
                have r2 := HBX9.out.c2
                have q2 := HBX9.out.free 2
                have r3 := HBX9.out.c3
                have q3 := HBX9.out.free 3
                have r4 := HBX9.out.c4
                have q4 := HBX9.out.free 4
                have r5 := HBX9.out.c5
                have q5 := HBX9.out.free 5
                have r6 := HBX9.out.c6
                have q6 := HBX9.out.free 6
                have p0 := HBV9.out.c0
                have p1 := HBV9.out.c1
                have p2 := HBV9.out.c2
                have p3 := HBV9.out.c3
                have p4 := HBV9.out.c4
                have p5 := HBV9.out.c5
                have p6 := HBV9.out.c6
                go_wp2
                exact bodyPost_ret (resultsRead (((((((HBX9.out.s0 bs).s1 b1.prod).s2 b1.epoch).s3 b1.seq).s4 b1.txn).s5 b1.marker).s6 (.slice ad1 b1.recs.length cap1)) rfl) rfl (gives_read HO.out (by omega) rfl (((((((HREC9.out.put HBLK.out).put HBLK.out).put HBLK.out).put HBLK.out).put HBLK.out).put HBLK.out).put HBLK.out) (fun a h => by have := HBLK.out a h; omega) (((((((HBW9.out.setCell (Nat.le_refl _) _).setCell (Nat.le_refl _) _).setCell (Nat.le_refl _) _).setCell (Nat.le_refl _) _).setCell (Nat.le_refl _) _).setCell (Nat.le_refl _) _).setCell (Nat.le_refl _) _))
end Go.Proofs.Ytlcnpeodhfdhlaa
