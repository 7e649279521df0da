/- FilesStop. -/
import Derived.Test.YtjocfkkcnkpjdaaDoorFlApart
import Derived.Test.YtjocfkkcnkpjdaaDoorFlTwo
import Derived.Test.YtjocfkkcnkpjdaaDoorTabsLaid
import Derived.LaidEqlPtr
namespace Go.FsMath
/-- What an ask does. -/
def opF (kq : Nat) (a b : ByteArray) (ps : List Nat) (s : Fs) : Fs := match kq with
  | 0 => (renameF s a b).2
  | 1 => (removeF s a).2
  | 2 => (syncF s a).2
  | _ => (appendF s a ps).2
def othF (n : Int) (kq : Nat) (a b : ByteArray) (ps : List Nat) (t : Fs) : Fs := if t.done < n then opF kq a b ps t else t
theorem par_op {n : Int} {s t : Fs} (h : Par n s t) (kq : Nat) (a b : ByteArray) (ps : List Nat) : Par n (opF kq a b ps s) (othF n kq a b ps t) := by
  obtain ⟨l, lf, d⟩ := s
  obtain ⟨l2, lf2, d2⟩ := t
  obtain ⟨h1, h2, h3, h4, h5⟩ := h
  simp only at h1 h2 h3 h4 h5
  subst h1 h2 h3 h4
  unfold othF
  simp only
  by_cases hd : d < n
  · rw [if_pos hd]
    match kq with
    | 0 => exact par_rename hd a b
    | 1 => exact par_remove hd a
    | 2 => exact par_sync hd a
    | k + 3 => exact par_append hd a ps
  · rw [if_neg hd]
    have e : n - d = 0 := by omega
    have hp : Par n ⟨l, 0, d⟩ ⟨l, -1, d⟩ := ⟨rfl, rfl, by show (0 : Int) = n - d; omega, rfl, by show d ≤ n; omega⟩
    rw [e]
    match kq with
    | 0 => show Par n (renameF _ a b).2 _; rw [idle_rename]; exact hp
    | 1 => show Par n (removeF _ a).2 _; rw [idle_remove]; exact hp
    | 2 => show Par n (syncF _ a).2 _; rw [idle_sync]; exact hp
    | k + 3 => show Par n (appendF _ a ps).2 _; rw [idle_append]; exact hp
theorem Sm.op {s : Fs} {L M : Nat} {D : Int} (h : Sm s L M D) (kq : Nat) (a b : ByteArray) (ps : List Nat) : Sm (opF kq a b ps s) (L + 1) (M + ps.length) (D + 1) := by
  match kq with
  | 0 => exact (h.rename a b).more (by omega) (by omega) (by omega)
  | 1 => exact (h.remove a).more (by omega) (by omega) (by omega)
  | 2 => exact (h.sync a).more (by omega) (by omega) (by omega)
  | k + 3 => exact h.append a ps
theorem Sm.oth {s : Fs} {L M : Nat} {D : Int} (h : Sm s L M D) (n : Int) (kq : Nat) (a b : ByteArray) (ps : List Nat) : Sm (othF n kq a b ps s) (L + 1) (M + ps.length) (D + 1) := by
  unfold othF
  split
  · exact h.op kq a b ps
  · exact h.more (by omega) (by omega) (by omega)
end Go.FsMath
namespace Go.Proofs.YtjocfkkcnkpjdaaDoor
open Go.RowKit
open Go.RuneMath
open Go.FsMath
set_option linter.unusedVariables false

theorem Two.reset {W w1 w : World} {E : Nat → Prop} {kf kg : Nat} {sf sg : Fs} (h : Two W E w1 w kf sf kg sg) : Two W (fun _ => False) w w kf sf kg sg := by
  obtain ⟨kmf, msf, kmg, msg, h1, h2, h3, h4, h5, h6⟩ := h.ex
  exact ⟨h.below, Nat.le_refl _, fun j hj => hj.elim, kmf, msf, kmg, msg, h1, h2, h3, h4, fun j hj => ⟨(h5 j hj).1, (h5 j hj).2.1, fun hx => hx⟩, fun j hj => ⟨(h6 j hj).1, fun hx => hx⟩⟩
theorem infoFS : ∃ j, Tryd.prog.info? 58 = some j ∧ j.size = 3 := by
  have h : (Tryd.prog.info? 58).map (·.size) = some 3 := by kernel_rfl
  cases hx : Tryd.prog.info? 58 with
  | none => rw [hx] at h; cases h
  | some j => rw [hx] at h; exact ⟨j, rfl, Option.some.inj h⟩
theorem Two.eql_no {W w1 w : World} {E : Nat → Prop} {kf kg : Nat} {sf sg : Fs} (h : Two W E w1 w kf sf kg sg) : (binOp .eql 28 (.pointer (some ⟨kf, 0, none⟩)) (.pointer (some ⟨kg, 0, none⟩))).run Tryd.prog w = .ok (.bool false) w := by
  obtain ⟨j, hj, hz⟩ := infoFS
  have hne := h.ne
  obtain ⟨kmf, msf, kmg, msg, h1, h2, h3, h4, h5, h6⟩ := h.ex
  exact run_eql_ptr_other w Tryd.underlying28 hj (by omega) (fun e => hne (congrArg Addr.block e)) h1.box h3.box
theorem eql_yes (w : World) (k : Nat) : (binOp .eql 28 (.pointer (some ⟨k, 0, none⟩)) (.pointer (some ⟨k, 0, none⟩))).run Tryd.prog w = .ok (.bool true) w := by
  obtain ⟨j, hj, hz⟩ := infoFS
  exact run_eql_ptr_same w ⟨k, 0, none⟩ Tryd.underlying28 hj
/-- Before ask i. -/
structure StAt (W wr : World) (kf kg : Nat) (n : Nat) (s t : Fs) (i : Nat) : Prop where
  two : Two W (fun _ => False) wr wr kf s kg t
  par : Par n s t
  sm : Sm s (i + 1) (1048576 * (i + 1)) (i + 1)
  sn : Sm t (i + 1) (1048576 * (i + 1)) (i + 1)
theorem sm_big {s : Fs} {i : Nat} (h : Sm s (i + 1) (1048576 * (i + 1)) (i + 1)) (hi : i ≤ 100) : (∀ f ∈ s.l, f.b.length + 1048576 ≤ 140737488355328) ∧ s.l.length ≤ 10000 ∧ FsNum s.left s.done := by
  refine ⟨fun f hf => ?_, ?_, Sm.fsnum h (by omega)⟩
  · have := h.b f hf
    omega
  · have := h.n
    omega
def sAt (k : Nat) (kq : Nat) (a b : ByteArray) (ps : List Nat) (s : Fs) : Fs := if k = 0 then s else opF kq a b ps s
def tAt (n : Int) (k : Nat) (kq : Nat) (a b : ByteArray) (ps : List Nat) (t : Fs) : Fs := if k < 2 then t else othF n kq a b ps t
theorem sAt_two (kq : Nat) (a b : ByteArray) (ps : List Nat) (s : Fs) : sAt 2 kq a b ps s = opF kq a b ps s := rfl
theorem tAt_two {n : Int} {kq : Nat} {a b : ByteArray} {ps : List Nat} {t : Fs} (h : t.done < n) : tAt n 2 kq a b ps t = opF kq a b ps t := by
  show othF n kq a b ps t = _
  unfold othF
  rw [if_pos h]
theorem tAt_idle {n : Int} {kq : Nat} {a b : ByteArray} {ps : List Nat} {t : Fs} (h : n ≤ t.done) : tAt n 2 kq a b ps t = t := by
  show othF n kq a b ps t = _
  unfold othF
  rw [if_neg (by omega)]
set_option maxRecDepth 100000 in
set_option maxHeartbeats 16000000 in
theorem stop_any (W : World) (lad : Option Addr) (len cap : Nat) (l : List Ak) (hl : RowAt askK W lad len cap l) (hin : ∀ x ∈ l, AskIn W x) (n : Int) (hn : -9223372036854775808 ≤ n ∧ n ≤ 9223372036854775807) (hT : Tabs W) (h2 : 2 ≤ W.heap.size) :
    Calls Tryd.prog 6 #[.slice lad len cap, .int .i64 n] W fun e w' => e = .returned (.bool true) ∧ Below W.heap.size W w' := by
  have HRL := Lib.hid hl
  have HIN := Lib.hid hin
  have HT := Lib.hid hT
  clear hT hl hin
  go_enter Tryd.func6, Tryd.ntmps6
  go_wp2_with fail
  refine (oneNew W (Below.refl _ W)).mono ?_
  rintro e w1 ⟨kf, rfl, H1⟩
  go_wp2_with fail
  refine (oneNew w1 H1.out.below).mono ?_
  rintro e w2 ⟨kg, rfl, H2⟩
  have HW2 := Lib.hid (two_new H1.out H2.out)
  have hkne : kf ≠ kg := HW2.out.ne
  clear H1 H2
  go_wp2_with fail
  refine (within_any n 20 w2 hn (by omega)).mono ?_
  rintro e w3 ⟨N, rfl, hN, rfl⟩
  go_wp2_with fail
  obtain ⟨X, ho, hback⟩ := HW2.out.first
  refine (oneStop ho N).mono ?_
  rintro e w3 ⟨rfl, H3⟩
  have HST : Hid (StAt W w3 kf kg N ⟨[], (N : Int), 0⟩ ⟨[], -1, 0⟩ 0) := ⟨(hback _ _ H3.out).reset, ⟨rfl, rfl, by show (N : Int) = N - 0; omega, rfl, by show (0 : Int) ≤ N; omega⟩, ⟨Nat.zero_le _, fun f hf => (by cases hf), by show (0 : Int) ≤ 0; omega, by show (0 : Int) ≤ _; omega, by show -1 ≤ (N : Int); omega, by show (N : Int) ≤ _; omega⟩, ⟨Nat.zero_le _, fun f hf => (by cases hf), by show (0 : Int) ≤ 0; omega, by show (0 : Int) ≤ _; omega, by show (-1 : Int) ≤ -1; omega, by show (-1 : Int) ≤ _; omega⟩⟩
  clear HW2 H3 ho hback
  go_wp2_with fail
  go_loopw [8] (fun v8 wr => ∃ (i : Nat) (s t : Fs), v8 = .int .i64 (i : Int) ∧ i ≤ 60 ∧ i ≤ len ∧ Hid (StAt W wr kf kg N s t i)) (fun v8 _ => 60 - (intOf v8).toNat)
  case atStart => exact ⟨0, _, _, rfl, by omega, by omega, HST.out⟩
  case round =>
    obtain ⟨i, s, t, rfl, hi60, hil, HS⟩ := hrel
    obtain ⟨wo, hwo⟩ : ∃ wo : World, wo = wr := ⟨_, rfl⟩
    subst hwo
    clear HST
    by_cases hlt : i < len ∧ i < 60
    · obtain ⟨hlt1, hlt2⟩ := hlt
      have hd1 : decide (i < len) = true := decide_eq_true hlt1
      have hd2 : decide (i < 60) = true := decide_eq_true hlt2
      have hij : (i : Int) < (len : Int) := by omega
      obtain ⟨bl, ol, x, el, hbl2, hx, hat⟩ := ask_get HRL.out hlt1
      have HX := Lib.hid (HIN.out x (List.mem_of_getElem? hx))
      have HAT : Hid (∀ V, Below W.heap.size W V → AskAt V bl (ol + i * 7) x) := fun V hV => hat.on hV hbl2
      have hka0 := HX.out.a0
      have hkb0 := HX.out.b0
      have hkk0 := HX.out.kind0
      subst el
      clear hx hat
      obtain ⟨kd, xa, xb, xn, pad, plen, pcap, ps, kad, klen, kcap, ks, gad, glen, gcap, gs⟩ := x
      simp only at hka0 hkb0 hkk0
      have KS : Hid (∀ V, Below W.heap.size W V → (fun (V : World) => V.cell? ⟨bl, ol + i * 7 + 1, none⟩ = some (.int .i64 xa) ∧ V.cell? ⟨bl, ol + i * 7 + 2, none⟩ = some (.int .i64 xb)) V) := fun V hV => ⟨(HAT.out V hV).c1, (HAT.out V hV).c2⟩
      have hdrw : Below wo.heap.size wo wo.drew := (Below.refl _ wo).drew
      go_upto_region 9 with fail
      refine wp_region_noPanic ?_
      refine wp_region_z [] (fun (V : World) => V.cell? ⟨bl, ol + i * 7 + 1, none⟩ = some (.int .i64 xa) ∧ V.cell? ⟨bl, ol + i * 7 + 2, none⟩ = some (.int .i64 xb)) (by kernel_rfl) ?_
      have hHeld : (fun (V : World) => V.cell? ⟨bl, ol + i * 7 + 1, none⟩ = some (.int .i64 xa) ∧ V.cell? ⟨bl, ol + i * 7 + 2, none⟩ = some (.int .i64 xb)) _ := KS.out _ (HS.out.two.below.trans (hdrw.mono HS.out.two.below.size))
      obtain ⟨u0, hu0⟩ : ∃ u, u = wo.drew := ⟨_, rfl⟩
      rw [← hu0] at hHeld hdrw
      rw [← hu0]
      clear hu0
      have HO0 : Hid (Two W (fun _ => False) wo u0 kf s kg t) := HS.out.two.on hdrw
      clear hdrw
      refine wpAnyZ_take (i := 1) (oi := ⟨_, _, _, _, _, _⟩) (v := ?_) rfl (by kernel_rfl) (by kernel_rfl) (by kernel_rfl) (by kernel_rfl) (by kernel_rfl) (fun _ _ _ h => h) (Or.inl ⟨by rfl, ?_⟩) (by assumption) ?_
      rotate_left
      · intro W hSw
        (try dsimp only at hSw)
        go_simp
        (try with_reducible rfl)
      (try simp only [Act.put, List.setIfInBounds_toArray, List.set_cons_zero, List.set_cons_succ])
      refine wpAnyZ_take (i := 2) (oi := ⟨_, _, _, _, _, _⟩) (v := ?_) rfl (by kernel_rfl) (by kernel_rfl) (by kernel_rfl) (by kernel_rfl) (by kernel_rfl) (fun _ _ _ h => h) (Or.inl ⟨by rfl, ?_⟩) (by assumption) ?_
      rotate_left
      · intro W hSw
        (try dsimp only at hSw)
        go_simp
        (try with_reducible rfl)
      (try simp only [Act.put, List.setIfInBounds_toArray, List.set_cons_zero, List.set_cons_succ])
      refine wpAnyZ_take (i := 3) (oi := ⟨_, _, _, _, _, _⟩) (v := ?_) rfl (by kernel_rfl) (by kernel_rfl) (by kernel_rfl) (by kernel_rfl) (by kernel_rfl) (fun _ _ _ h => h) (Or.inl ⟨by rfl, ?_⟩) (by assumption) ?_
      rotate_left
      · intro W hSw
        (try dsimp only at hSw)
        go_simp
        (try with_reducible rfl)
      (try simp only [Act.put, List.setIfInBounds_toArray, List.set_cons_zero, List.set_cons_succ])
      refine wpAnyZ_take (i := 4) (oi := ⟨_, _, _, _, _, _⟩) (v := ?_) rfl (by kernel_rfl) (by kernel_rfl) (by kernel_rfl) (by kernel_rfl) (by kernel_rfl) (fun _ _ _ h => h) (Or.inl ⟨by rfl, ?_⟩) (by assumption) ?_
      rotate_left
      · intro W hSw
        (try dsimp only at hSw)
        go_simp
        (try with_reducible rfl)
      (try simp only [Act.put, List.setIfInBounds_toArray, List.set_cons_zero, List.set_cons_succ])
      refine wpAnyZ_take (i := 5) (oi := ⟨_, _, _, _, _, _⟩) (v := ?_) rfl (by kernel_rfl) (by kernel_rfl) (by kernel_rfl) (by kernel_rfl) (by kernel_rfl) (fun _ _ _ h => h) (Or.inl ⟨by rfl, ?_⟩) (by assumption) ?_
      rotate_left
      · intro W hSw
        (try dsimp only at hSw)
        go_simp
        (try with_reducible rfl)
      (try simp only [Act.put, List.setIfInBounds_toArray, List.set_cons_zero, List.set_cons_succ])
      refine wpAnyZ_take (i := 10) (oi := ⟨_, _, _, _, _, _⟩) (v := ?_) rfl (by kernel_rfl) (by kernel_rfl) (by kernel_rfl) (by kernel_rfl) (by kernel_rfl) (fun _ _ _ h => h) (Or.inl ⟨by rfl, ?_⟩) (by assumption) ?_
      rotate_left
      · intro W hSw
        (try dsimp only at hSw)
        go_simp
        (try with_reducible rfl)
      (try simp only [Act.put, List.setIfInBounds_toArray, List.set_cons_zero, List.set_cons_succ])
      refine wpAnyZ_take (i := 11) (oi := ⟨_, _, _, _, _, _⟩) (v := ?_) rfl (by kernel_rfl) (by kernel_rfl) (by kernel_rfl) (by kernel_rfl) (by kernel_rfl) (fun _ _ _ h => h) (Or.inl ⟨by rfl, ?_⟩) (by assumption) ?_
      rotate_left
      · intro W hSw
        (try dsimp only at hSw)
        go_simp
        (try with_reducible rfl)
      (try simp only [Act.put, List.setIfInBounds_toArray, List.set_cons_zero, List.set_cons_succ])
      refine wpAnyZ_take (i := 12) (oi := ⟨_, _, _, _, _, _⟩) (v := ?_) rfl (by kernel_rfl) (by kernel_rfl) (by kernel_rfl) (by kernel_rfl) (by kernel_rfl) (fun _ _ _ h => h) (Or.inl ⟨by rfl, ?_⟩) (by assumption) ?_
      rotate_left
      · intro W hSw
        (try dsimp only at hSw)
        go_simp
        (try with_reducible rfl)
      (try simp only [Act.put, List.setIfInBounds_toArray, List.set_cons_zero, List.set_cons_succ])
      refine wpAnyZ_take (i := 13) (oi := ⟨_, _, _, _, _, _⟩) (v := ?_) rfl (by kernel_rfl) (by kernel_rfl) (by kernel_rfl) (by kernel_rfl) (by kernel_rfl) (fun _ _ _ h => h) (Or.inl ⟨by rfl, ?_⟩) (by assumption) ?_
      rotate_left
      · intro W hSw
        (try dsimp only at hSw)
        go_simp
        (try with_reducible rfl)
      (try simp only [Act.put, List.setIfInBounds_toArray, List.set_cons_zero, List.set_cons_succ])
      refine wpAnyZ_take (i := 14) (oi := ⟨_, _, _, _, _, _⟩) (v := ?_) rfl (by kernel_rfl) (by kernel_rfl) (by kernel_rfl) (by kernel_rfl) (by kernel_rfl) (fun _ _ _ h => h) (Or.inl ⟨by rfl, ?_⟩) (by assumption) ?_
      rotate_left
      · intro W hSw
        (try dsimp only at hSw)
        go_simp
        (try with_reducible rfl)
      (try simp only [Act.put, List.setIfInBounds_toArray, List.set_cons_zero, List.set_cons_succ])
      refine wpAnyZ_ready (rs := [0]) (by kernel_rfl) (by simp) ?_
      refine AllReadyZ.cons (o := ⟨_, _, _, _, _, _⟩) rfl (fun C hC => ?_) AllReadyZ.nil
      go_simp
      refine (names_any u0).mono ?_
      rintro e u1 ⟨gn, rfl, HNM, HNB⟩
      have HO1 : Hid (Two W (fun _ => False) wo u1 kf s kg t) := HO0.out.on HNB.out.1
      have hHeld : (fun (V : World) => V.cell? ⟨bl, ol + i * 7 + 1, none⟩ = some (.int .i64 xa) ∧ V.cell? ⟨bl, ol + i * 7 + 2, none⟩ = some (.int .i64 xb)) u1 := KS.out _ HO1.out.below
      refine hC.out _ _ (fun _ => hHeld) (fun _ => ?_)
      clear hC C
      (try simp only [Act.put, List.setIfInBounds_toArray, List.set_cons_zero, List.set_cons_succ])
      refine wpAnyZ_ready (rs := [6]) (by kernel_rfl) (by simp) ?_
      refine AllReadyZ.cons (o := ⟨_, _, _, _, _, _⟩) rfl (fun C hC => ?_) AllReadyZ.nil
      go_simp
      refine (within_any xa 3 u1 hka0 (by omega)).mono ?_
      rintro e u2 ⟨kn, rfl, hkn, rfl⟩
      obtain ⟨sn, hsn, hsz, _⟩ := nm_at (k := kn) (by omega)
      have hc : u1.cell? ⟨gn, kn, none⟩ = some (.string sn) := HNM.out kn sn hsn
      have hkn7 : (kn : Int) < 7 := by omega
      have HGN : Hid (gn < u1.heap.size) := HNB.out.2.2
      have hHeld : (fun (V : World) => V.cell? ⟨bl, ol + i * 7 + 1, none⟩ = some (.int .i64 xa) ∧ V.cell? ⟨bl, ol + i * 7 + 2, none⟩ = some (.int .i64 xb)) u1 := hHeld
      refine hC.out _ _ (fun _ => hHeld) (fun _ => ?_)
      clear hC C
      (try simp only [Act.put, List.setIfInBounds_toArray, List.set_cons_zero, List.set_cons_succ])
      refine wpAnyZ_strengthen (S' := (fun (V : World) => (V.cell? ⟨bl, ol + i * 7 + 1, none⟩ = some (.int .i64 xa) ∧ V.cell? ⟨bl, ol + i * 7 + 2, none⟩ = some (.int .i64 xb)) ∧ V.cell? ⟨gn, kn, none⟩ = some (.string sn))) (fun V h => h.1) _ _ _ _ ?_
      clear hHeld
      have hHeld : (fun (V : World) => (V.cell? ⟨bl, ol + i * 7 + 1, none⟩ = some (.int .i64 xa) ∧ V.cell? ⟨bl, ol + i * 7 + 2, none⟩ = some (.int .i64 xb)) ∧ V.cell? ⟨gn, kn, none⟩ = some (.string sn)) u1 := ⟨KS.out _ HO1.out.below, hc⟩
      refine wpAnyZ_take (i := 7) (oi := ⟨_, _, _, _, _, _⟩) (v := ?_) rfl (by kernel_rfl) (by kernel_rfl) (by kernel_rfl) (by kernel_rfl) (by kernel_rfl) (fun _ _ _ h => h) (Or.inl ⟨by rfl, ?_⟩) (by assumption) ?_
      rotate_left
      · intro W hSw
        (try dsimp only at hSw)
        go_simp
        (try with_reducible rfl)
      (try simp only [Act.put, List.setIfInBounds_toArray, List.set_cons_zero, List.set_cons_succ])
      refine wpAnyZ_take (i := 8) (oi := ⟨_, _, _, _, _, _⟩) (v := ?_) rfl (by kernel_rfl) (by kernel_rfl) (by kernel_rfl) (by kernel_rfl) (by kernel_rfl) (fun _ _ _ h => h) (Or.inl ⟨by rfl, ?_⟩) (by assumption) ?_
      rotate_left
      · intro W hSw
        (try dsimp only at hSw)
        go_simp
        (try with_reducible rfl)
      (try simp only [Act.put, List.setIfInBounds_toArray, List.set_cons_zero, List.set_cons_succ])
      clear HNM HNB hsn
      refine wpAnyZ_ready (rs := [9]) (by kernel_rfl) (by simp) ?_
      refine AllReadyZ.cons (o := ⟨_, _, _, _, _, _⟩) rfl (fun C hC => ?_) AllReadyZ.nil
      go_simp
      refine (names_any u1).mono ?_
      rintro e u3 ⟨gm, rfl, HNM, HNB⟩
      have HO3 : Hid (Two W (fun _ => False) wo u3 kf s kg t) := HO1.out.on HNB.out.1
      have hc3 : u3.cell? ⟨gn, kn, none⟩ = some (.string sn) := (HNB.out.1.cell (p := ⟨gn, kn, none⟩) HGN.out).trans hc
      clear hc
      have hHeld : (fun (V : World) => (V.cell? ⟨bl, ol + i * 7 + 1, none⟩ = some (.int .i64 xa) ∧ V.cell? ⟨bl, ol + i * 7 + 2, none⟩ = some (.int .i64 xb)) ∧ V.cell? ⟨gn, kn, none⟩ = some (.string sn)) u3 := ⟨KS.out _ HO3.out.below, hc3⟩
      refine hC.out _ _ (fun _ => hHeld) (fun _ => ?_)
      clear hC C
      (try simp only [Act.put, List.setIfInBounds_toArray, List.set_cons_zero, List.set_cons_succ])
      refine wpAnyZ_ready (rs := [15]) (by kernel_rfl) (by simp) ?_
      refine AllReadyZ.cons (o := ⟨_, _, _, _, _, _⟩) rfl (fun C hC => ?_) AllReadyZ.nil
      go_simp
      refine (within_any xb 3 u3 hkb0 (by omega)).mono ?_
      rintro e u4 ⟨km, rfl, hkm, rfl⟩
      obtain ⟨sm, hsm, hsmz, _⟩ := nm_at (k := km) (by omega)
      have hc4 : u3.cell? ⟨gm, km, none⟩ = some (.string sm) := HNM.out km sm hsm
      have hkm7 : (km : Int) < 7 := by omega
      have hHeld : (fun (V : World) => (V.cell? ⟨bl, ol + i * 7 + 1, none⟩ = some (.int .i64 xa) ∧ V.cell? ⟨bl, ol + i * 7 + 2, none⟩ = some (.int .i64 xb)) ∧ V.cell? ⟨gn, kn, none⟩ = some (.string sn)) u3 := hHeld
      refine hC.out _ _ (fun _ => hHeld) (fun _ => ?_)
      clear hC C
      (try simp only [Act.put, List.setIfInBounds_toArray, List.set_cons_zero, List.set_cons_succ])
      refine wpAnyZ_strengthen (S' := (fun (V : World) => ((V.cell? ⟨bl, ol + i * 7 + 1, none⟩ = some (.int .i64 xa) ∧ V.cell? ⟨bl, ol + i * 7 + 2, none⟩ = some (.int .i64 xb)) ∧ V.cell? ⟨gn, kn, none⟩ = some (.string sn)) ∧ V.cell? ⟨gm, km, none⟩ = some (.string sm))) (fun V h => h.1) _ _ _ _ ?_
      clear hHeld
      have hHeld : (fun (V : World) => ((V.cell? ⟨bl, ol + i * 7 + 1, none⟩ = some (.int .i64 xa) ∧ V.cell? ⟨bl, ol + i * 7 + 2, none⟩ = some (.int .i64 xb)) ∧ V.cell? ⟨gn, kn, none⟩ = some (.string sn)) ∧ V.cell? ⟨gm, km, none⟩ = some (.string sm)) u3 := ⟨⟨KS.out _ HO3.out.below, hc3⟩, hc4⟩
      refine wpAnyZ_take (i := 16) (oi := ⟨_, _, _, _, _, _⟩) (v := ?_) rfl (by kernel_rfl) (by kernel_rfl) (by kernel_rfl) (by kernel_rfl) (by kernel_rfl) (fun _ _ _ h => h) (Or.inl ⟨by rfl, ?_⟩) (by assumption) ?_
      rotate_left
      · intro W hSw
        (try dsimp only at hSw)
        go_simp
        (try with_reducible rfl)
      (try simp only [Act.put, List.setIfInBounds_toArray, List.set_cons_zero, List.set_cons_succ])
      refine wpAnyZ_take (i := 17) (oi := ⟨_, _, _, _, _, _⟩) (v := ?_) rfl (by kernel_rfl) (by kernel_rfl) (by kernel_rfl) (by kernel_rfl) (by kernel_rfl) (fun _ _ _ h => h) (Or.inl ⟨by rfl, ?_⟩) (by assumption) ?_
      rotate_left
      · intro W hSw
        (try dsimp only at hSw)
        go_simp
        (try with_reducible rfl)
      (try simp only [Act.put, List.setIfInBounds_toArray, List.set_cons_zero, List.set_cons_succ])
      refine wpAnyZ_take (i := 18) (oi := ⟨_, _, _, _, _, _⟩) (v := ?_) rfl (by kernel_rfl) (by kernel_rfl) (by kernel_rfl) (by kernel_rfl) (by kernel_rfl) (fun _ _ _ h => h) (Or.inl ⟨by rfl, ?_⟩) (by assumption) ?_
      rotate_left
      · intro W hSw
        (try dsimp only at hSw)
        go_simp
        (try with_reducible rfl)
      (try simp only [Act.put, List.setIfInBounds_toArray, List.set_cons_zero, List.set_cons_succ])
      refine wpAnyZ_take (i := 19) (oi := ⟨_, _, _, _, _, _⟩) (v := ?_) rfl (by kernel_rfl) (by kernel_rfl) (by kernel_rfl) (by kernel_rfl) (by kernel_rfl) (fun _ _ _ h => h) (Or.inl ⟨by rfl, ?_⟩) (by assumption) ?_
      rotate_left
      · intro W hSw
        (try dsimp only at hSw)
        go_simp
        (try with_reducible rfl)
      (try simp only [Act.put, List.setIfInBounds_toArray, List.set_cons_zero, List.set_cons_succ])
      refine wpAnyZ_done (by kernel_rfl) ?_ _
      refine NoPanic.normal ?_
      clear hHeld hc3 hc4 HNM HNB HO0 HO1 hsm KS HGN
      obtain ⟨u5, hu5⟩ : ∃ u, u = u3 := ⟨_, rfl⟩
      subst hu5
      have HB5 : Hid (Below W.heap.size W u5) := HO3.out.below
      have HTW : Hid (Two W (fun _ => False) u5 u5 kf s kg t) := HO3.out.reset
      clear HO3
      go_upto_region 10 with fail
      obtain ⟨kq, hkq⟩ : ∃ k, k = (kd % (4 + 1)).toNat := ⟨_, rfl⟩
      have HKQ := Lib.hid hkq
      have hPL : ps.length = plen := HX.out.p.length
      have HPL := Lib.hid hPL
      clear hkq hPL
      go_wp2_with fail
      obtain ⟨w6, hw6⟩ : ∃ z, z = u5.alloc (.cells #[.pointer (some ⟨kf, 0, none⟩), .pointer (some ⟨kg, 0, none⟩)] 28) := ⟨_, rfl⟩
      obtain ⟨G, hG⟩ : ∃ z, z = u5.heap.size := ⟨_, rfl⟩
      have hb6 : Below u5.heap.size u5 w6 := by rw [hw6]; exact alloc_below _ _
      obtain ⟨D, hD, _, hDn⟩ := HTW.out.held hb6
      have HDG : Hid (D G) := hDn G (by omega) (by rw [hw6, hG]; simp)
      have hcg : w6.heap[G]? = some (.cells #[.pointer (some ⟨kf, 0, none⟩), .pointer (some ⟨kg, 0, none⟩)] 28 (0, 0)) := by rw [hw6, hG]; exact heap_alloc_new _ _
      have HC0 : Hid (w6.cell? ⟨G, 0, none⟩ = some (.pointer (some ⟨kf, 0, none⟩))) := by show _ = _; rw [cell_of_row _ _ 0 _ _ _ hcg]; rfl
      have HC1 : Hid (w6.cell? ⟨G, 1, none⟩ = some (.pointer (some ⟨kg, 0, none⟩))) := by show _ = _; rw [cell_of_row _ _ 1 _ _ _ hcg]; rfl
      have HD0 := Lib.hid hD
      try rw [← hw6, ← hG]
      clear hw6 hG hb6 hD hDn hcg HTW
      obtain ⟨hbig0, hlen0, hnum0⟩ := sm_big HS.out.sm (by omega)
      obtain ⟨hbig1, hlen1, hnum1⟩ := sm_big HS.out.sn (by omega)
      have HB0 := Lib.hid hbig0
      have HB1 := Lib.hid hbig1
      have HPAR := Lib.hid (par_op HS.out.par kq sn sm ps)
      have HSM := Lib.hid (HS.out.sm.op kq sn sm ps)
      have HSN := Lib.hid (HS.out.sn.oth N kq sn sm ps)
      clear hbig0 hbig1 HS
      have hkq5 : kq ≤ 4 := by
        have h1 := HKQ.out
        have h3 : kd % (4 + 1) < 4 + 1 := Int.emod_lt_of_pos _ (by omega)
        have h4 : 0 ≤ kd % (4 + 1) := Int.emod_nonneg _ (by omega)
        omega
      go_loopw [65] (fun v65 wr => ∃ k : Nat, v65 = .int .i64 (k : Int) ∧ k ≤ 2 ∧ Hid (Two W D w6 wr kf (sAt k kq sn sm ps s) kg (tAt N k kq sn sm ps t))) (fun v65 _ => 2 - (intOf v65).toNat)
      case atStart => exact ⟨0, by rfl, by omega, HD0.out⟩
      case round =>
        obtain ⟨k, rfl, hk, HIN2⟩ := hrel
        obtain ⟨wi, hwi⟩ : ∃ wi : World, wi = wr := ⟨_, rfl⟩
        subst hwi
        clear HD0
        have t0 := (HAT.out wi HIN2.out.below).c0
        have t4 := (HAT.out wi HIN2.out.below).c4
        have hk3 : k = 0 ∨ k = 1 ∨ k = 2 := by omega
        rcases hk3 with rfl | rfl | rfl
        · have HIN2 : Hid (Two W D w6 wi kf s kg t) := HIN2
          have g0 := HIN2.out.cell HDG.out HC0.out
          have he := HIN2.out.eql_no
          have hnum := hnum0
          have hlen := hlen0
          have HBIG := HB0
          go_wp2_with fail
          refine (within_fun kd 4 wi hkk0 (by omega)).mono ?_
          rintro e u ⟨k1, hk1, rfl, hk2, rfl⟩
          have hk1q : k1 = kq := hk1.trans HKQ.out.symm
          clear hk1
          subst hk1q
          have hq5 : k1 = 0 ∨ k1 = 1 ∨ k1 = 2 ∨ k1 = 3 ∨ k1 = 4 := by omega
          obtain ⟨X, ho, hback⟩ := HIN2.out.first
          rcases hq5 with rfl | rfl | rfl | rfl | rfl
          · go_wp2_with fail
            refine (oneRename ho hnum hlen sn hsz sm hsmz).mono ?_
            rintro e u6 ⟨rfl, H6⟩
            have HNX := Lib.hid (hback _ _ H6.out)
            clear ho hback H6
            go_wp2
            go_roundw
            case rel => exact ⟨1, by rfl, by omega, HNX.out⟩
            case measure => simp [intOf]
          · go_wp2_with fail
            refine (oneRemove ho hnum sn hsz).mono ?_
            rintro e u6 ⟨rfl, H6⟩
            have HNX := Lib.hid (hback _ _ H6.out)
            clear ho hback H6
            go_wp2
            go_roundw
            case rel => exact ⟨1, by rfl, by omega, HNX.out⟩
            case measure => simp [intOf]
          · go_wp2_with fail
            refine (oneSync ho hnum sn hsz).mono ?_
            rintro e u6 ⟨rfl, H6⟩
            have HNX := Lib.hid (hback _ _ H6.out)
            clear ho hback H6
            go_wp2
            go_roundw
            case rel => exact ⟨1, by rfl, by omega, HNX.out⟩
            case measure => simp [intOf]
          · go_wp2_with fail
            refine (oneAppend ho hnum hlen sn hsz (Below.refl _ _) pad plen pcap ps (HX.out.p.keep HIN2.out.below) HX.out.pa (fun a e h0 => .inl (HX.out.p.lt h0 a e)) (fun f hf _ => by have := HBIG.out f hf; have := HX.out.pl; simp only at this; omega) (by have := HX.out.pl; simp only at this; omega)).mono ?_
            rintro e u6 ⟨rfl, H6⟩
            have HNX := Lib.hid (hback _ _ H6.out)
            clear ho hback H6
            go_wp2
            go_roundw
            case rel => exact ⟨1, by rfl, by omega, HNX.out⟩
            case measure => simp [intOf]
          · go_wp2_with fail
            refine (oneAppend ho hnum hlen sn hsz (Below.refl _ _) pad plen pcap ps (HX.out.p.keep HIN2.out.below) HX.out.pa (fun a e h0 => .inl (HX.out.p.lt h0 a e)) (fun f hf _ => by have := HBIG.out f hf; have := HX.out.pl; simp only at this; omega) (by have := HX.out.pl; simp only at this; omega)).mono ?_
            rintro e u6 ⟨rfl, H6⟩
            have HNX := Lib.hid (hback _ _ H6.out)
            clear ho hback H6
            go_wp2
            go_roundw
            case rel => exact ⟨1, by rfl, by omega, HNX.out⟩
            case measure => simp [intOf]
        · have HIN2 : Hid (Two W D w6 wi kf (opF kq sn sm ps s) kg t) := HIN2
          have g0 := HIN2.out.cell HDG.out HC1.out
          have he := eql_yes wi kg
          have hnum := hnum1
          have hlen := hlen1
          have HBIG := HB1
          go_wp2_with fail
          obtain ⟨X, ho, hback⟩ := HIN2.out.swap.first
          refine (oneDeeds ho).mono ?_
          rintro e u ⟨rfl, rfl⟩
          by_cases hdn : t.done < (N : Int)
          · have HDN := Lib.hid hdn
            have hdd : decide ((N : Int) ≤ t.done) = false := decide_eq_false (by omega)
            clear hdn
            go_wp2_with fail
            refine (within_fun kd 4 wi hkk0 (by omega)).mono ?_
            rintro e u ⟨k1, hk1, rfl, hk2, rfl⟩
            have hk1q : k1 = kq := hk1.trans HKQ.out.symm
            clear hk1
            subst hk1q
            have hq5 : k1 = 0 ∨ k1 = 1 ∨ k1 = 2 ∨ k1 = 3 ∨ k1 = 4 := by omega
            rcases hq5 with rfl | rfl | rfl | rfl | rfl
            · go_wp2_with fail
              refine (oneRename ho hnum hlen sn hsz sm hsmz).mono ?_
              rintro e u6 ⟨rfl, H6⟩
              have HNX := Lib.hid (hback _ _ H6.out).swap
              clear ho hback H6
              go_wp2
              go_roundw
              case rel => exact ⟨2, by rfl, by omega, by
                rw [tAt_two HDN.out, sAt_two]
                exact HNX⟩
              case measure => simp [intOf]
            · go_wp2_with fail
              refine (oneRemove ho hnum sn hsz).mono ?_
              rintro e u6 ⟨rfl, H6⟩
              have HNX := Lib.hid (hback _ _ H6.out).swap
              clear ho hback H6
              go_wp2
              go_roundw
              case rel => exact ⟨2, by rfl, by omega, by
                rw [tAt_two HDN.out, sAt_two]
                exact HNX⟩
              case measure => simp [intOf]
            · go_wp2_with fail
              refine (oneSync ho hnum sn hsz).mono ?_
              rintro e u6 ⟨rfl, H6⟩
              have HNX := Lib.hid (hback _ _ H6.out).swap
              clear ho hback H6
              go_wp2
              go_roundw
              case rel => exact ⟨2, by rfl, by omega, by
                rw [tAt_two HDN.out, sAt_two]
                exact HNX⟩
              case measure => simp [intOf]
            · go_wp2_with fail
              refine (oneAppend ho hnum hlen sn hsz (Below.refl _ _) pad plen pcap ps (HX.out.p.keep HIN2.out.below) HX.out.pa (fun a e h0 => .inl (HX.out.p.lt h0 a e)) (fun f hf _ => by have := HBIG.out f hf; have := HX.out.pl; simp only at this; omega) (by have := HX.out.pl; simp only at this; omega)).mono ?_
              rintro e u6 ⟨rfl, H6⟩
              have HNX := Lib.hid (hback _ _ H6.out).swap
              clear ho hback H6
              go_wp2
              go_roundw
              case rel => exact ⟨2, by rfl, by omega, by
                rw [tAt_two HDN.out, sAt_two]
                exact HNX⟩
              case measure => simp [intOf]
            · go_wp2_with fail
              refine (oneAppend ho hnum hlen sn hsz (Below.refl _ _) pad plen pcap ps (HX.out.p.keep HIN2.out.below) HX.out.pa (fun a e h0 => .inl (HX.out.p.lt h0 a e)) (fun f hf _ => by have := HBIG.out f hf; have := HX.out.pl; simp only at this; omega) (by have := HX.out.pl; simp only at this; omega)).mono ?_
              rintro e u6 ⟨rfl, H6⟩
              have HNX := Lib.hid (hback _ _ H6.out).swap
              clear ho hback H6
              go_wp2
              go_roundw
              case rel => exact ⟨2, by rfl, by omega, by
                rw [tAt_two HDN.out, sAt_two]
                exact HNX⟩
              case measure => simp [intOf]
          · have hdd : decide ((N : Int) ≤ t.done) = true := decide_eq_true (by omega)
            have HDN : Hid ((N : Int) ≤ t.done) := by show _ ≤ _; omega
            clear hdn ho hback
            go_wp2
            go_roundw
            case rel => exact ⟨2, by rfl, by omega, by
              rw [tAt_idle HDN.out, sAt_two]
              exact HIN2⟩
            case measure => simp [intOf]
        · have HIN2 : Hid (Two W D w6 wi kf (opF kq sn sm ps s) kg (othF N kq sn sm ps t)) := HIN2
          obtain ⟨s2, hs2⟩ : ∃ s2, s2 = opF kq sn sm ps s := ⟨_, rfl⟩
          obtain ⟨t2, ht2⟩ : ∃ t2, t2 = othF N kq sn sm ps t := ⟨_, rfl⟩
          rw [← hs2, ← ht2] at HPAR HIN2
          rw [← hs2] at HSM
          rw [← ht2] at HSN
          clear hs2 ht2
          have HNX : Hid (StAt W wi kf kg N s2 t2 (i + 1)) := ⟨HIN2.out.reset, HPAR.out, HSM.out.more (by omega) (by have := HPL.out; have := HX.out.pl; simp only at this; omega) (by omega), HSN.out.more (by omega) (by have := HPL.out; have := HX.out.pl; simp only at this; omega) (by omega)⟩
          obtain ⟨X, ho, _⟩ := HIN2.out.first
          obtain ⟨X2, ho2, _⟩ := HIN2.out.swap.first
          have hdd : decide ((N : Int) < s2.done) = false := decide_eq_false (by have := HPAR.out.le; omega)
          have hde : t2.done = s2.done := HPAR.out.d.symm
          clear t0 t4
          go_wp2_with fail
          refine (oneDeeds ho).mono ?_
          rintro e u ⟨rfl, rfl⟩
          go_wp2_with fail
          refine (oneDeeds ho2).mono ?_
          rintro e u ⟨rfl, rfl⟩
          rw [hde]
          clear hde
          go_wp2_with fail
          refine (oneDeeds ho).mono ?_
          rintro e u ⟨rfl, rfl⟩
          clear ho ho2
          go_wp2
          go_roundw
          case rel => exact ⟨i + 1, s2, t2, by go_num, by omega, by omega, HNX.out⟩
          case measure => simp [intOf]; omega
    · have HE : Hid (¬ (i < len ∧ i < 60)) := hlt
      obtain ⟨hbig0, hlen0, _⟩ := sm_big HS.out.sm (by omega)
      obtain ⟨hbig1, hlen1, _⟩ := sm_big HS.out.sn (by omega)
      have HBG0 := Lib.hid hbig0
      have HBG1 := Lib.hid hbig1
      clear hbig0 hbig1
      by_cases hd : i < len
      · have hd1 : decide (i < len) = true := decide_eq_true hd
        obtain rfl : i = 60 := by have := HE.out; omega
        clear hlt
        go_wp2_with fail
        obtain ⟨X, ho, _⟩ := HS.out.two.first
        refine (oneList ho hlen0 HT.out h2).mono ?_
        rintro e w5 ⟨hb5, ad5, cap5, rfl, hr5⟩
        have hT5 := HS.out.two.on hb5.out
        obtain ⟨nms, hnms⟩ : ∃ x, x = s.l.map (·.name) := ⟨_, rfl⟩
        obtain ⟨M, hM⟩ : ∃ M, nms.length = M := ⟨_, rfl⟩
        rw [← hnms, hM] at hr5
        rw [← hnms, hM]
        have HR5 := Lib.hid hr5.out.1
        have HM := Lib.hid hM
        have HNMS := Lib.hid hnms
        have hM10 : M ≤ 10000 := by rw [← hM, hnms, List.length_map]; exact hlen0
        clear ho hb5 hr5 hnms
        go_wp2_with fail
        obtain ⟨X2, ho2, _⟩ := hT5.swap.first
        refine (oneList ho2 hlen1 HT.out h2).mono ?_
        rintro e w6 ⟨hb6, ad6, cap6, rfl, hr6⟩
        have hnt : t.l.map (·.name) = nms := by rw [← HS.out.par.l]; exact HNMS.out.symm
        rw [hnt, hM] at hr6
        rw [hnt, hM]
        have HT6 := Lib.hid (hT5.on hb6.out)
        have HR5 := Lib.hid (HR5.out.keep hb6.out)
        have HR6 := Lib.hid hr6.out.1
        clear hT5 ho2 hb6 hr6 hnt hM
        go_wp2_with fail
        go_loopw [131] (fun v131 wr => ∃ j : Nat, v131 = .int .i64 (j : Int) ∧ j ≤ M ∧ Hid (Below w6.heap.size w6 wr)) (fun v131 _ => M - (intOf v131).toNat)
        case atStart => exact ⟨0, by rfl, by omega, Below.refl _ _⟩
        case round =>
          obtain ⟨j, rfl, hj, HBJ⟩ := hrel
          obtain ⟨wi, hwi⟩ : ∃ wi : World, wi = wr := ⟨_, rfl⟩
          subst hwi
          by_cases hjM : j < M
          · have hdj : decide (j < M) = true := decide_eq_true hjM
            have hjM2 : (j : Int) < (M : Int) := by omega
            obtain ⟨f, hf⟩ : ∃ f, s.l[j]? = some f := ⟨_, List.getElem?_eq_getElem (by have := HM.out; rw [HNMS.out, List.length_map] at this; omega)⟩
            have hfm := List.mem_of_getElem? hf
            obtain ⟨nm, hnm⟩ : ∃ nm, nm = f.name := ⟨_, rfl⟩
            have hnj : nms[j]? = some nm := by rw [HNMS.out, List.getElem?_map, hf, hnm]; rfl
            have hTJ := HT6.out.on HBJ.out
            obtain ⟨X, ho, _⟩ := hTJ.first
            obtain ⟨hba, hnz⟩ := ho.all f hfm
            have hrd1 : readF s.l nm = some f.b := by rw [hnm]; exact read_of ho.sorted hfm
            have hrd2 : readF t.l nm = some f.b := by rw [← HS.out.par.l]; exact hrd1
            have hnz2 : nm.size ≤ 1073741824 := by rw [hnm]; exact hnz
            have HR1 := Lib.hid hrd1
            have HR2 := Lib.hid hrd2
            have HBA := Lib.hid hba
            obtain ⟨q5, o5, n5, e5, hq5, hn5, c5⟩ := str_get (HR5.out.keep HBJ.out) hjM
            obtain ⟨q6, o6, n6, e6, hq6, hn6, c6⟩ := str_get (HR6.out.keep HBJ.out) hjM
            rw [hnj] at hn5 hn6
            have e5n : nm = n5 := Option.some.inj hn5
            have e6n : nm = n6 := Option.some.inj hn6
            rw [← e5n] at c5
            rw [← e6n] at c6
            have HTJ := Lib.hid hTJ
            subst e5
            subst e6
            clear hf hfm hnm hnj hrd1 hrd2 hba hnz hTJ hn5 hn6 e5n e6n
            go_wp2_with fail
            refine (oneRead ho nm hnz2 (fun f hf => by have := HBG0.out f hf; omega)).mono ?_
            rintro e w7 hrd
            rw [HR1.out] at hrd
            obtain ⟨hb7, ad7, cap7, rfl, hr7⟩ := hrd
            have HT7 := Lib.hid (HTJ.out.on hb7.out)
            have HX7 := Lib.hid hr7.out.1
            have HB7 := Lib.hid (HBJ.out.trans (hb7.out.mono HBJ.out.size))
            have c5 := (hb7.out.cell (p := ⟨q5, o5 + j, none⟩) hq5).trans c5
            have c6 := (hb7.out.cell (p := ⟨q6, o6 + j, none⟩) hq6).trans c6
            have hq5 := Nat.lt_of_lt_of_le hq5 hb7.out.size
            have hq6 := Nat.lt_of_lt_of_le hq6 hb7.out.size
            clear ho hb7 hr7 HTJ
            go_wp2_with fail
            obtain ⟨X2, ho2, _⟩ := HT7.out.swap.first
            refine (oneRead ho2 nm hnz2 (fun f hf => by have := HBG1.out f hf; omega)).mono ?_
            rintro e w8 hrd
            rw [HR2.out] at hrd
            obtain ⟨hb8, ad8, cap8, rfl, hr8⟩ := hrd
            have HX8 := Lib.hid hr8.out.1
            have HX7 := Lib.hid (HX7.out.keep hb8.out)
            have HB8 := Lib.hid (HB7.out.trans (hb8.out.mono HB7.out.size))
            have c5 := (hb8.out.cell (p := ⟨q5, o5 + j, none⟩) hq5).trans c5
            have c6 := (hb8.out.cell (p := ⟨q6, o6 + j, none⟩) hq6).trans c6
            have hq5 := Nat.lt_of_lt_of_le hq5 hb8.out.size
            have hq6 := Nat.lt_of_lt_of_le hq6 hb8.out.size
            obtain ⟨FL, hFL⟩ : ∃ n, n = f.b.length := ⟨_, rfl⟩
            rw [← hFL] at HX7 HX8
            rw [← hFL]
            clear ho2 hb8 hr8 hFL
            obtain ⟨sB, hsB⟩ : ∃ z, z = str f.b := ⟨_, rfl⟩
            have KS : Hid (∀ V, Below w8.heap.size w8 V → V.cell? ⟨q5, o5 + j, none⟩ = some (.string nm) ∧ V.cell? ⟨q6, o6 + j, none⟩ = some (.string nm) ∧ (convert 23 9 (.slice ad7 FL cap7)).run Tryd.prog V = .ok (.string sB) V ∧ (convert 23 9 (.slice ad8 FL cap8)).run Tryd.prog V = .ok (.string sB) V) := fun V hV =>
              ⟨(hV.cell (p := ⟨q5, o5 + j, none⟩) hq5).trans c5, (hV.cell (p := ⟨q6, o6 + j, none⟩) hq6).trans c6, str_row (HX7.out.keep hV) HBA.out hsB, str_row (HX8.out.keep hV) HBA.out hsB⟩
            clear hsB c5 c6
            go_upto_region 33 with fail
            go_region_held3 (fun V => Below w8.heap.size w8 V ∧ V.cell? ⟨q5, o5 + j, none⟩ = some (.string nm) ∧ V.cell? ⟨q6, o6 + j, none⟩ = some (.string nm) ∧ (convert 23 9 (.slice ad7 FL cap7)).run Tryd.prog V = .ok (.string sB) V ∧ (convert 23 9 (.slice ad8 FL cap8)).run Tryd.prog V = .ok (.string sB) V) (exact ⟨(Below.refl _ _).drew, KS.out _ (Below.refl _ _).drew⟩) (fail)
            have HB9 : Hid (Below w6.heap.size w6 w8.drew) := HB8.out.trans ((Below.refl _ w8).drew.mono HB8.out.size)
            obtain ⟨w9, hw9⟩ : ∃ z, z = w8.drew := ⟨_, rfl⟩
            rw [← hw9] at HB9
            rw [← hw9]
            clear hw9 KS
            go_wp2
            go_roundw
            case rel => exact ⟨j + 1, by go_num, by omega, HB9.out⟩
            case measure => simp [intOf]; omega
          · have hdj : decide (j < M) = false := decide_eq_false hjM
            have HBE : Hid (Below W.heap.size W wi) := HT6.out.below.trans (HBJ.out.mono HT6.out.below.size)
            go_wp2_with fail
            refine (known_any wi (HT.out.keep HBE.out) (Nat.le_trans h2 HBE.out.size)).mono ?_
            rintro e w9 ⟨rfl, hb9⟩
            have HB9 := Lib.hid (HBE.out.trans (hb9.mono HBE.out.size))
            clear hb9
            go_wp2
            go_ret
            exact ⟨rfl, HB9.out⟩
      · have hd1 : decide (i < len) = false := decide_eq_false hd
        clear hlt
        go_wp2_with fail
        obtain ⟨X, ho, _⟩ := HS.out.two.first
        refine (oneList ho hlen0 HT.out h2).mono ?_
        rintro e w5 ⟨hb5, ad5, cap5, rfl, hr5⟩
        have hT5 := HS.out.two.on hb5.out
        obtain ⟨nms, hnms⟩ : ∃ x, x = s.l.map (·.name) := ⟨_, rfl⟩
        obtain ⟨M, hM⟩ : ∃ M, nms.length = M := ⟨_, rfl⟩
        rw [← hnms, hM] at hr5
        rw [← hnms, hM]
        have HR5 := Lib.hid hr5.out.1
        have HM := Lib.hid hM
        have HNMS := Lib.hid hnms
        have hM10 : M ≤ 10000 := by rw [← hM, hnms, List.length_map]; exact hlen0
        clear ho hb5 hr5 hnms
        go_wp2_with fail
        obtain ⟨X2, ho2, _⟩ := hT5.swap.first
        refine (oneList ho2 hlen1 HT.out h2).mono ?_
        rintro e w6 ⟨hb6, ad6, cap6, rfl, hr6⟩
        have hnt : t.l.map (·.name) = nms := by rw [← HS.out.par.l]; exact HNMS.out.symm
        rw [hnt, hM] at hr6
        rw [hnt, hM]
        have HT6 := Lib.hid (hT5.on hb6.out)
        have HR5 := Lib.hid (HR5.out.keep hb6.out)
        have HR6 := Lib.hid hr6.out.1
        clear hT5 ho2 hb6 hr6 hnt hM
        go_wp2_with fail
        go_loopw [131] (fun v131 wr => ∃ j : Nat, v131 = .int .i64 (j : Int) ∧ j ≤ M ∧ Hid (Below w6.heap.size w6 wr)) (fun v131 _ => M - (intOf v131).toNat)
        case atStart => exact ⟨0, by rfl, by omega, Below.refl _ _⟩
        case round =>
          obtain ⟨j, rfl, hj, HBJ⟩ := hrel
          obtain ⟨wi, hwi⟩ : ∃ wi : World, wi = wr := ⟨_, rfl⟩
          subst hwi
          by_cases hjM : j < M
          · have hdj : decide (j < M) = true := decide_eq_true hjM
            have hjM2 : (j : Int) < (M : Int) := by omega
            obtain ⟨f, hf⟩ : ∃ f, s.l[j]? = some f := ⟨_, List.getElem?_eq_getElem (by have := HM.out; rw [HNMS.out, List.length_map] at this; omega)⟩
            have hfm := List.mem_of_getElem? hf
            obtain ⟨nm, hnm⟩ : ∃ nm, nm = f.name := ⟨_, rfl⟩
            have hnj : nms[j]? = some nm := by rw [HNMS.out, List.getElem?_map, hf, hnm]; rfl
            have hTJ := HT6.out.on HBJ.out
            obtain ⟨X, ho, _⟩ := hTJ.first
            obtain ⟨hba, hnz⟩ := ho.all f hfm
            have hrd1 : readF s.l nm = some f.b := by rw [hnm]; exact read_of ho.sorted hfm
            have hrd2 : readF t.l nm = some f.b := by rw [← HS.out.par.l]; exact hrd1
            have hnz2 : nm.size ≤ 1073741824 := by rw [hnm]; exact hnz
            have HR1 := Lib.hid hrd1
            have HR2 := Lib.hid hrd2
            have HBA := Lib.hid hba
            obtain ⟨q5, o5, n5, e5, hq5, hn5, c5⟩ := str_get (HR5.out.keep HBJ.out) hjM
            obtain ⟨q6, o6, n6, e6, hq6, hn6, c6⟩ := str_get (HR6.out.keep HBJ.out) hjM
            rw [hnj] at hn5 hn6
            have e5n : nm = n5 := Option.some.inj hn5
            have e6n : nm = n6 := Option.some.inj hn6
            rw [← e5n] at c5
            rw [← e6n] at c6
            have HTJ := Lib.hid hTJ
            subst e5
            subst e6
            clear hf hfm hnm hnj hrd1 hrd2 hba hnz hTJ hn5 hn6 e5n e6n
            go_wp2_with fail
            refine (oneRead ho nm hnz2 (fun f hf => by have := HBG0.out f hf; omega)).mono ?_
            rintro e w7 hrd
            rw [HR1.out] at hrd
            obtain ⟨hb7, ad7, cap7, rfl, hr7⟩ := hrd
            have HT7 := Lib.hid (HTJ.out.on hb7.out)
            have HX7 := Lib.hid hr7.out.1
            have HB7 := Lib.hid (HBJ.out.trans (hb7.out.mono HBJ.out.size))
            have c5 := (hb7.out.cell (p := ⟨q5, o5 + j, none⟩) hq5).trans c5
            have c6 := (hb7.out.cell (p := ⟨q6, o6 + j, none⟩) hq6).trans c6
            have hq5 := Nat.lt_of_lt_of_le hq5 hb7.out.size
            have hq6 := Nat.lt_of_lt_of_le hq6 hb7.out.size
            clear ho hb7 hr7 HTJ
            go_wp2_with fail
            obtain ⟨X2, ho2, _⟩ := HT7.out.swap.first
            refine (oneRead ho2 nm hnz2 (fun f hf => by have := HBG1.out f hf; omega)).mono ?_
            rintro e w8 hrd
            rw [HR2.out] at hrd
            obtain ⟨hb8, ad8, cap8, rfl, hr8⟩ := hrd
            have HX8 := Lib.hid hr8.out.1
            have HX7 := Lib.hid (HX7.out.keep hb8.out)
            have HB8 := Lib.hid (HB7.out.trans (hb8.out.mono HB7.out.size))
            have c5 := (hb8.out.cell (p := ⟨q5, o5 + j, none⟩) hq5).trans c5
            have c6 := (hb8.out.cell (p := ⟨q6, o6 + j, none⟩) hq6).trans c6
            have hq5 := Nat.lt_of_lt_of_le hq5 hb8.out.size
            have hq6 := Nat.lt_of_lt_of_le hq6 hb8.out.size
            obtain ⟨FL, hFL⟩ : ∃ n, n = f.b.length := ⟨_, rfl⟩
            rw [← hFL] at HX7 HX8
            rw [← hFL]
            clear ho2 hb8 hr8 hFL
            obtain ⟨sB, hsB⟩ : ∃ z, z = str f.b := ⟨_, rfl⟩
            have KS : Hid (∀ V, Below w8.heap.size w8 V → V.cell? ⟨q5, o5 + j, none⟩ = some (.string nm) ∧ V.cell? ⟨q6, o6 + j, none⟩ = some (.string nm) ∧ (convert 23 9 (.slice ad7 FL cap7)).run Tryd.prog V = .ok (.string sB) V ∧ (convert 23 9 (.slice ad8 FL cap8)).run Tryd.prog V = .ok (.string sB) V) := fun V hV =>
              ⟨(hV.cell (p := ⟨q5, o5 + j, none⟩) hq5).trans c5, (hV.cell (p := ⟨q6, o6 + j, none⟩) hq6).trans c6, str_row (HX7.out.keep hV) HBA.out hsB, str_row (HX8.out.keep hV) HBA.out hsB⟩
            clear hsB c5 c6
            go_upto_region 33 with fail
            go_region_held3 (fun V => Below w8.heap.size w8 V ∧ V.cell? ⟨q5, o5 + j, none⟩ = some (.string nm) ∧ V.cell? ⟨q6, o6 + j, none⟩ = some (.string nm) ∧ (convert 23 9 (.slice ad7 FL cap7)).run Tryd.prog V = .ok (.string sB) V ∧ (convert 23 9 (.slice ad8 FL cap8)).run Tryd.prog V = .ok (.string sB) V) (exact ⟨(Below.refl _ _).drew, KS.out _ (Below.refl _ _).drew⟩) (fail)
            have HB9 : Hid (Below w6.heap.size w6 w8.drew) := HB8.out.trans ((Below.refl _ w8).drew.mono HB8.out.size)
            obtain ⟨w9, hw9⟩ : ∃ z, z = w8.drew := ⟨_, rfl⟩
            rw [← hw9] at HB9
            rw [← hw9]
            clear hw9 KS
            go_wp2
            go_roundw
            case rel => exact ⟨j + 1, by go_num, by omega, HB9.out⟩
            case measure => simp [intOf]; omega
          · have hdj : decide (j < M) = false := decide_eq_false hjM
            have HBE : Hid (Below W.heap.size W wi) := HT6.out.below.trans (HBJ.out.mono HT6.out.below.size)
            go_wp2_with fail
            refine (known_any wi (HT.out.keep HBE.out) (Nat.le_trans h2 HBE.out.size)).mono ?_
            rintro e w9 ⟨rfl, hb9⟩
            have HB9 := Lib.hid (HBE.out.trans (hb9.mono HBE.out.size))
            clear hb9
            go_wp2
            go_ret
            exact ⟨rfl, HB9.out⟩
theorem stop_law (a0 : Option Addr) (len0 cap0 : Nat) (l0 : List Ak) (a1 : Int) (W : World) (w0 : RowAt askK W a0 len0 cap0 l0) (x0 : ∀ y ∈ l0, AskIn W y) (w1 : (Lit.int .i64 a1).wf = true) (hT : Tabs W) :
    Calls Tryd.prog 6 #[.slice a0 len0 cap0, .int .i64 a1] W fun e w' => e = .returned (.bool true) ∧ Below W.heap.size W w' :=
  stop_any W a0 len0 cap0 l0 w0 x0 a1 (bounds_i64 w1) hT (tabs_two hT)
end Go.Proofs.YtjocfkkcnkpjdaaDoor
