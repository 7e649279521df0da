/- FilesPlays: the asks made small, played; the asks as they came, played; chapter 7's runs. -/
import Derived.Test.YtjocfkkcnkpjdaaDoorFlPlay
import Derived.Test.YtjocfkkcnkpjdaaDoorFlOpen
import Derived.Test.YtjocfkkcnkpjdaaDoorRegionP
namespace Go.Proofs.YtjocfkkcnkpjdaaDoor
open Go.ChangeShapes Go.WideShapes Go.ChangeAt Go.RowKit Go.Deep
open Go.RuneMath
open Go.FsMath
set_option linter.unusedVariables false

section
variable {H : Type} {enc : TypeId × Value → H} {w : World}
theorem asks_len {fuel len cap : Nat} {ad : Option Addr} {x : DataW H × List MemPlace} (h : DataW.trod enc Tryd.prog w 0 (fun _ => true) true fuel 22 [.slice ad len cap] = some x) (hs : Rows.uptoBulk x.1 ≤ 1048576) : len ≤ 1048576 := by
  rcases open_slice Tryd.underlying22 h with ⟨hcs, _⟩ | ⟨a, l, c, m, n, D, Pl, hcs, _, hl, hm, hmm, hx, hi⟩
  · simp at hcs
    obtain ⟨rfl, rfl, rfl⟩ := hcs
    omega
  · simp at hcs
    obtain ⟨rfl, rfl, rfl⟩ := hcs
    have hx1 : x.1 = .slice ((List.range len).map D) ((List.range (m - len)).map fun j => D (len + j)) := congrArg Prod.fst hx
    rw [hx1] at hs
    have := Nat.le_trans (length_le _) (Nat.le_trans (elems_le _ _) hs)
    simpa using this
end
theorem AskIn.keep {W w : World} {x : Ak} (h : AskIn W x) (hb : Below W.heap.size W w) : AskIn w x := ⟨h.p.keep hb, h.pa, h.pl, h.k.keep hb, h.ki, h.g.keep hb, h.ga, h.kind0, h.a0, h.b0, h.n0⟩
theorem AskIn.other {W : World} {x : Ak} (h : AskIn W x) {k n : Int} (hk : -9223372036854775808 ≤ k ∧ k ≤ 9223372036854775807) (hn : -9223372036854775808 ≤ n ∧ n ≤ 9223372036854775807) : AskIn W { x with kind := k, n := n } := ⟨h.p, h.pa, h.pl, h.k, h.ki, h.g, h.ga, hk, h.a0, h.b0, hn⟩
theorem wrap_range (n : Int) : -9223372036854775808 ≤ IntKind.i64.wrap n ∧ IntKind.i64.wrap n ≤ 9223372036854775807 := by
  rw [IntKind.wrap_i64]
  omega
/-- A box with an ask in it. -/
def ABox (w : World) (k : Nat) (x : Ak) : Prop := w.heap[k]? = some (.cells #[.int .i64 x.kind, .int .i64 x.a, .int .i64 x.b, .int .i64 x.n, .slice x.pad x.plen x.pcap, .slice x.kad x.klen x.kcap, .slice x.gad x.glen x.gcap] 26 (0, 0))
section
variable {w w' : World} {k : Nat} {x : Ak}
theorem ABox.at (h : ABox w k x) : AskAt w k 0 x :=
  ⟨by rw [cell_of_row _ _ 0 _ _ _ h]; rfl, by rw [cell_of_row _ _ 1 _ _ _ h]; rfl, by rw [cell_of_row _ _ 2 _ _ _ h]; rfl, by rw [cell_of_row _ _ 3 _ _ _ h]; rfl, by rw [cell_of_row _ _ 4 _ _ _ h]; rfl, by rw [cell_of_row _ _ 5 _ _ _ h]; rfl, by rw [cell_of_row _ _ 6 _ _ _ h]; rfl⟩
theorem ABox.free (h : ABox w k x) (j : Nat) : w.frozen? ⟨k, j, none⟩ = false := frozen_of_row w k j _ _ h
theorem ABox.on (h : ABox w k x) (hb : Below w.heap.size w w') : ABox w' k x := by
  have hlt := lt_of_block h
  unfold ABox at *
  rw [hb.block k hlt]
  exact h
theorem ABox.s0 (h : ABox w k x) (n : Int) : ABox (w.setCell ⟨k, 0, none⟩ (.int .i64 n)) k { x with kind := n } := box_set h 0 _
theorem ABox.s3 (h : ABox w k x) (n : Int) : ABox (w.setCell ⟨k, 3, none⟩ (.int .i64 n)) k { x with n := n } := box_set h 3 _
end
/-- Some asks, made small. -/
structure SoAt (W wr : World) (v : Value) (ls : List Ak) (i : Nat) : Prop where
  below : Below W.heap.size W wr
  own : OwnRow askK wr W.heap.size v ls
  n : ls.length = i
  ins : ∀ x ∈ ls, AskIn W x
set_option maxRecDepth 100000 in
set_option maxHeartbeats 8000000 in
theorem plays_any (W : World) (lad : Option Addr) (len cap : Nat) (l : List Ak) (hl : RowAt askK W lad len cap l) (hin : ∀ x ∈ l, AskIn W x) (hn : len ≤ 1048576) (hT : Tabs W) (h2 : 2 ≤ W.heap.size) :
    Calls Tryd.prog 4 #[.slice lad len cap] W fun e w' => e = .returned (.bool true) ∧ Below W.heap.size W w' := by
  have HRL := Lib.hid hl
  have HIN := Lib.hid hin
  have HT := Lib.hid hT
  clear hT hl hin
  go_enter Tryd.func4, Tryd.ntmps4
  go_wp2_with fail
  have HST : Hid (SoAt W W (.slice none 0 0) [] 0) := ⟨Below.refl _ W, ownRow_nil askK W _, rfl, fun x hx => by cases hx⟩
  go_loopw [3, 8] (fun v3 v8 wr => ∃ (i : Nat) (ls : List Ak), v8 = .int .i64 (i : Int) ∧ i ≤ len ∧ Hid (SoAt W wr v3 ls i)) (fun _ v8 _ => len - (intOf v8).toNat)
  case atStart => exact ⟨0, [], rfl, by omega, HST.out⟩
  case round =>
    obtain ⟨i, ls, rfl, hil, HS⟩ := hrel
    obtain ⟨wo, hwo⟩ : ∃ wo : World, wo = wr := ⟨_, rfl⟩
    subst hwo
    clear HST
    by_cases hlt : i < len
    · have hd1 : decide (i < len) = true := decide_eq_true hlt
      have hij : (i : Int) < (len : Int) := by omega
      obtain ⟨bl, ol, x, el, hbl2, hx, hat⟩ := ask_get HRL.out hlt
      have HX := Lib.hid (HIN.out x (List.mem_of_getElem? hx))
      have hat := hat.on HS.out.below hbl2
      have hkk0 := HX.out.kind0
      have hkn0 := HX.out.n0
      subst el
      clear hx
      obtain ⟨kd, xa, xb, xn, pad, plen, pcap, ps, kad, klen, kcap, ks, gad, glen, gcap, gs⟩ := x
      have a0 := hat.c0
      have a1 := hat.c1
      have a2 := hat.c2
      have a3 := hat.c3
      have a4 := hat.c4
      have a5 := hat.c5
      have a6 := hat.c6
      simp only at hkk0 hkn0 a0 a1 a2 a3 a4 a5 a6
      clear hat
      go_upto_region 6 with fail
      obtain ⟨wa, hwa⟩ : ∃ z, z = wo.alloc (.cells #[.int .i64 kd, .int .i64 xa, .int .i64 xb, .int .i64 xn, .slice pad plen pcap, .slice kad klen kcap, .slice gad glen gcap] 26) := ⟨_, rfl⟩
      obtain ⟨kx, hkx⟩ : ∃ z, z = wo.heap.size := ⟨_, rfl⟩
      have hba : Below wo.heap.size wo wa := by rw [hwa]; exact alloc_below _ _
      have HAX : Hid (ABox wa kx ⟨kd, xa, xb, xn, pad, plen, pcap, ps, kad, klen, kcap, ks, gad, glen, gcap, gs⟩) := by show wa.heap[kx]? = _; rw [hwa, hkx]; exact heap_alloc_new wo _
      have HKX : Hid (W.heap.size ≤ kx ∧ kx < wa.heap.size ∧ wo.heap.size ≤ kx) := ⟨by rw [hkx]; exact HS.out.below.size, by rw [hkx, hwa]; simp, by rw [hkx]; exact Nat.le_refl _⟩
      have HBA := Lib.hid hba
      rw [← hwa, ← hkx]
      have hdrw : Below wa.heap.size wa wa.drew := (Below.refl _ wa).drew
      have KS : Hid (∀ V, ABox V kx ⟨kd, xa, xb, xn, pad, plen, pcap, ps, kad, klen, kcap, ks, gad, glen, gcap, gs⟩ → (fun (V : World) => V.cell? ⟨kx, 0, none⟩ = some (.int .i64 kd) ∧ V.cell? ⟨kx, 3, none⟩ = some (.int .i64 xn)) V) := fun V hV => ⟨hV.at.c0, hV.at.c3⟩
      clear hwa hkx hba a0 a1 a2 a3 a4 a5 a6
      refine wp_region_noPanic ?_
      refine wp_region_z [8, 10] (fun (V : World) => V.cell? ⟨kx, 0, none⟩ = some (.int .i64 kd) ∧ V.cell? ⟨kx, 3, none⟩ = some (.int .i64 xn)) (by kernel_rfl) ?_
      have hHeld : (fun (V : World) => V.cell? ⟨kx, 0, none⟩ = some (.int .i64 kd) ∧ V.cell? ⟨kx, 3, none⟩ = some (.int .i64 xn)) _ := KS.out _ (HAX.out.on hdrw)
      obtain ⟨u0, hu0⟩ : ∃ u, u = wa.drew := ⟨_, rfl⟩
      rw [← hu0] at hHeld hdrw
      rw [← hu0]
      clear hu0
      have HO0 := Lib.hid hdrw
      have HX0 := Lib.hid (HAX.out.on hdrw)
      clear hdrw
      refine wpAnyZ_take (i := 0) (oi := ⟨_, _, _, _, _, _⟩) (v := ?_) rfl (by kernel_rfl) (by kernel_rfl) (by kernel_rfl) (by kernel_rfl) (by kernel_rfl) (fun _ _ _ h => h) (Or.inl ⟨by rfl, ?_⟩) (by assumption) ?_
      rotate_left
      · intro W hSw
        (try dsimp only at hSw)
        go_simp
        (try with_reducible rfl)
      (try simp only [Act.put, List.setIfInBounds_toArray, List.set_cons_zero, List.set_cons_succ])
      refine wpAnyZ_take (i := 1) (oi := ⟨_, _, _, _, _, _⟩) (v := ?_) rfl (by kernel_rfl) (by kernel_rfl) (by kernel_rfl) (by kernel_rfl) (by kernel_rfl) (fun _ _ _ h => h) (Or.inl ⟨by rfl, ?_⟩) (by assumption) ?_
      rotate_left
      · intro W hSw
        (try dsimp only at hSw)
        go_simp
        (try with_reducible rfl)
      (try simp only [Act.put, List.setIfInBounds_toArray, List.set_cons_zero, List.set_cons_succ])
      refine wpAnyZ_take (i := 3) (oi := ⟨_, _, _, _, _, _⟩) (v := ?_) rfl (by kernel_rfl) (by kernel_rfl) (by kernel_rfl) (by kernel_rfl) (by kernel_rfl) (fun _ _ _ h => h) (Or.inl ⟨by rfl, ?_⟩) (by assumption) ?_
      rotate_left
      · intro W hSw
        (try dsimp only at hSw)
        go_simp
        (try with_reducible rfl)
      (try simp only [Act.put, List.setIfInBounds_toArray, List.set_cons_zero, List.set_cons_succ])
      refine wpAnyZ_take (i := 4) (oi := ⟨_, _, _, _, _, _⟩) (v := ?_) rfl (by kernel_rfl) (by kernel_rfl) (by kernel_rfl) (by kernel_rfl) (by kernel_rfl) (fun _ _ _ h => h) (Or.inl ⟨by rfl, ?_⟩) (by assumption) ?_
      rotate_left
      · intro W hSw
        (try dsimp only at hSw)
        go_simp
        (try with_reducible rfl)
      (try simp only [Act.put, List.setIfInBounds_toArray, List.set_cons_zero, List.set_cons_succ])
      refine wpAnyZ_takeP (i := 5) (oi := ⟨_, _, _, _, _, _⟩) (v := ?_) rfl (by kernel_rfl) (by kernel_rfl) (by kernel_rfl) (by kernel_rfl) (fun _ _ _ h => h) (Or.inl ⟨by rfl, ?_⟩) (fun _ => by assumption) ?_
      rotate_left
      · intro W hSw
        (try dsimp only at hSw)
        go_simp
        (try with_reducible rfl)
      (try simp only [Act.put, List.setIfInBounds_toArray, List.set_cons_zero, List.set_cons_succ])
      refine wpAnyZ_takeP (i := 6) (oi := ⟨_, _, _, _, _, _⟩) (v := ?_) rfl (by kernel_rfl) (by kernel_rfl) (by kernel_rfl) (by kernel_rfl) (fun _ _ _ h => h) (Or.inl ⟨by rfl, ?_⟩) (fun _ => by assumption) ?_
      rotate_left
      · intro W hSw
        (try dsimp only at hSw)
        go_simp
        (try with_reducible rfl)
      (try simp only [Act.put, List.setIfInBounds_toArray, List.set_cons_zero, List.set_cons_succ])
      refine wpAnyZ_ready (rs := [2]) (by kernel_rfl) (by simp) ?_
      refine AllReadyZ.cons (o := ⟨_, _, _, _, _, _⟩) rfl (fun C hC => ?_) AllReadyZ.nil
      go_simp
      refine (within_any kd 8 u0 hkk0 (by omega)).mono ?_
      rintro e u2 ⟨k0, rfl, hk0, rfl⟩
      have hHeld : (fun (V : World) => V.cell? ⟨kx, 0, none⟩ = some (.int .i64 kd) ∧ V.cell? ⟨kx, 3, none⟩ = some (.int .i64 xn)) u0 := hHeld
      refine hC.out _ _ (fun _ => hHeld) (fun _ => ?_)
      clear hC C
      (try simp only [Act.put, List.setIfInBounds_toArray, List.set_cons_zero, List.set_cons_succ])
      refine wpAnyZ_take (i := 7) (oi := ⟨_, _, _, _, _, _⟩) (v := ?_) rfl (by kernel_rfl) (by kernel_rfl) (by kernel_rfl) (by kernel_rfl) (by kernel_rfl) (fun _ _ _ h => h) (Or.inl ⟨by rfl, ?_⟩) (by assumption) ?_
      rotate_left
      · intro W hSw
        (try dsimp only at hSw)
        go_simp
        (try with_reducible rfl)
      (try simp only [Act.put, List.setIfInBounds_toArray, List.set_cons_zero, List.set_cons_succ])
      have z0 := HX0.out.at.c0
      have f0 := HX0.out.free 0
      refine wpAnyZ_ready (rs := [8]) (by kernel_rfl) (by simp) ?_
      refine AllReadyZ.cons (o := ⟨_, _, _, _, _, _⟩) rfl (fun C hC => ?_) AllReadyZ.nil
      go_simp
      refine hC.out _ _ (zfree_no (by kernel_rfl)) (fun _ => ?_)
      clear hC C
      (try simp only [Act.put, List.setIfInBounds_toArray, List.set_cons_zero, List.set_cons_succ])
      obtain ⟨u1, hu1⟩ : ∃ u, u = u0.setCell ⟨kx, 0, none⟩ (.int .i64 (k0 : Int)) := ⟨_, rfl⟩
      have HX1 := Lib.hid (HX0.out.s0 k0)
      rw [← hu1] at HX1
      rw [← hu1]
      have HU1 : Hid (u1 = u0.setCell ⟨kx, 0, none⟩ (.int .i64 (k0 : Int))) := hu1
      clear hu1
      have z3 : u1.cell? ⟨kx, 3, none⟩ = some (.int .i64 xn) := HX1.out.at.c3
      have f3 := HX1.out.free 3
      refine wpAnyZ_ready (rs := [9]) (by kernel_rfl) (by simp) ?_
      refine AllReadyZ.cons (o := ⟨_, _, _, _, _, _⟩) rfl (fun C hC => ?_) AllReadyZ.nil
      go_simp
      refine hC.out _ _ (zfree_any (z := 8) (by kernel_rfl)) (fun _ => ?_)
      clear hC C
      (try simp only [Act.put, List.setIfInBounds_toArray, List.set_cons_zero, List.set_cons_succ])
      refine wpAnyZ_ready (rs := [10]) (by kernel_rfl) (by simp) ?_
      refine AllReadyZ.cons (o := ⟨_, _, _, _, _, _⟩) rfl (fun C hC => ?_) AllReadyZ.nil
      go_simp
      refine hC.out _ _ (zfree_no (by kernel_rfl)) (fun _ => ?_)
      clear hC C
      (try simp only [Act.put, List.setIfInBounds_toArray, List.set_cons_zero, List.set_cons_succ])
      refine wpAnyZ_done (by kernel_rfl) ?_ _
      refine NoPanic.normal ?_
      obtain ⟨nn, hnn⟩ : ∃ n : Int, n = IntKind.i64.wrap (bits BinOp.and IntKind.i64 xn 31 - 1) := ⟨_, rfl⟩
      have hn64 : -9223372036854775808 ≤ nn ∧ nn ≤ 9223372036854775807 := by rw [hnn]; exact wrap_range _
      obtain ⟨w3, hw3⟩ : ∃ u, u = u1.setCell ⟨kx, 3, none⟩ (.int .i64 nn) := ⟨_, rfl⟩
      have HX3 := Lib.hid (HX1.out.s3 nn)
      have HB3 : Hid (Below wo.heap.size wo w3) := by
        show Below _ _ _
        rw [hw3, HU1.out]
        exact (((HBA.out.trans (HO0.out.mono HBA.out.size)).setCell HKX.out.2.2 _).setCell HKX.out.2.2 _)
      rw [← hw3] at HX3
      rw [← hnn, ← hw3]
      clear hHeld hnn hw3 HX1 HX0 HO0 HBA HAX KS z0 f0 z3 f3 HU1
      obtain ⟨vv, hvv⟩ : ∃ z, z = u3 := ⟨_, rfl⟩
      subst hvv
      have HO3 : Hid (OwnRow askK w3 W.heap.size vv ls) := HS.out.own.on HB3.out
      have HB3 : Hid (Below W.heap.size W w3) := HS.out.below.trans (HB3.out.mono HS.out.below.size)
      have HIX : Hid (AskIn W ⟨(k0 : Int), xa, xb, nn, pad, plen, pcap, ps, kad, klen, kcap, ks, gad, glen, gcap, gs⟩) := HX.out.other (k := k0) (n := nn) (by omega) hn64
      have HNL : Hid (ls.length = i) := HS.out.n
      have b0 : w3.cell? ⟨kx, 0, none⟩ = some (.int .i64 (k0 : Int)) := HX3.out.at.c0
      have b1 : w3.cell? ⟨kx, 1, none⟩ = some (.int .i64 xa) := HX3.out.at.c1
      have b2 : w3.cell? ⟨kx, 2, none⟩ = some (.int .i64 xb) := HX3.out.at.c2
      have b3 : w3.cell? ⟨kx, 3, none⟩ = some (.int .i64 nn) := HX3.out.at.c3
      have b4 : w3.cell? ⟨kx, 4, none⟩ = some (.slice pad plen pcap) := HX3.out.at.c4
      have b5 : w3.cell? ⟨kx, 5, none⟩ = some (.slice kad klen kcap) := HX3.out.at.c5
      have b6 : w3.cell? ⟨kx, 6, none⟩ = some (.slice gad glen gcap) := HX3.out.at.c6
      have HBA : Hid (Below W.heap.size W (w3.alloc (.cells #[.int .i64 (k0 : Int), .int .i64 xa, .int .i64 xb, .int .i64 nn, .slice pad plen pcap, .slice kad klen kcap, .slice gad glen gcap] 26))) := HB3.out.alloc HB3.out.size _
      have HRX : Hid (RowAt askK (w3.alloc (.cells #[.int .i64 (k0 : Int), .int .i64 xa, .int .i64 xb, .int .i64 nn, .slice pad plen pcap, .slice kad klen kcap, .slice gad glen gcap] 26)) (some ⟨w3.heap.size, 0, none⟩) 1 1 [⟨(k0 : Int), xa, xb, nn, pad, plen, pcap, ps, kad, klen, kcap, ks, gad, glen, gcap, gs⟩]) := rowAt_lit askK_ok w3 [⟨(k0 : Int), xa, xb, nn, pad, plen, pcap, ps, kad, klen, kcap, ks, gad, glen, gcap, gs⟩] (by simp) _ rfl 1 rfl
      go_wp2_with (at_builtin; refine list_row (by rfl) askK_ok (.tmp 24) (.tmp 26) rfl W.heap.size ls [⟨(k0 : Int), xa, xb, nn, pad, plen, pcap, ps, kad, klen, kcap, ks, gad, glen, gcap, gs⟩] _ rfl (HO3.out.alloc _) HBA.out.size (some ⟨w3.heap.size, 0, none⟩) 1 1 rfl HRX.out (by have := HNL.out; omega) ?_)
      intro v4 w4 hap
      have HST : Hid (SoAt W w4 v4 (ls ++ [⟨(k0 : Int), xa, xb, nn, pad, plen, pcap, ps, kad, klen, kcap, ks, gad, glen, gcap, gs⟩]) (i + 1)) := ⟨HBA.out.grown hap.2.1 HBA.out.size fun k hk => ((HO3.out.lt k hk).1), hap.1, by rw [List.length_append, HNL.out]; rfl, fun x hx => by
        rcases List.mem_append.1 hx with h | h
        · exact HS.out.ins x h
        · rw [List.mem_singleton.1 h]; exact HIX.out⟩
      clear hap HBA HRX HO3 HB3 b0 b1 b2 b3 b4 b5 b6
      go_wp2
      go_roundw
      case rel => exact ⟨i + 1, _, by go_num, by omega, HST.out⟩
      case measure => simp [intOf]; omega
    · have hd1 : decide (i < len) = false := decide_eq_false hlt
      obtain ⟨vv, hvv⟩ : ∃ z, z = u3 := ⟨_, rfl⟩
      subst hvv
      obtain ⟨sad, scap, hv, hrow, hab⟩ := OwnRow.row2 askK_ok HS.out.own HS.out.n
      have HRO := Lib.hid hrow
      subst hv
      clear hrow hab
      go_wp2_with fail
      refine (play_any wo sad i scap ls HRO.out (fun x hx => (HS.out.ins x hx).keep HS.out.below) (HT.out.keep HS.out.below) (Nat.le_trans h2 HS.out.below.size)).mono ?_
      rintro e w5 ⟨rfl, hb5⟩
      have HB5 : Hid (Below W.heap.size W w5) := HS.out.below.trans (hb5.mono HS.out.below.size)
      clear hb5
      go_wp2_with fail
      refine (play_any w5 lad len cap l (HRL.out.keep HB5.out) (fun x hx => (HIN.out x hx).keep HB5.out) (HT.out.keep HB5.out) (Nat.le_trans h2 HB5.out.size)).mono ?_
      rintro e w6 ⟨rfl, hb6⟩
      have HB6 : Hid (Below W.heap.size W w6) := HB5.out.trans (hb6.mono HB5.out.size)
      clear hb6
      go_wp2_with fail
      refine (known_any w6 (HT.out.keep HB6.out) (Nat.le_trans h2 HB6.out.size)).mono ?_
      rintro e w7 ⟨rfl, hb7⟩
      have HB7 : Hid (Below W.heap.size W w7) := HB6.out.trans (hb7.mono HB6.out.size)
      clear hb7
      go_wp2
      go_ret
      exact ⟨rfl, HB7.out⟩
end Go.Proofs.YtjocfkkcnkpjdaaDoor
