/- Chapter 7's runs. -/
import Derived.Test.YtjocfkkcnkpjdaaDoorCfOne
import Derived.Lib.SlBytesConst
namespace Go.Proofs.YtjocfkkcnkpjdaaDoor
open Go.RowKit
open Go.RuneMath
open Go.FsMath
set_option linter.unusedVariables false

theorem byt_of {w : World} {ad : Option Addr} {len cap : Nat} {l : List Nat} (h : RowAt byteK w ad len cap l) (ha : AllB l) : Byt w ad len cap l := by
  refine ⟨h.length, h.fits, ha, ?_⟩
  rcases Nat.eq_zero_or_pos len with h0 | h0
  · exact .inl h0
  · obtain ⟨b, off, k, rfl, hb, hk, hc⟩ := byte_get h h0
    refine .inr ⟨b, off, rfl, fun i hi => ?_⟩
    obtain ⟨b2, off2, k2, e, _, hk2, hc2⟩ := byte_get h hi
    cases e
    rw [hc2, List.getD_eq_getElem?_getD, hk2]
    rfl
theorem str_row {w : World} {ad : Option Addr} {len cap : Nat} {l : List Nat} {s : ByteArray} (h : RowAt byteK w ad len cap l) (ha : AllB l) (hs : s = str l) : (convert 23 9 (.slice ad len cap)).run Tryd.prog w = .ok (.string s) w := run_str_at (byt_of h ha) hs
theorem lit_bytes (w : World) (l : List Nat) (hl : l.length ≤ 1000000) (cs : Array Value) (hcs : cs = (byteK.all l).toArray) (n : Nat) (hn : l.length = n) : RowAt byteK (w.alloc (.cells cs 5)) (some ⟨w.heap.size, 0, none⟩) n n l := rowAt_lit byteK_ok w l hl cs hcs n hn
theorem alloc_below (w : World) (b : Obj) : Below w.heap.size w (w.alloc b) := (Below.refl _ w).alloc (Nat.le_refl _) _
theorem num_ok {l d : Int} (h0 : 0 ≤ d) (h1 : d ≤ 1000000) (h2 : -1 ≤ l) (h3 : l ≤ 2147483648) : FsNum l d := ⟨h0, by omega, h2, by omega⟩
theorem lit_marked (w : World) (l : List Nat) (ha : AllB l) (cs : Array Value) (hcs : cs = (vals l).toArray) (fr : Nat × Nat) (n : Nat) (hn : l.length = n) : RowAt byteK (w.alloc (.cells cs 5 fr)) (some ⟨w.heap.size, 0, none⟩) n n l := by
  subst hcs
  subst hn
  exact row_bytes ⟨byt_marked w l fr ha, fun h => by cases h⟩
def nA : ByteArray := ⟨#[97]⟩
def nB : ByteArray := ⟨#[98]⟩
theorem kn1 : appendF ⟨[], -1, 0⟩ nA [120, 121] = (0, ⟨[⟨nA, [120, 121], 0⟩], -1, 1⟩) := by kernel_rfl
theorem kn2 : crashF [⟨nA, [120, 121], 0⟩] [1] [] = [⟨nA, [120], 1⟩] := by kernel_rfl
theorem kn3 : readF [⟨nA, [120], 1⟩] nA = some [120] := by kernel_rfl
theorem kn4 : appendF ⟨[⟨nA, [120], 1⟩], -1, 1⟩ nA [122, 122] = (0, ⟨[⟨nA, [120, 122, 122], 1⟩], -1, 2⟩) := by kernel_rfl
theorem kn5 : syncF ⟨[⟨nA, [120, 122, 122], 1⟩], -1, 2⟩ nA = (0, ⟨[⟨nA, [120, 122, 122], 3⟩], -1, 3⟩) := by kernel_rfl
theorem kn6 : crashF [⟨nA, [120, 122, 122], 3⟩] [] [] = [⟨nA, [120, 122, 122], 3⟩] := by kernel_rfl
theorem kn7 : readF [⟨nA, [120, 122, 122], 3⟩] nA = some [120, 122, 122] := by kernel_rfl
theorem kn8 : renameF ⟨[⟨nA, [120, 122, 122], 3⟩], -1, 3⟩ ⟨#[110, 111, 110, 101]⟩ nB = (22, ⟨[⟨nA, [120, 122, 122], 3⟩], -1, 3⟩) := by kernel_rfl
theorem kn9 : appendF ⟨[⟨nA, [120, 122, 122], 3⟩], -1, 3⟩ ⟨#[65]⟩ [] = (1, ⟨[⟨nA, [120, 122, 122], 3⟩], -1, 3⟩) := by kernel_rfl
theorem kn10 : appendF ⟨[⟨nA, [120, 122, 122], 3⟩], 0, 3⟩ nB [113] = (0, ⟨[⟨nA, [120, 122, 122], 3⟩], 0, 3⟩) := by kernel_rfl
theorem kn11 : lenF [⟨nA, [120, 122, 122], 3⟩] nB = 0 := by kernel_rfl
set_option maxRecDepth 100000 in
set_option maxHeartbeats 8000000 in
theorem known_any (W : World) (hT : Tabs W) (h2 : 2 ≤ W.heap.size) : Calls Tryd.prog 13 #[] W fun e w' => e = .returned (.bool true) ∧ Below W.heap.size W w' := by
  have HT := Lib.hid hT
  clear hT
  have kc := fun (w : World) (C : Array Value) (n c : Nat) => Lib.run_convert_bytes_const (P := Tryd.prog) w 23 5 C n c Tryd.underlying23 Tryd.underlying5
  go_enter Tryd.func13, Tryd.ntmps13
  go_wp2_with fail
  refine (oneNew W (Below.refl _ W)).mono ?_
  rintro e w1 ⟨kf, rfl, H1⟩
  go_wp2_with fail
  obtain ⟨w2, hw2⟩ : ∃ z, z = w1.alloc (.cells #[.int .u8 120, .int .u8 121] 5 (2, 3)) := ⟨_, rfl⟩
  obtain ⟨g2, hg2⟩ : ∃ z, z = w1.heap.size := ⟨_, rfl⟩
  have HB2 : Hid (Below w1.heap.size w1 w2) := by show Below _ _ _; rw [hw2]; exact alloc_below _ _
  have HR2 : Hid (RowAt byteK w2 (some ⟨g2, 0, none⟩) 2 2 [120, 121]) := by show RowAt _ _ _ _ _ _; rw [hw2, hg2]; exact lit_marked w1 [120, 121] (all_small (by rfl)) _ rfl _ 2 rfl
  have HG2 : Hid (w1.heap.size ≤ g2) := by show _ ≤ _; rw [hg2]; exact Nat.le_refl _
  rw [← hw2, ← hg2]
  clear hw2 hg2
  refine (oneAppend H1.out (num_ok (by decide) (by decide) (by decide) (by decide)) (by decide) nA (by decide) HB2.out (some ⟨g2, 0, none⟩) 2 2 [120, 121] HR2.out (all_small (by rfl)) (fun a ha _ => .inr (.inr (by cases ha; exact HG2.out))) (fun f hf => by cases hf) (by omega)).mono ?_
  rintro e w3 ⟨rfl, H3⟩
  rw [kn1] at H3
  rw [kn1]
  clear H1 HB2 HR2 HG2
  go_wp2_with fail
  obtain ⟨w4, hw4⟩ : ∃ z, z = w3.alloc (.cells #[.int .i64 1] 2) := ⟨_, rfl⟩
  obtain ⟨g4, hg4⟩ : ∃ z, z = w3.heap.size := ⟨_, rfl⟩
  have HB4 : Hid (Below w3.heap.size w3 w4) := by show Below _ _ _; rw [hw4]; exact alloc_below _ _
  have HR4 : Hid (RowAt keepK w4 (some ⟨g4, 0, none⟩) 1 1 [1]) := by show RowAt _ _ _ _ _ _; rw [hw4, hg4]; exact rowAt_lit keepK_ok w3 [1] (by simp) _ rfl 1 rfl
  have HG4 : Hid (w3.heap.size ≤ g4 ∧ g4 < w4.heap.size) := by show _ ∧ _; rw [hw4, hg4]; exact ⟨Nat.le_refl _, by simp⟩
  rw [← hw4, ← hg4]
  clear hw4 hg4
  refine (oneCrash H3.out (by decide) HT.out h2 (fun f hf => by obtain rfl := List.mem_singleton.1 hf; decide) HB4.out (some ⟨g4, 0, none⟩) 1 1 [1] HR4.out (fun a ha _ => .inr (.inr (by cases ha; exact HG4.out.1))) (fun k hk => by obtain rfl := List.mem_singleton.1 hk; omega) none 0 0 [] (RowAt.zero _ (fun _ => rfl)) (fun a ha => by cases ha) (fun x hx => by cases hx)).mono ?_
  rintro e w5 ⟨rfl, H5⟩
  rw [kn2] at H5
  clear H3 HB4 HR4 HG4
  go_wp2_with fail
  refine (oneRead H5.out nA (by decide) (fun f hf => by obtain rfl := List.mem_singleton.1 hf; decide)).mono ?_
  rintro e w6 hrd
  rw [kn3] at hrd
  obtain ⟨hb6, ad6, cap6, rfl, hr6⟩ := hrd
  obtain ⟨Y6, hy6, hx6, hn6⟩ := H5.out.held hb6.out
  have H6 := Lib.hid hy6
  have HR6 := Lib.hid hr6.out.1
  have HA6 : Hid (∀ a, ad6 = some a → Y6 a.block) := fun a ha => hn6 _ (hr6.out.2 a ha).1 (hr6.out.2 a ha).2
  clear H5 hb6 hr6 hy6 hx6 hn6
  go_wp2_with fail
  obtain ⟨w7, hw7⟩ : ∃ z, z = w6.alloc (.cells #[.int .u8 122, .int .u8 122] 5 (2, 3)) := ⟨_, rfl⟩
  obtain ⟨g7, hg7⟩ : ∃ z, z = w6.heap.size := ⟨_, rfl⟩
  have HB7 : Hid (Below w6.heap.size w6 w7) := by show Below _ _ _; rw [hw7]; exact alloc_below _ _
  have HR7 : Hid (RowAt byteK w7 (some ⟨g7, 0, none⟩) 2 2 [122, 122]) := by show RowAt _ _ _ _ _ _; rw [hw7, hg7]; exact lit_marked w6 [122, 122] (all_small (by rfl)) _ rfl _ 2 rfl
  have HG7 : Hid (w6.heap.size ≤ g7) := by show _ ≤ _; rw [hg7]; exact Nat.le_refl _
  rw [← hw7, ← hg7]
  clear hw7 hg7
  refine (oneAppend H6.out (num_ok (by decide) (by decide) (by decide) (by decide)) (by decide) nA (by decide) HB7.out (some ⟨g7, 0, none⟩) 2 2 [122, 122] HR7.out (all_small (by rfl)) (fun a ha _ => .inr (.inr (by cases ha; exact HG7.out))) (fun f hf _ => by obtain rfl := List.mem_singleton.1 hf; decide) (by omega)).mono ?_
  rintro e w8 ⟨rfl, H8⟩
  rw [kn4] at H8
  rw [kn4]
  clear H6 HB7 HR7 HG7
  go_wp2_with fail
  refine (oneSync H8.out (num_ok (by decide) (by decide) (by decide) (by decide)) nA (by decide)).mono ?_
  rintro e w9 ⟨rfl, H9⟩
  rw [kn5] at H9
  rw [kn5]
  clear H8
  go_wp2_with fail
  refine (oneCrash H9.out (by decide) HT.out h2 (fun f hf => by obtain rfl := List.mem_singleton.1 hf; decide) (Below.refl _ _) none 0 0 [] (RowAt.zero _ (fun _ => rfl)) (fun a ha => by cases ha) (fun k hk => by cases hk) none 0 0 [] (RowAt.zero _ (fun _ => rfl)) (fun a ha => by cases ha) (fun x hx => by cases hx)).mono ?_
  rintro e w10 ⟨rfl, H10⟩
  rw [kn6] at H10
  clear H9
  go_wp2_with fail
  refine (oneRead H10.out nA (by decide) (fun f hf => by obtain rfl := List.mem_singleton.1 hf; decide)).mono ?_
  rintro e w11 hrd
  rw [kn7] at hrd
  obtain ⟨hb11, ad11, cap11, rfl, hr11⟩ := hrd
  have hr62 := (H10.out.row HR6.out HA6.out).keep hb11.out
  obtain ⟨Y11, hy11, hx11, hn11⟩ := H10.out.held hb11.out
  have H11 := Lib.hid hy11
  have HR62 := Lib.hid hr62
  have HR11 := Lib.hid hr11.out.1
  have HA11 : Hid (∀ a, ad11 = some a → Y11 a.block) := fun a ha => hn11 _ (hr11.out.2 a ha).1 (hr11.out.2 a ha).2
  have HA62 : Hid (∀ a, ad6 = some a → Y11 a.block) := fun a ha => hx11 _ (HA6.out a ha)
  clear H10 hb11 hr11 hy11 hx11 hn11 hr62 HR6 HA6
  go_wp2_with fail
  refine (oneRename H11.out (num_ok (by decide) (by decide) (by decide) (by decide)) (by decide) ⟨#[110, 111, 110, 101]⟩ (by decide) nB (by decide)).mono ?_
  rintro e w12 ⟨rfl, H12⟩
  rw [kn8] at H12
  rw [kn8]
  clear H11
  go_wp2_with fail
  refine (oneAppend H12.out (num_ok (by decide) (by decide) (by decide) (by decide)) (by decide) ⟨#[65]⟩ (by decide) (Below.refl _ _) none 0 0 [] (RowAt.zero _ (fun _ => rfl)) (fun x hx => by cases hx) (fun a ha => by cases ha) (fun f hf _ => by obtain rfl := List.mem_singleton.1 hf; decide) (by omega)).mono ?_
  rintro e w13 ⟨rfl, H13⟩
  rw [kn9] at H13
  rw [kn9]
  clear H12
  go_wp2_with fail
  refine (oneStop H13.out 0).mono ?_
  rintro e w14 ⟨rfl, H14⟩
  clear H13
  go_wp2_with fail
  obtain ⟨w15, hw15⟩ : ∃ z, z = w14.alloc (.cells #[.int .u8 113] 5 (1, 2)) := ⟨_, rfl⟩
  obtain ⟨g15, hg15⟩ : ∃ z, z = w14.heap.size := ⟨_, rfl⟩
  have HB15 : Hid (Below w14.heap.size w14 w15) := by show Below _ _ _; rw [hw15]; exact alloc_below _ _
  have HR15 : Hid (RowAt byteK w15 (some ⟨g15, 0, none⟩) 1 1 [113]) := by show RowAt _ _ _ _ _ _; rw [hw15, hg15]; exact lit_marked w14 [113] (all_small (by rfl)) _ rfl _ 1 rfl
  have HG15 : Hid (w14.heap.size ≤ g15) := by show _ ≤ _; rw [hg15]; exact Nat.le_refl _
  rw [← hw15, ← hg15]
  clear hw15 hg15
  refine (oneAppend H14.out (num_ok (by decide) (by decide) (by decide) (by decide)) (by decide) nB (by decide) HB15.out (some ⟨g15, 0, none⟩) 1 1 [113] HR15.out (all_small (by rfl)) (fun a ha _ => .inr (.inr (by cases ha; exact HG15.out))) (fun f hf _ => by obtain rfl := List.mem_singleton.1 hf; decide) (by omega)).mono ?_
  rintro e w16 ⟨rfl, H16⟩
  rw [kn10] at H16
  rw [kn10]
  clear H14 HB15 HR15 HG15
  go_wp2_with fail
  refine (oneList H16.out (by decide) HT.out h2).mono ?_
  rintro e w17 ⟨hb17, ad17, cap17, rfl, hr17⟩
  have H17 := Lib.hid (H16.out.on hb17.out)
  clear H16 hb17 hr17
  have hc6 : (convert 23 9 (.slice ad6 1 cap6)).run Tryd.prog w17 = .ok (.string ⟨#[120]⟩) w17 := str_row (H17.out.row HR62.out HA62.out) (all_small (by rfl)) (by rfl)
  have hc11 : (convert 23 9 (.slice ad11 3 cap11)).run Tryd.prog w17 = .ok (.string ⟨#[120, 122, 122]⟩) w17 := str_row (H17.out.row HR11.out HA11.out) (all_small (by rfl)) (by rfl)
  simp only [List.length_cons, List.length_nil, List.length_map, Nat.zero_add]
  go_wp2_with fail
  refine (oneDeeds H17.out).mono ?_
  rintro e w18 ⟨rfl, rfl⟩
  go_wp2_with fail
  refine (oneLen H17.out nB (by decide)).mono ?_
  rintro e w19 ⟨rfl, rfl⟩
  rw [kn11]
  go_wp2
  go_ret
  exact ⟨rfl, H17.out.below⟩
end Go.Proofs.YtjocfkkcnkpjdaaDoor
