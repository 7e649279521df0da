/- Law 15's ModelNumbers over the code's own log: acts of forty tapes. -/
import Derived.Test.YtjmfdildnojknaaGreatKP15
import Derived.Test.YtjmfdildnojknaaGreatKP19
namespace Go.Proofs.YtjmfdildnojknaaGreat
open Go.RowKit
open Go.FoMath
open Go.ProdMath
open Go.BatMath hiding AllB getD_lt take_all In64
set_option linter.unusedVariables false

theorem infoInt : (Tryz.prog.info? 3).map (fun i => (i.zero, i.size, i.bytes)) = some (some (.int .i64 0), 1, 8) := by kernel_rfl
def intK : Kind Int := ⟨fun n => [.int .i64 n], 1, 3, 25⟩
theorem intK_ok : intK.Ok 8 where
  und := Tryz.underlying25
  info := by
    obtain ⟨i, hi, hz, hs, hb⟩ := info_parts infoInt
    exact ⟨i, _, hi, hz, hs, hb, rfl⟩
  len := fun _ => rfl
  pos := by decide
  one := fun r u hu => by
    obtain rfl := List.mem_singleton.1 hu
    rfl
  few := by decide
theorem nums_of {w : World} {ad : Option Addr} {len cap : Nat} {l : List Int} (h : RowAt intK w ad len cap l) (ha : ∀ n ∈ l, In64 n) : Nums w ad len l := by
  refine ⟨h.length, ha, ?_⟩
  rcases h.cells with h0 | ⟨b, off, e, _, hc⟩
  · exact .inl h0
  · refine .inr ⟨b, off, e, fun i hi => ?_⟩
    have hl := h.length
    have hx : l[i]? = some (l[i]'(by omega)) := List.getElem?_eq_getElem (by omega)
    have := hc i _ hx 0 (.int .i64 (l[i]'(by omega))) rfl
    rw [List.getD_eq_getElem?_getD, hx]
    show w.cell? ⟨b, off + i, none⟩ = _
    have e2 : off + (i * intK.size + 0) = off + i := by show off + (i * 1 + 0) = _; omega
    rw [e2] at this
    exact this
def TapeLoop (w : World) (v3 v4 : Value) (wr : World) : Prop :=
  ∃ (zs : List Int) (i : Nat) (u : Value), u = v3 ∧ v4 = .int .i64 (i : Int) ∧ i ≤ 400 ∧ zs.length = i ∧ (∀ z ∈ zs, In64 z) ∧ OwnRow intK wr w.heap.size u zs ∧ Below w.heap.size w wr
theorem tmod_in (x m z : Int) (hm : 0 < m ∧ m < 1000000) (h : x.tmod m = z) : In64 z := by
  have h1 : z < m := by rw [← h]; exact Int.tmod_lt_of_pos x hm.1
  have h2 : -z < m := by rw [← h, ← Int.neg_tmod]; exact Int.tmod_lt_of_pos (-x) hm.1
  exact ⟨by omega, by omega⟩
theorem amIn_zero (W : World) (k : Int) : AmIn W (Am.zero k) := ⟨recsAt_nil W, (fun r hr => by cases hr), Nat.zero_le _, by show (0 : Int) ≤ _; decide, Byt.nil W, Nat.zero_le _⟩
set_option maxRecDepth 100000 in
theorem mdTape_any (w : World) (k : Nat) (hk : k ≤ 60) :
    Calls Tryz.prog 10 #[.int .i64 (k : Int)] w fun e w' => ∃ ad cap zs, e = .returned (.slice ad 400 cap) ∧ Hid (Nums w' ad 400 zs) ∧ Hid (Below w.heap.size w w') := by
  go_enter Tryz.func10, Tryz.ntmps10
  go_wp2
  go_loopw [3, 4] (fun v3 v4 wr => TapeLoop w v3 v4 wr) (fun _ v4 _ => (400 - intOf v4).toNat)
  case atStart => exact ⟨[], 0, _, rfl, rfl, by omega, rfl, (fun z hz => by cases hz), ownRow_nil _ _ _, Below.refl _ _⟩
  case round =>
    obtain ⟨zs, i, u, rfl, rfl, hi, hl, ha, hown, hbel⟩ := hrel
    have HL := Lib.hid hl
    have HA := Lib.hid ha
    have HO := Lib.hid hown
    have HB := Lib.hid hbel
    clear hl ha hown hbel
    by_cases hlt : i < 400
    · have hd : decide ((i : Int) < 400) = true := by simp; omega
      obtain ⟨x, hx⟩ : ∃ x, wrap64 (wrap64 (wrap64 (wrap64 ((i : Int) * i) * 7) + (k : Int) * 53) + wrap64 ((i : Int) * k)) = x := ⟨_, rfl⟩
      obtain ⟨z, hz⟩ : ∃ z, x.tmod 211 = z := ⟨_, rfl⟩
      have hz64 := tmod_in x 211 z (by omega) hz
      obtain ⟨wo, rfl⟩ : ∃ wo : World, wo = wr := ⟨_, rfl⟩
      have HBA : Hid (Below w.heap.size w (wo.alloc (.cells #[.int .i64 z] 3))) := HB.out.alloc HB.out.size _
      have HRW : Hid (RowAt intK (wo.alloc (.cells #[.int .i64 z] 3)) (some ⟨wo.heap.size, 0, none⟩) 1 1 [z]) := rowAt_lit intK_ok wo [z] (by simp) _ rfl 1 rfl
      go_wp2_with (at_builtin; refine list_row (by rfl) intK_ok (.tmp 9) (.tmp 22) rfl w.heap.size zs [z] _ rfl (HO.out.alloc _) HBA.out.size (some ⟨wo.heap.size, 0, none⟩) 1 1 rfl HRW.out (by have := HL.out; omega) ?_)
      intro v' w' hap
      have HO2 := Lib.hid hap.1
      have HB2 : Hid (Below w.heap.size w w') := HBA.out.grown hap.2.1 HBA.out.size fun q hq => (HO.out.lt q hq).1
      have HL2 : Hid ((zs ++ [z]).length = i + 1) := by show _ = _; rw [List.length_append, HL.out]; rfl
      have HA2 : Hid (∀ y ∈ zs ++ [z], In64 y) := by
        intro y hy
        rcases List.mem_append.1 hy with hy | hy
        · exact HA.out y hy
        · rw [List.mem_singleton.1 hy]; exact hz64
      clear hap hx hz
      go_wp2
      go_roundw
      case rel => exact ⟨zs ++ [z], i + 1, _, rfl, by go_num, by omega, HL2.out, HA2.out, HO2.out, HB2.out⟩
      case measure => simp [intOf]; omega
    · have hd : decide ((i : Int) < 400) = false := by simp; omega
      go_wp2
      go_ret
      obtain ⟨ad, cap, rfl, hr, _⟩ := HO.out.at intK_ok
      have hl := HL.out
      obtain rfl : i = 400 := by omega
      rw [hl] at hr
      rw [hl]
      exact ⟨ad, cap, zs, rfl, nums_of hr HA.out, HB.out⟩
set_option maxRecDepth 100000 in
set_option maxHeartbeats 8000000 in
theorem mdNumbers_any {R : LogP} (C : MdCode R) (w : World) :
    Calls Tryz.prog 3 #[] w (GivesBool w true) := by
  have HC := Lib.hid C
  clear C
  go_enter Tryz.func3, Tryz.ntmps3
  go_wp2
  go_loopw [1] (fun v1 wr => ∃ k : Nat, v1 = .int .i64 (k : Int) ∧ k ≤ 40 ∧ Hid (Below w.heap.size w wr)) (fun v1 _ => 40 - (intOf v1).toNat)
  case atStart => exact ⟨0, rfl, by omega, Below.refl _ _⟩
  case round =>
    obtain ⟨k, rfl, hk, HB⟩ := hrel
    obtain ⟨wo, hwo⟩ : ∃ wo : World, wo = wr := ⟨_, rfl⟩
    subst hwo
    by_cases hlt : k < 40
    · have hd1 : decide ((k : Int) < 40) = true := decide_eq_true (by omega)
      have hd1n : decide (k < 40) = true := decide_eq_true hlt
      have HLT : Hid (k < 40) := hlt
      obtain ⟨sz, hsz⟩ : ∃ x, x = wrap64 (60 + wrap64 ((k : Int) * 20)) := ⟨_, rfl⟩
      have HSZ : Hid (1 ≤ sz ∧ sz ≤ 1073741824) := by
        show _ ∧ _
        have h1 : wrap64 ((k : Int) * 20) = (k : Int) * 20 := by unfold wrap64; omega
        have h2 : wrap64 (60 + (k : Int) * 20) = 60 + (k : Int) * 20 := by unfold wrap64; omega
        rw [hsz, h1, h2]
        omega
      clear hlt hk
      go_wp2_with fail
      refine (mdTape_any wo k (by have := HLT.out; omega)).mono ?_
      rintro e w1 ⟨tad, tcap, zs, rfl, hnum, hb1⟩
      have HNUM := Lib.hid hnum.out
      have HB1 := Lib.hid (HB.out.trans (hb1.out.mono HB.out.size))
      clear hnum hb1 HB
      go_wp2_with fail
      refine (acts_any w1 tad 400 tcap zs HNUM.out (by decide) 80 (by decide)).mono ?_
      rintro e w2 ⟨u, l, rfl, ho, hl, hb⟩
      obtain ⟨ad, cap, rfl, ham⟩ := ho.at_
      have HAM := Lib.hid ham
      have HB2 := Lib.hid (HB1.out.trans (hb.mono HB1.out.size))
      clear ho ham hb HB1 HNUM
      go_wp2_with fail
      refine (mdPlay_any HC.out w2 1073741824 (by decide) (by decide) ad l.length cap l HAM.out).mono ?_
      rintro e w3 ⟨rfl, hb⟩
      have HB3 := Lib.hid (HB2.out.trans (hb.mono HB2.out.size))
      clear hb HAM HB2
      go_wp2_with fail
      refine (mdTape_any w3 k (by have := HLT.out; omega)).mono ?_
      rintro e w4 ⟨tad, tcap, zs, rfl, hnum, hb1⟩
      have HNUM := Lib.hid hnum.out
      have HB4 := Lib.hid (HB3.out.trans (hb1.out.mono HB3.out.size))
      clear hnum hb1 HB3
      go_wp2_with fail
      refine (acts_any w4 tad 400 tcap zs HNUM.out (by decide) 60 (by decide)).mono ?_
      rintro e w5 ⟨u, l, rfl, ho, hl, hb⟩
      obtain ⟨ad, cap, rfl, ham⟩ := ho.at_
      have HAM := Lib.hid ham
      have HB5 := Lib.hid (HB4.out.trans (hb.mono HB4.out.size))
      clear ho ham hb HB4 HNUM
      go_wp2_with fail
      (try rw [← hsz])
      refine (mdPlay_any HC.out w5 sz HSZ.out.1 HSZ.out.2 ad l.length cap l HAM.out).mono ?_
      rintro e w6 ⟨rfl, hb⟩
      have HB6 := Lib.hid (HB5.out.trans (hb.mono HB5.out.size))
      clear hb HAM HB5
      have hlt := HLT.out
      go_wp2_with fail
      go_roundw
      case rel => exact ⟨k + 1, by go_num, by omega, HB6.out⟩
      case measure => simp [intOf]; omega
    · have hd1 : decide ((k : Int) < 40) = false := decide_eq_false (by omega)
      have hd1n : decide (k < 40) = false := decide_eq_false hlt
      clear hlt
      obtain ⟨LZ, hLZ⟩ : ∃ l : List Nat, l = List.replicate 5000 0 := ⟨_, rfl⟩
      have HLA : Hid (VarMath.AllB LZ ∧ LZ.length = 5000) := by
        show _ ∧ _
        rw [hLZ]
        exact ⟨fun x hx => by have := (List.mem_replicate.1 hx).2; omega, List.length_replicate⟩
      have hmk : ∀ V, (Instr.makeSlice 30 (.int .i64 5000) (.int .i64 5000)).run Tryz.prog V = .ok (.slice (some ⟨V.heap.size, 0, none⟩) 5000 5000) (V.alloc (.cells (vals LZ).toArray 5)) := fun V => by rw [hLZ]; exact run_make_part V 5000 5000 (Nat.le_refl _) (by omega)
      clear hLZ
      go_wp2_with fail
      obtain ⟨W1, hW1⟩ : ∃ x, x = wo.alloc (.cells (vals LZ).toArray 5) := ⟨_, rfl⟩
      obtain ⟨gz, hgz⟩ : ∃ x, x = wo.heap.size := ⟨_, rfl⟩
      have hA1 : Below wo.heap.size wo W1 := by rw [hW1]; exact (Below.refl _ _).alloc (Nat.le_refl _) _
      have HZO : Hid (Own W1 gz LZ) := by show Own _ _ _; rw [hW1, hgz]; exact own_new _ _
      have HB1 : Hid (Below w.heap.size w W1) := HB.out.trans (hA1.mono HB.out.size)
      (try rw [← hW1])
      (try rw [← hgz])
      have hs1 : W1.heap.size = gz + 1 := by rw [hW1, hgz]; simp
      clear hW1 hgz hA1 hmk HB
      obtain ⟨cs, hcs⟩ : ∃ cs : Array Value, cs = #[.int .i64 3, .int .i64 0, .int .i64 0, .int .i64 0, .int .i64 0, .bool false, .int .i64 3, .slice none 0 0, .slice none 0 0, .int .i64 0, .int .i64 0, .bool false, .slice none 0 0, .slice none 0 0, .int .i64 2, .int .i64 0, .int .i64 0, .int .i64 0, .int .i64 0, .bool false, .int .i64 0, .slice none 0 0, .slice (some ⟨gz, 0, none⟩) 5000 5000, .int .i64 0, .int .i64 0, .bool false, .slice none 0 0, .slice none 0 0, .int .i64 1, .int .i64 0, .int .i64 0, .int .i64 0, .int .i64 0, .bool false, .int .i64 0, .slice none 0 0, .slice none 0 0, .int .i64 0, .int .i64 0, .bool false, .slice none 0 0, .slice none 0 0] := ⟨_, rfl⟩
      rw [← hcs]
      obtain ⟨W2, hW2⟩ : ∃ W2, W2 = W1.alloc (.cells cs 33) := ⟨_, rfl⟩
      rw [← hW2]
      have hby : Byt W1 (some ⟨gz, 0, none⟩) 5000 5000 LZ := by
        have h1 := HZO.out.byt HLA.out.1 5000 (by rw [HLA.out.2]; exact Nat.le_refl _)
        rw [HLA.out.2] at h1
        exact h1
      have hin : ∀ m ∈ ([⟨3, ⟨0, 0, 0, 0, false, 3, []⟩, none, 0, [], none, 0, 0, 0, 0, false, none, 0, 0, none, 0, 0⟩, ⟨2, Bat.zero, none, 0, LZ, some ⟨gz, 0, none⟩, 5000, 5000, 0, 0, false, none, 0, 0, none, 0, 0⟩, Am.zero 1] : List Am), AmIn W1 m := by
        intro m hm
        simp only [List.mem_cons, List.not_mem_nil, or_false] at hm
        rcases hm with rfl | rfl | rfl
        · exact ⟨recsAt_nil W1, (fun r hr => by cases hr), Nat.zero_le _, by show (0 : Int) ≤ _; decide, Byt.nil W1, Nat.zero_le _⟩
        · exact ⟨recsAt_nil W1, (fun r hr => by cases hr), Nat.zero_le _, by show (0 : Int) ≤ _; decide, hby, by show 5000 ≤ 140737488355328; decide⟩
        · exact amIn_zero W1 1
      have HAM : Hid (AmsAt W2 (some ⟨gz + 1, 0, none⟩) 3 3 [⟨3, ⟨0, 0, 0, 0, false, 3, []⟩, none, 0, [], none, 0, 0, 0, 0, false, none, 0, 0, none, 0, 0⟩, ⟨2, Bat.zero, none, 0, LZ, some ⟨gz, 0, none⟩, 5000, 5000, 0, 0, false, none, 0, 0, none, 0, 0⟩, Am.zero 1]) := by
        show AmsAt _ _ _ _ _
        have h1 := ams_lit (W := W1) (by show 3 ≤ 1000000; decide) hin cs hcs 3 rfl
        rw [hs1] at h1
        rw [hW2]
        exact h1
      have HB2 : Hid (Below w.heap.size w W2) := by show Below _ _ _; rw [hW2]; exact HB1.out.alloc HB1.out.size _
      clear hcs hW2 hs1
      refine (mdPlay_any HC.out W2 1 (by decide) (by decide) _ 3 3 _ HAM.out).mono ?_
      rintro e w3 ⟨rfl, hb⟩
      have HB3 := Lib.hid (HB2.out.trans (hb.mono HB2.out.size))
      clear hb HAM HB2 hin hby HZO HLA HB1
      go_wp2_with fail
      refine (mdKnown_any HC.out w3).mono ?_
      rintro e w4 ⟨rfl, hb⟩
      have HB4 := Lib.hid (HB3.out.trans (hb.mono HB3.out.size))
      clear hb HB3
      go_wp2_with fail
      go_ret
      exact ⟨rfl, HB4.out⟩
theorem mdNumbers_end (w : World) : Calls Tryz.prog 3 #[] w (GivesBool w true) := mdNumbers_any mdCode w
end Go.Proofs.YtjmfdildnojknaaGreat
