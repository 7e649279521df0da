/- The walk of 'NameRunes'. It asks that the library's two tables of runes hold what they begin with. -/
import Derived.Test.YticplcnkaapmgaaDoorRunsOf
namespace Go.Proofs.YticplcnkaapmgaaDoor
open Go.RowKit
open Go.RuneMath
set_option linter.unusedVariables false

theorem tmod_some (a : Int) {n : Nat} (hn : 0 < n) : ∃ c : Int, a.tmod (n : Int) = c ∧ -(n : Int) < c ∧ c < (n : Int) :=
  ⟨_, rfl, Int.lt_tmod_of_pos a (by omega), Int.tmod_lt_of_pos a (by omega)⟩
theorem conv_tail {w : World} {g n cap k : Nat} {l : List Nat} (hs : ∀ r ∈ l, Scal r) (hl : l.length = n) (hk : k ≤ n) (hcap : n ≤ cap) (hc : ∀ i, i < n → w.cell? ⟨g, i, none⟩ = some (.int .i32 (l.getD i 0 : Nat))) :
    (convert 37 9 (.slice (some ⟨g, if cap = k then 0 else 0 + k, none⟩) (n - k) (cap - k))).run Tryd.prog w = .ok (.string (bs (encs (l.drop k)))) w := by
  refine conv_runes (fun r hr => hs r (List.mem_of_mem_drop hr)) (by rw [List.length_drop, hl]) (fun i hi => ?_)
  rw [if_neg (by omega), Nat.zero_add, hc (k + i) (by omega), drop_getD]
theorem conv_head {w : World} {g n cap k : Nat} {l : List Nat} (hs : ∀ r ∈ l, Scal r) (hl : l.length = n) (hk : k ≤ n) (hc : ∀ i, i < n → w.cell? ⟨g, i, none⟩ = some (.int .i32 (l.getD i 0 : Nat))) :
    (convert 37 9 (.slice (some ⟨g, 0, none⟩) k cap)).run Tryd.prog w = .ok (.string (bs (encs (l.take k)))) w := by
  refine conv_runes (fun r hr => hs r (List.mem_of_mem_take hr)) (by rw [List.length_take, hl]; omega) (fun i hi => ?_)
  rw [Nat.zero_add, hc i (by omega), take_getD hi]
theorem run_head37 (b off len cap k : Nat) (h : k ≤ cap) (w : World) :
    (Instr.slice 37 (.slice (some ⟨b, off, none⟩) len cap) none (some (.int .i64 k)) none).run Tryd.prog w = .ok (.slice (some ⟨b, off, none⟩) k cap) w := by
  rw [run_slice_h _ _ _ _ _ elem37 _ _ (by omega) (by omega), sizeElem37]
  simp [Result.andThen, sliced, Addr.add]
theorem conv_nil (w : World) : (convert 37 9 (.slice none 0 0)).run Tryd.prog w = .ok (.string (bs [])) w :=
  run_convert_runes_nil w 37 9 21 0 0 Tryd.underlying37 Tryd.underlying21 Tryd.underlying9
set_option maxHeartbeats 8000000 in
set_option maxRecDepth 100000 in
theorem runes_law_any (w : World) (s : ByteArray) (at0 : Int) (ha0 : -9223372036854775808 ≤ at0) (ha1 : at0 ≤ 9223372036854775807) (hT : Tabs w) : Calls Tryd.prog 7 #[.string s, .int .i64 at0] w fun e w' => e = .returned (.bool true) ∧ Below w.heap.size w w' := by
  have HT := Lib.hid hT
  clear hT
  go_enter Tryd.func7, Tryd.ntmps7
  go_upto_if 13 with (fail)
  go_cut [0] from 11 (fun s0 wx => ∃ A : ByteArray, s0 = .string A ∧ A.size ≤ 80 ∧ w = wx)
  case first =>
    go_wp2
    all_goals
      go_meet
      first
        | exact ⟨_, rfl, cut_size _ _, rfl⟩
        | exact ⟨_, rfl, by omega, rfl⟩
  case rest =>
    obtain ⟨A, rfl, hA, rfl⟩ := hcut
    go_wp2
    go_loopw [5] (fun v wr => ∃ pos : Nat, Coll A w wr v pos) (fun _ wr => A.size - wr.iterPos w.heap.size)
    case atStart => exact ⟨0, coll_start A w⟩
    case round =>
      obtain ⟨pos, hc⟩ := hrel
      have HC := Lib.hid hc
      have HI := Lib.hid (coll_it hc)
      clear hc
      by_cases hp : pos < A.size
      · have hnx : ∀ ty, (Instr.next (.pointer (some ⟨w.heap.size, 0, none⟩)) true ty).run Tryd.prog wr = _ := fun ty => Lib.run_next_any_at wr w.heap.size A pos ty HI.out hp
        have HW := Lib.hid (Lib.width_pos A pos)
        have hr4 := Lib.rune_le A pos
        obtain ⟨r, hr⟩ : ∃ r, r = (Utf8.decode A pos).1 := ⟨_, rfl⟩
        obtain ⟨k, hk⟩ : ∃ k, k = (Utf8.decode A pos).2 := ⟨_, rfl⟩
        rw [← hr] at hr4
        rw [← hk] at HW
        simp only [← hr, ← hk] at hnx
        have HR := Lib.hid hr
        have HK := Lib.hid hk
        clear hr hk
        go_wp2_with (at_builtin; refine coll_append rfl (.tmp 21) (.tmp 23) rfl A w wr _ pos r k (by omega) rfl HC.out hp HR.out HK.out rfl ?_)
        intro v' w' hc'
        have HC' := Lib.hid hc'
        clear hc'
        go_wp2
        go_roundw
        case rel => exact ⟨pos + k, HC'.out⟩
        case measure =>
          rw [it_pos (coll_it HC'.out), it_pos HI.out]
          have := HW.out
          omega
      · have hnx : ∀ ty, (Instr.next (.pointer (some ⟨w.heap.size, 0, none⟩)) true ty).run Tryd.prog wr = _ := fun ty => Lib.run_next_end_at wr w.heap.size A pos ty HI.out hp
        obtain ⟨ho, hb⟩ := coll_end HC.out hp
        have HB := Lib.hid hb
        have HSC := Lib.hid (runes_scal A.data.toList)
        have HPA := Lib.hid (parts_of A hA)
        have hl80 : (runes A.data.toList).length ≤ 80 := by
          have := runes_len A.data.toList
          rw [← Lib.size_eq] at this
          omega
        obtain ⟨l, hl⟩ : ∃ l, l = runes A.data.toList := ⟨_, rfl⟩
        rw [← hl] at ho HSC HPA hl80
        clear HC HI hb hl
        rcases r32_more ho with ⟨rfl, hl0, rfl⟩ | ⟨g, cap, rfl, hcap, hmax, _, hcell⟩
        · clear ho
          obtain ⟨U, U1, U2, c, m, q, rr, r, hparts⟩ := HPA.out 0
          clear HPA HSC
          obtain ⟨X, hX⟩ : ∃ X, X = bs (encs (([] : List Nat).take 0)) := ⟨_, rfl⟩
          obtain ⟨Y, hY⟩ : ∃ Y, Y = bs (encs (([] : List Nat).drop 0)) := ⟨_, rfl⟩
          have hcv1 := fun q => conv_nil (wr.drewN q)
          rw [show bs [] = X from hX.symm] at hcv1
          have hYX : Y = X := by rw [hX, hY]; rfl
          rw [← hX, ← hY] at hparts
          rw [hYX] at hparts
          have HP := Lib.hid hparts
          clear hX hY hYX hparts Y
          have hs1 : ∀ W : World, (Instr.slice 37 (.slice none 0 0) none (some (.int .i64 0)) none).run Tryd.prog W = .ok (.slice none 0 0) W := fun W => by kernel_rfl
          have hs2 : ∀ W : World, (Instr.slice 37 (.slice none 0 0) (some (.int .i64 0)) none none).run Tryd.prog W = .ok (.slice none 0 0) W := fun W => by kernel_rfl
          go_wp2
          go_quiet (fail)
          have HBQ := Lib.hid (step HB.out (below_drewN wr nq))
          clear hs1 hs2 hcv1 HB
          have C1 := Lib.hid (fun W => kr2 W X (by have := HP.out.sX; omega) m HP.out.cX)
          have C2 := Lib.hid (fun W => kr2 W X (by have := HP.out.sY; omega) q HP.out.cY)
          have C3 := Lib.hid (fun W => kr2 W A (by omega) c HP.out.cA)
          have C4 := Lib.hid (fun W => kr3 W A (by omega) U HP.out.uA)
          have C5 := Lib.hid (fun W => kr2 W U (by have := HP.out.sU; omega) c HP.out.cU)
          have C6 := Lib.hid (fun W => kr3 W X (by have := HP.out.sX; omega) U1 HP.out.uX)
          have C7 := Lib.hid (fun W => kr3 W X (by have := HP.out.sY; omega) U2 HP.out.uY)
          have C8 := Lib.hid (fun W => kr1 W (A ++ A) rr HP.out.r2)
          have C9 := Lib.hid (fun W => kr1 W A r HP.out.r1)
          have hsum : (m : Int) + (q : Int) = (c : Int) := by have := HP.out.sum; omega
          have hcat := HP.out.cat
          have hz1 := HP.out.sU1
          have hz2 := HP.out.sU2
          have hlim := HP.out.lim
          have hm80 : m ≤ 80 := by have := HP.out.sum; omega
          have hq80 : q ≤ 80 := by have := HP.out.sum; omega
          have hrd := HP.out.rd
          clear HP
          cases r
          · obtain rfl : rr = false := by rw [hrd]; rfl
            clear hrd
            go_wp2_with fail
            refine (C1.out _).mono ?_
            rintro e z1 ⟨rfl, hb⟩
            have HZ1 := Lib.hid (step HBQ.out hb)
            clear hb
            go_wp2_with fail
            refine (C2.out _).mono ?_
            rintro e z2 ⟨rfl, hb⟩
            have HZ2 := Lib.hid (step HZ1.out hb)
            clear hb
            go_wp2_with fail
            refine (C3.out _).mono ?_
            rintro e z3 ⟨rfl, hb⟩
            have HZ3 := Lib.hid (step HZ2.out hb)
            clear hb
            go_wp2_with fail
            refine (C4.out _).mono ?_
            rintro e z4 ⟨rfl, hb⟩
            have HZ4 := Lib.hid (step HZ3.out hb)
            clear hb
            go_wp2_with fail
            refine (C5.out _).mono ?_
            rintro e z5 ⟨rfl, hb⟩
            have HZ5 := Lib.hid (step HZ4.out hb)
            clear hb
            go_wp2_with fail
            refine (C3.out _).mono ?_
            rintro e z6 ⟨rfl, hb⟩
            have HZ6 := Lib.hid (step HZ5.out hb)
            clear hb
            go_wp2_with fail
            refine (C6.out _).mono ?_
            rintro e z7 ⟨rfl, hb⟩
            have HZ7 := Lib.hid (step HZ6.out hb)
            clear hb
            go_wp2_with fail
            refine (C7.out _).mono ?_
            rintro e z8 ⟨rfl, hb⟩
            have HZ8 := Lib.hid (step HZ7.out hb)
            clear hb
            go_wp2_with fail
            refine (C4.out _).mono ?_
            rintro e z9 ⟨rfl, hb⟩
            have HZ9 := Lib.hid (step HZ8.out hb)
            clear hb
            go_wp2_with fail
            refine (C8.out _).mono ?_
            rintro e z10 ⟨rfl, hb⟩
            have HZ10 := Lib.hid (step HZ9.out hb)
            clear hb
            go_wp2_with fail
            refine (C9.out _).mono ?_
            rintro e z11 ⟨rfl, hb⟩
            have HZ11 := Lib.hid (step HZ10.out hb)
            clear hb
            go_wp2_with fail
            refine (known_any _ (HT.out.keep HZ11.out)).mono ?_
            rintro e z12 ⟨rfl, hb⟩
            have HZ12 := Lib.hid (step HZ11.out hb)
            clear hb
            go_wp2
            go_ret
            exact ⟨rfl, HZ12.out⟩
          · by_cases h40 : 2 * c ≤ 40
            · obtain rfl : rr = true := by rw [hrd, decide_eq_true h40]; rfl
              have hd40 : decide (2 * (c : Int) ≤ 40) = true := by simp; omega
              clear hrd
              go_wp2_with fail
              refine (C1.out _).mono ?_
              rintro e z1 ⟨rfl, hb⟩
              have HZ1 := Lib.hid (step HBQ.out hb)
              clear hb
              go_wp2_with fail
              refine (C2.out _).mono ?_
              rintro e z2 ⟨rfl, hb⟩
              have HZ2 := Lib.hid (step HZ1.out hb)
              clear hb
              go_wp2_with fail
              refine (C3.out _).mono ?_
              rintro e z3 ⟨rfl, hb⟩
              have HZ3 := Lib.hid (step HZ2.out hb)
              clear hb
              go_wp2_with fail
              refine (C4.out _).mono ?_
              rintro e z4 ⟨rfl, hb⟩
              have HZ4 := Lib.hid (step HZ3.out hb)
              clear hb
              go_wp2_with fail
              refine (C5.out _).mono ?_
              rintro e z5 ⟨rfl, hb⟩
              have HZ5 := Lib.hid (step HZ4.out hb)
              clear hb
              go_wp2_with fail
              refine (C3.out _).mono ?_
              rintro e z6 ⟨rfl, hb⟩
              have HZ6 := Lib.hid (step HZ5.out hb)
              clear hb
              go_wp2_with fail
              refine (C6.out _).mono ?_
              rintro e z7 ⟨rfl, hb⟩
              have HZ7 := Lib.hid (step HZ6.out hb)
              clear hb
              go_wp2_with fail
              refine (C7.out _).mono ?_
              rintro e z8 ⟨rfl, hb⟩
              have HZ8 := Lib.hid (step HZ7.out hb)
              clear hb
              go_wp2_with fail
              refine (C4.out _).mono ?_
              rintro e z9 ⟨rfl, hb⟩
              have HZ9 := Lib.hid (step HZ8.out hb)
              clear hb
              go_wp2_with fail
              refine (C8.out _).mono ?_
              rintro e z10 ⟨rfl, hb⟩
              have HZ10 := Lib.hid (step HZ9.out hb)
              clear hb
              go_wp2_with fail
              refine (C9.out _).mono ?_
              rintro e z11 ⟨rfl, hb⟩
              have HZ11 := Lib.hid (step HZ10.out hb)
              clear hb
              go_wp2_with fail
              refine (C3.out _).mono ?_
              rintro e z12 ⟨rfl, hb⟩
              have HZ12 := Lib.hid (step HZ11.out hb)
              clear hb
              go_wp2_with fail
              refine (known_any _ (HT.out.keep HZ12.out)).mono ?_
              rintro e z13 ⟨rfl, hb⟩
              have HZ13 := Lib.hid (step HZ12.out hb)
              clear hb
              go_wp2
              go_ret
              exact ⟨rfl, HZ13.out⟩
            · obtain rfl : rr = false := by rw [hrd, decide_eq_false h40]; rfl
              have hd40 : decide (2 * (c : Int) ≤ 40) = false := by simp; omega
              clear hrd
              go_wp2_with fail
              refine (C1.out _).mono ?_
              rintro e z1 ⟨rfl, hb⟩
              have HZ1 := Lib.hid (step HBQ.out hb)
              clear hb
              go_wp2_with fail
              refine (C2.out _).mono ?_
              rintro e z2 ⟨rfl, hb⟩
              have HZ2 := Lib.hid (step HZ1.out hb)
              clear hb
              go_wp2_with fail
              refine (C3.out _).mono ?_
              rintro e z3 ⟨rfl, hb⟩
              have HZ3 := Lib.hid (step HZ2.out hb)
              clear hb
              go_wp2_with fail
              refine (C4.out _).mono ?_
              rintro e z4 ⟨rfl, hb⟩
              have HZ4 := Lib.hid (step HZ3.out hb)
              clear hb
              go_wp2_with fail
              refine (C5.out _).mono ?_
              rintro e z5 ⟨rfl, hb⟩
              have HZ5 := Lib.hid (step HZ4.out hb)
              clear hb
              go_wp2_with fail
              refine (C3.out _).mono ?_
              rintro e z6 ⟨rfl, hb⟩
              have HZ6 := Lib.hid (step HZ5.out hb)
              clear hb
              go_wp2_with fail
              refine (C6.out _).mono ?_
              rintro e z7 ⟨rfl, hb⟩
              have HZ7 := Lib.hid (step HZ6.out hb)
              clear hb
              go_wp2_with fail
              refine (C7.out _).mono ?_
              rintro e z8 ⟨rfl, hb⟩
              have HZ8 := Lib.hid (step HZ7.out hb)
              clear hb
              go_wp2_with fail
              refine (C4.out _).mono ?_
              rintro e z9 ⟨rfl, hb⟩
              have HZ9 := Lib.hid (step HZ8.out hb)
              clear hb
              go_wp2_with fail
              refine (C8.out _).mono ?_
              rintro e z10 ⟨rfl, hb⟩
              have HZ10 := Lib.hid (step HZ9.out hb)
              clear hb
              go_wp2_with fail
              refine (C9.out _).mono ?_
              rintro e z11 ⟨rfl, hb⟩
              have HZ11 := Lib.hid (step HZ10.out hb)
              clear hb
              go_wp2_with fail
              refine (C3.out _).mono ?_
              rintro e z12 ⟨rfl, hb⟩
              have HZ12 := Lib.hid (step HZ11.out hb)
              clear hb
              go_wp2_with fail
              refine (known_any _ (HT.out.keep HZ12.out)).mono ?_
              rintro e z13 ⟨rfl, hb⟩
              have HZ13 := Lib.hid (step HZ12.out hb)
              clear hb
              go_wp2
              go_ret
              exact ⟨rfl, HZ13.out⟩
        · clear ho
          obtain ⟨n, hn⟩ : ∃ n, n = l.length := ⟨_, rfl⟩
          rw [← hn] at hcap hcell hl80
          have HCE := Lib.hid hcell
          have HNN := Lib.hid hn
          clear hcell
          rw [← hn]
          clear hn
          go_upto_if 27 with (fail)
          go_cut [8] from 25 (fun s8 wx => ∃ k : Nat, s8 = .int .i64 k ∧ k ≤ n ∧ wr = wx)
          case first =>
            by_cases h0 : 0 < n
            · obtain ⟨c, hc, hc0, hc1⟩ := tmod_some at0 h0
              obtain ⟨k, hk⟩ : ∃ k : Nat, (c + (n : Int)) % (n : Int) = (k : Int) := ⟨((c + (n : Int)) % (n : Int)).toNat, by have := Int.emod_nonneg (c + (n : Int)) (b := (n : Int)) (by omega); omega⟩
              have hkn : k < n := by have := Int.emod_lt_of_pos (c + (n : Int)) (b := (n : Int)) (by omega); omega
              go_wp2
              all_goals
                go_meet
                exact ⟨k, rfl, by omega, rfl⟩
            · go_wp2
              all_goals
                go_meet
                exact ⟨0, rfl, by omega, rfl⟩
          case rest =>
            obtain ⟨k, rfl, hkn, rfl⟩ := hcut
            have hcv1 := fun q => conv_head (w := wr.drewN q) (cap := cap) HSC.out HNN.out.symm hkn (fun i hi => by simpa using HCE.out i hi)
            have hcv2 := fun q => conv_tail (w := wr.drewN q) HSC.out HNN.out.symm hkn hcap (fun i hi => by simpa using HCE.out i hi)
            have hs1 := fun W => run_head37 g 0 n cap k (by omega) W
            have hs2 := fun W => run_tail37 g 0 n cap k hkn W
            obtain ⟨U, U1, U2, c, m, q, rr, r, hparts⟩ := HPA.out k
            obtain ⟨X, hX⟩ : ∃ X, X = bs (encs (l.take k)) := ⟨_, rfl⟩
            obtain ⟨Y, hY⟩ : ∃ Y, Y = bs (encs (l.drop k)) := ⟨_, rfl⟩
            rw [← hX] at hcv1 hparts
            rw [← hY] at hcv2 hparts
            have HP := Lib.hid hparts
            obtain ⟨o, ho⟩ : ∃ o, o = (if cap = k then 0 else 0 + k) := ⟨_, rfl⟩
            obtain ⟨d1, hd1⟩ : ∃ d, d = n - k := ⟨_, rfl⟩
            obtain ⟨d2, hd2⟩ : ∃ d, d = cap - k := ⟨_, rfl⟩
            rw [← ho, ← hd1, ← hd2] at hcv2 hs2
            clear hX hY ho hd1 hd2 hparts HPA HSC HNN HCE
            go_wp2
            go_quiet (fail)
            have HBQ := Lib.hid (step HB.out (below_drewN wr nq))
            clear hs1 hs2 hcv1 hcv2 HB
            have C1 := Lib.hid (fun W => kr2 W X (by have := HP.out.sX; omega) m HP.out.cX)
            have C2 := Lib.hid (fun W => kr2 W Y (by have := HP.out.sY; omega) q HP.out.cY)
            have C3 := Lib.hid (fun W => kr2 W A (by omega) c HP.out.cA)
            have C4 := Lib.hid (fun W => kr3 W A (by omega) U HP.out.uA)
            have C5 := Lib.hid (fun W => kr2 W U (by have := HP.out.sU; omega) c HP.out.cU)
            have C6 := Lib.hid (fun W => kr3 W X (by have := HP.out.sX; omega) U1 HP.out.uX)
            have C7 := Lib.hid (fun W => kr3 W Y (by have := HP.out.sY; omega) U2 HP.out.uY)
            have C8 := Lib.hid (fun W => kr1 W (A ++ A) rr HP.out.r2)
            have C9 := Lib.hid (fun W => kr1 W A r HP.out.r1)
            have hsum : (m : Int) + (q : Int) = (c : Int) := by have := HP.out.sum; omega
            have hcat := HP.out.cat
            have hz1 := HP.out.sU1
            have hz2 := HP.out.sU2
            have hlim := HP.out.lim
            have hm80 : m ≤ 80 := by have := HP.out.sum; omega
            have hq80 : q ≤ 80 := by have := HP.out.sum; omega
            have hrd := HP.out.rd
            clear HP
            cases r
            · obtain rfl : rr = false := by rw [hrd]; rfl
              clear hrd
              go_wp2_with fail
              refine (C1.out _).mono ?_
              rintro e z1 ⟨rfl, hb⟩
              have HZ1 := Lib.hid (step HBQ.out hb)
              clear hb
              go_wp2_with fail
              refine (C2.out _).mono ?_
              rintro e z2 ⟨rfl, hb⟩
              have HZ2 := Lib.hid (step HZ1.out hb)
              clear hb
              go_wp2_with fail
              refine (C3.out _).mono ?_
              rintro e z3 ⟨rfl, hb⟩
              have HZ3 := Lib.hid (step HZ2.out hb)
              clear hb
              go_wp2_with fail
              refine (C4.out _).mono ?_
              rintro e z4 ⟨rfl, hb⟩
              have HZ4 := Lib.hid (step HZ3.out hb)
              clear hb
              go_wp2_with fail
              refine (C5.out _).mono ?_
              rintro e z5 ⟨rfl, hb⟩
              have HZ5 := Lib.hid (step HZ4.out hb)
              clear hb
              go_wp2_with fail
              refine (C3.out _).mono ?_
              rintro e z6 ⟨rfl, hb⟩
              have HZ6 := Lib.hid (step HZ5.out hb)
              clear hb
              go_wp2_with fail
              refine (C6.out _).mono ?_
              rintro e z7 ⟨rfl, hb⟩
              have HZ7 := Lib.hid (step HZ6.out hb)
              clear hb
              go_wp2_with fail
              refine (C7.out _).mono ?_
              rintro e z8 ⟨rfl, hb⟩
              have HZ8 := Lib.hid (step HZ7.out hb)
              clear hb
              go_wp2_with fail
              refine (C4.out _).mono ?_
              rintro e z9 ⟨rfl, hb⟩
              have HZ9 := Lib.hid (step HZ8.out hb)
              clear hb
              go_wp2_with fail
              refine (C8.out _).mono ?_
              rintro e z10 ⟨rfl, hb⟩
              have HZ10 := Lib.hid (step HZ9.out hb)
              clear hb
              go_wp2_with fail
              refine (C9.out _).mono ?_
              rintro e z11 ⟨rfl, hb⟩
              have HZ11 := Lib.hid (step HZ10.out hb)
              clear hb
              go_wp2_with fail
              refine (known_any _ (HT.out.keep HZ11.out)).mono ?_
              rintro e z12 ⟨rfl, hb⟩
              have HZ12 := Lib.hid (step HZ11.out hb)
              clear hb
              go_wp2
              go_ret
              exact ⟨rfl, HZ12.out⟩
            · by_cases h40 : 2 * c ≤ 40
              · obtain rfl : rr = true := by rw [hrd, decide_eq_true h40]; rfl
                have hd40 : decide (2 * (c : Int) ≤ 40) = true := by simp; omega
                clear hrd
                go_wp2_with fail
                refine (C1.out _).mono ?_
                rintro e z1 ⟨rfl, hb⟩
                have HZ1 := Lib.hid (step HBQ.out hb)
                clear hb
                go_wp2_with fail
                refine (C2.out _).mono ?_
                rintro e z2 ⟨rfl, hb⟩
                have HZ2 := Lib.hid (step HZ1.out hb)
                clear hb
                go_wp2_with fail
                refine (C3.out _).mono ?_
                rintro e z3 ⟨rfl, hb⟩
                have HZ3 := Lib.hid (step HZ2.out hb)
                clear hb
                go_wp2_with fail
                refine (C4.out _).mono ?_
                rintro e z4 ⟨rfl, hb⟩
                have HZ4 := Lib.hid (step HZ3.out hb)
                clear hb
                go_wp2_with fail
                refine (C5.out _).mono ?_
                rintro e z5 ⟨rfl, hb⟩
                have HZ5 := Lib.hid (step HZ4.out hb)
                clear hb
                go_wp2_with fail
                refine (C3.out _).mono ?_
                rintro e z6 ⟨rfl, hb⟩
                have HZ6 := Lib.hid (step HZ5.out hb)
                clear hb
                go_wp2_with fail
                refine (C6.out _).mono ?_
                rintro e z7 ⟨rfl, hb⟩
                have HZ7 := Lib.hid (step HZ6.out hb)
                clear hb
                go_wp2_with fail
                refine (C7.out _).mono ?_
                rintro e z8 ⟨rfl, hb⟩
                have HZ8 := Lib.hid (step HZ7.out hb)
                clear hb
                go_wp2_with fail
                refine (C4.out _).mono ?_
                rintro e z9 ⟨rfl, hb⟩
                have HZ9 := Lib.hid (step HZ8.out hb)
                clear hb
                go_wp2_with fail
                refine (C8.out _).mono ?_
                rintro e z10 ⟨rfl, hb⟩
                have HZ10 := Lib.hid (step HZ9.out hb)
                clear hb
                go_wp2_with fail
                refine (C9.out _).mono ?_
                rintro e z11 ⟨rfl, hb⟩
                have HZ11 := Lib.hid (step HZ10.out hb)
                clear hb
                go_wp2_with fail
                refine (C3.out _).mono ?_
                rintro e z12 ⟨rfl, hb⟩
                have HZ12 := Lib.hid (step HZ11.out hb)
                clear hb
                go_wp2_with fail
                refine (known_any _ (HT.out.keep HZ12.out)).mono ?_
                rintro e z13 ⟨rfl, hb⟩
                have HZ13 := Lib.hid (step HZ12.out hb)
                clear hb
                go_wp2
                go_ret
                exact ⟨rfl, HZ13.out⟩
              · obtain rfl : rr = false := by rw [hrd, decide_eq_false h40]; rfl
                have hd40 : decide (2 * (c : Int) ≤ 40) = false := by simp; omega
                clear hrd
                go_wp2_with fail
                refine (C1.out _).mono ?_
                rintro e z1 ⟨rfl, hb⟩
                have HZ1 := Lib.hid (step HBQ.out hb)
                clear hb
                go_wp2_with fail
                refine (C2.out _).mono ?_
                rintro e z2 ⟨rfl, hb⟩
                have HZ2 := Lib.hid (step HZ1.out hb)
                clear hb
                go_wp2_with fail
                refine (C3.out _).mono ?_
                rintro e z3 ⟨rfl, hb⟩
                have HZ3 := Lib.hid (step HZ2.out hb)
                clear hb
                go_wp2_with fail
                refine (C4.out _).mono ?_
                rintro e z4 ⟨rfl, hb⟩
                have HZ4 := Lib.hid (step HZ3.out hb)
                clear hb
                go_wp2_with fail
                refine (C5.out _).mono ?_
                rintro e z5 ⟨rfl, hb⟩
                have HZ5 := Lib.hid (step HZ4.out hb)
                clear hb
                go_wp2_with fail
                refine (C3.out _).mono ?_
                rintro e z6 ⟨rfl, hb⟩
                have HZ6 := Lib.hid (step HZ5.out hb)
                clear hb
                go_wp2_with fail
                refine (C6.out _).mono ?_
                rintro e z7 ⟨rfl, hb⟩
                have HZ7 := Lib.hid (step HZ6.out hb)
                clear hb
                go_wp2_with fail
                refine (C7.out _).mono ?_
                rintro e z8 ⟨rfl, hb⟩
                have HZ8 := Lib.hid (step HZ7.out hb)
                clear hb
                go_wp2_with fail
                refine (C4.out _).mono ?_
                rintro e z9 ⟨rfl, hb⟩
                have HZ9 := Lib.hid (step HZ8.out hb)
                clear hb
                go_wp2_with fail
                refine (C8.out _).mono ?_
                rintro e z10 ⟨rfl, hb⟩
                have HZ10 := Lib.hid (step HZ9.out hb)
                clear hb
                go_wp2_with fail
                refine (C9.out _).mono ?_
                rintro e z11 ⟨rfl, hb⟩
                have HZ11 := Lib.hid (step HZ10.out hb)
                clear hb
                go_wp2_with fail
                refine (C3.out _).mono ?_
                rintro e z12 ⟨rfl, hb⟩
                have HZ12 := Lib.hid (step HZ11.out hb)
                clear hb
                go_wp2_with fail
                refine (known_any _ (HT.out.keep HZ12.out)).mono ?_
                rintro e z13 ⟨rfl, hb⟩
                have HZ13 := Lib.hid (step HZ12.out hb)
                clear hb
                go_wp2
                go_ret
                exact ⟨rfl, HZ13.out⟩
end Go.Proofs.YticplcnkaapmgaaDoor
