/- The walk of 'OptionTells'. -/
import Derived.Test.YtifogkacjfpipaaGrowAny
import Derived.Deep.Cut
namespace Go.Proofs.Ytifogkacjfpipaa
open Go.RowKit
open Go.RuneMath
set_option linter.unusedVariables false

theorem mask20 (a : Int) : ∃ x : Nat, bits .and .i64 a 1048575 = (x : Int) := by
  have h1 : (BitVec.ofInt 64 1048575).toNat = 2 ^ 20 - 1 := by decide
  have key : (BitVec.ofInt 64 a &&& BitVec.ofInt 64 1048575).toNat = (a % ((2 ^ 64 : Nat) : Int)).toNat % 2 ^ 20 := by
    rw [BitVec.toNat_and, BitVec.toNat_ofInt, h1, Nat.and_two_pow_sub_one_eq_mod]
  refine ⟨(a % ((2 ^ 64 : Nat) : Int)).toNat % 2 ^ 20, ?_⟩
  show IntKind.i64.wrap ((BitVec.ofInt 64 a &&& BitVec.ofInt 64 1048575).toNat : Nat) = _
  rw [key, IntKind.wrap_i64]
  omega
theorem rem6 (k : Int) : ∃ c : Int, ∃ j : Nat, k.tmod 6 = c ∧ -5 ≤ c ∧ c ≤ 5 ∧ (c + 6).tmod 6 = (j : Int) ∧ j < 6 := by
  have h : -5 ≤ k.tmod 6 ∧ k.tmod 6 ≤ 5 := by
    cases k with
    | ofNat n =>
      show -5 ≤ ((n % 6 : Nat) : Int) ∧ ((n % 6 : Nat) : Int) ≤ 5
      omega
    | negSucc n =>
      show -5 ≤ -(((n + 1) % 6 : Nat) : Int) ∧ -(((n + 1) % 6 : Nat) : Int) ≤ 5
      omega
  obtain ⟨c, hc⟩ : ∃ c, k.tmod 6 = c := ⟨_, rfl⟩
  rw [hc] at h
  obtain ⟨m, hm⟩ : ∃ m : Nat, c + 6 = (m : Int) := ⟨(c + 6).toNat, by omega⟩
  refine ⟨c, m % 6, hc, h.1, h.2, ?_, by omega⟩
  rw [hm]
  rfl
def six : List ByteArray := [⟨#[115, 101, 103, 109, 101, 110, 116]⟩, ⟨#[105, 110, 100, 101, 120]⟩, ⟨#[115, 110, 97, 112, 115, 104, 111, 116]⟩, ⟨#[99, 97, 112]⟩, ⟨#[67, 65, 80]⟩, ⟨#[73, 110, 100, 101, 120]⟩]
theorem six_at {j : Nat} (h : j < 6) : ∃ S, six[j]? = some S ∧ S.size ≤ 8 := by
  match j, h with
  | 0, _ => exact ⟨_, rfl, by decide⟩
  | 1, _ => exact ⟨_, rfl, by decide⟩
  | 2, _ => exact ⟨_, rfl, by decide⟩
  | 3, _ => exact ⟨_, rfl, by decide⟩
  | 4, _ => exact ⟨_, rfl, by decide⟩
  | 5, _ => exact ⟨_, rfl, by decide⟩
theorem one_str (W : World) (K : Nat) (hK : K = W.heap.size) (u : Value) (t : Nat) : (W.alloc (.cells #[u] t)).cell? ((⟨K, 0, none⟩ : Addr).add 0) = some u := by
  subst hK
  have e : ((⟨W.heap.size, 0, none⟩ : Addr).add 0) = ⟨W.heap.size, 0, none⟩ := by simp [Addr.add]
  rw [e, cell_of_row _ _ 0 _ _ _ (heap_alloc_new W _)]
  rfl
abbrev sixRow : Obj := .cells #[.string ⟨#[115, 101, 103, 109, 101, 110, 116]⟩, .string ⟨#[105, 110, 100, 101, 120]⟩, .string ⟨#[115, 110, 97, 112, 115, 104, 111, 116]⟩, .string ⟨#[99, 97, 112]⟩, .string ⟨#[67, 65, 80]⟩, .string ⟨#[73, 110, 100, 101, 120]⟩] 9
theorem six_cell (W : World) (K : Nat) (hK : K = W.heap.size) {j : Nat} {S : ByteArray} (h : six[j]? = some S) : (W.alloc (.cells #[.string ⟨#[115, 101, 103, 109, 101, 110, 116]⟩, .string ⟨#[105, 110, 100, 101, 120]⟩, .string ⟨#[115, 110, 97, 112, 115, 104, 111, 116]⟩, .string ⟨#[99, 97, 112]⟩, .string ⟨#[67, 65, 80]⟩, .string ⟨#[73, 110, 100, 101, 120]⟩] 9)).cell? ⟨K, j, none⟩ = some (.string S) := by
  subst hK
  have e : (#[.string ⟨#[115, 101, 103, 109, 101, 110, 116]⟩, .string ⟨#[105, 110, 100, 101, 120]⟩, .string ⟨#[115, 110, 97, 112, 115, 104, 111, 116]⟩, .string ⟨#[99, 97, 112]⟩, .string ⟨#[67, 65, 80]⟩, .string ⟨#[73, 110, 100, 101, 120]⟩] : Array Value) = (six.map Value.string).toArray := rfl
  rw [e]
  refine row_at (l := six.map Value.string) (t := 9) (heap_alloc_new W _) j _ ?_
  rw [List.getElem?_map, h]
  rfl
theorem cut_size (s : ByteArray) (k : Nat) : (s.extract 0 k).size ≤ k := by
  rw [ByteArray.size_extract]
  omega
theorem configs_nil (w : World) (na ma : Option Addr) (nc mc : Nat) (N : List ByteArray) (M : List Int) (hN : StrsAt w na N) (hM : NumsAt w ma M) (hg : ∀ s ∈ N, s.size ≤ 1073741824) :
    Calls Try.prog 8 #[.slice none 0 0, .slice na N.length nc, .slice ma M.length mc] w fun e w' => e = .returned (.bool true) ∧ Below w.heap.size w w' := configs_any w none na ma 0 nc mc [] N M (no_confs w) hN hM hg
set_option maxHeartbeats 8000000 in
set_option maxRecDepth 100000 in
theorem tells_any (w : World) (n r : Int) (s : ByteArray) (b : Bool) (fa na ma wa : Option Addr) (fc nc mc wc : Nat) (F : List Cf) (N : List ByteArray) (M U : List Int) (hr : (Lit.int .i32 r).wf = true)
    (hF : ConfsAt w fa F) (hN : StrsAt w na N) (hM : NumsAt w ma M) (hU : NumsAt w wa U) (hg : ∀ s ∈ N, s.size ≤ 1073741824) (hm : M.length ≤ 1048576) (hu : U.length ≤ 1048576) :
    Calls Try.prog 4 #[.int .i64 n, .int .i32 r, .string s, .bool b, .slice fa F.length fc, .slice na N.length nc, .slice ma M.length mc, .slice wa U.length wc] w fun e w' => e = .returned (.bool true) ∧ Below w.heap.size w w' := by
  have HF := Lib.hid hF
  have HN := Lib.hid hN
  have HM := Lib.hid hM
  have HU := Lib.hid hU
  have HG := Lib.hid hg
  have HR := Lib.hid hr
  obtain ⟨fl, hfl⟩ : ∃ fl, F.length = fl := ⟨_, rfl⟩
  obtain ⟨nl, hnl⟩ : ∃ nl, N.length = nl := ⟨_, rfl⟩
  obtain ⟨ml, hml⟩ : ∃ ml, M.length = ml := ⟨_, rfl⟩
  obtain ⟨ul, hul⟩ : ∃ ul, U.length = ul := ⟨_, rfl⟩
  rw [hml] at hm
  rw [hul] at hu
  rw [hfl, hnl, hml, hul]
  have HFL := Lib.hid hfl
  have HNL := Lib.hid hnl
  have HML := Lib.hid hml
  have HUL := Lib.hid hul
  clear hfl hnl hml hul hF hN hM hU hg hr
  go_enter Try.func4, Try.ntmps4
  go_upto_if 23 with (fail)
  go_cut [2] from 21 (fun s0 wx => ∃ S : ByteArray, s0 = .string S ∧ S.size ≤ 60 ∧ w = wx)
  case first =>
    go_wp2
    all_goals
      go_meet
      first
        | exact ⟨_, rfl, cut_size _ _, rfl⟩
        | exact ⟨_, rfl, by omega, rfl⟩
  case rest =>
    obtain ⟨S, rfl, hS, rfl⟩ := hcut
    have HS := Lib.hid hS
    clear hS
    go_wp2
    go_loopw [17, 19, 28] (fun s17 s19 s28 wr => ∃ (j : Nat) (l : List ByteArray), s28 = .int .i64 j ∧ j ≤ ul ∧ Own Value.string 9 wr w.heap.size s17 l ∧ l.length = j ∧ (∀ x ∈ l, x.size ≤ 1073741824) ∧ Below w.heap.size w wr) (fun _ _ k _ => ul - (intOf k).toNat)
    case atStart => exact ⟨0, [], rfl, Nat.zero_le _, own_nil _ _ _ _, rfl, by simp, Below.refl _ _⟩
    case round =>
      obtain ⟨j, l, rfl, hj, hown, hlen, hall, hb⟩ := hrel
      have HOwn := Lib.hid hown
      have HLen := Lib.hid hlen
      have HAll := Lib.hid hall
      have HB := Lib.hid hb
      clear hown hlen hall hb
      by_cases hju : j < ul
      · obtain ⟨x, hx⟩ : ∃ x, U[j]? = some x := ⟨_, List.getElem?_eq_getElem (by rw [HUL.out]; exact hju)⟩
        obtain ⟨ub, uoff, rfl, hub, du⟩ := HU.out j x hx
        have g0 := (HB.out.cell (p := ⟨ub, uoff + j, none⟩) hub).trans du
        obtain ⟨c, q, hc, hc1, hc2, hq, hq6⟩ := rem6 x
        obtain ⟨T, hT, hT8⟩ := six_at hq6
        have h6 := six_cell wr wr.heap.size rfl hT
        have HT8 := Lib.hid hT8
        have q6 : (q : Int) < 6 := by omega
        have q0 : (0 : Int) ≤ (q : Int) := by omega
        have jI : (j : Int) < (ul : Int) := by omega
        have hbase : w.heap.size ≤ wr.heap.size + 1 + 1 := by have := HB.out.size; omega
        have HBase := Lib.hid hbase
        have hubr : ub < wr.heap.size := Nat.lt_of_lt_of_le hub HB.out.size
        clear du hx hT hT8 hbase
        have hown2 := (HOwn.out.alloc sixRow).alloc (.cells #[.string T] 9)
        have hcell := one_str (wr.alloc sixRow) (wr.heap.size + 1) (by rw [alloc_size]) (.string T) 9
        have hbase2 : w.heap.size ≤ ((wr.alloc sixRow).alloc (.cells #[.string T] 9)).heap.size := by
          rw [alloc_size, alloc_size]
          exact HBase.out
        have hl8 : l.length + 1 ≤ 8000000 := by rw [HLen.out]; omega
        have HOwn2 := Lib.hid hown2
        have HCell := Lib.hid hcell
        have HBase2 := Lib.hid hbase2
        have HL8 := Lib.hid hl8
        clear hown2 hcell hbase2 hl8
        go_wp2_with (at_builtin; refine list_own Value.string (fun _ => rfl) 22 9 16 (.string ⟨#[]⟩) Try.underlying22 info9 rfl (by rfl) (.tmp 31) (.tmp 42) rfl w.heap.size l T _ rfl HOwn2.out HBase2.out ⟨wr.heap.size + 1, 0, none⟩ 1 rfl HCell.out HL8.out (by decide) ?_)
        intro v' w1 ho1 hg1
        have hb1 : Below w.heap.size w w1 := Below.own ((HB.out.alloc HB.out.size _).alloc (by rw [alloc_size]; have := HB.out.size; omega) _) HOwn2.out (Nat.le_refl _) HBase2.out hg1
        have HO1 := Lib.hid ho1
        have HB1 := Lib.hid hb1
        clear ho1 hg1 hb1
        go_wp2
        go_roundw
        case rel =>
          refine ⟨j + 1, l ++ [T], by go_num, by omega, HO1.out, by rw [List.length_append, HLen.out]; rfl, ?_, HB1.out⟩
          intro x hx
          rcases List.mem_append.1 hx with hx | hx
          · exact HAll.out x hx
          · obtain rfl : x = T := by simpa using hx
            exact Nat.le_trans HT8.out (by omega)
        case measure => simp [intOf]; omega
      · obtain ⟨w5, hw5⟩ : ∃ w5, w5 = wr := ⟨_, rfl⟩
        subst hw5
        have hjI : (ul : Int) ≤ (j : Int) := by omega
        have hd : decide ((j : Int) < (ul : Int)) = false := by simp; omega
        have hdN : decide (j < ul) = false := by simp; omega
        obtain ⟨ao, cap, rfl, hstr⟩ := HOwn.out.strs
        obtain ⟨ll, hll⟩ : ∃ ll, ll = l.length := ⟨_, rfl⟩
        rw [← hll] at HOwn
        rw [← hll]
        have HStr := Lib.hid hstr
        have HLL := Lib.hid hll
        clear hstr hll hju
        go_wp2
        go_loopw [18, 20, 47] (fun s18 s20 s47 wr => ∃ (i : Nat) (g : List Int), s47 = .int .i64 i ∧ i ≤ ml ∧ Own (Value.int .i64) 2 wr w5.heap.size s18 g ∧ g.length = i ∧ Below w5.heap.size w5 wr) (fun _ _ k _ => ml - (intOf k).toNat)
        case atStart => exact ⟨0, [], rfl, Nat.zero_le _, own_nil _ _ _ _, rfl, Below.refl _ _⟩
        case round =>
          obtain ⟨i, g, rfl, hi, hown, hlen, hb⟩ := hrel
          have HOwn3 := Lib.hid hown
          have HLen3 := Lib.hid hlen
          have HB3 := Lib.hid hb
          clear hown hlen hb
          by_cases him : i < ml
          · obtain ⟨x, hx⟩ : ∃ x, M[i]? = some x := ⟨_, List.getElem?_eq_getElem (by rw [HML.out]; exact him)⟩
            obtain ⟨mb, moff, rfl, hmb, dm⟩ := HM.out i x hx
            have hmb5 : mb < w5.heap.size := Nat.lt_of_lt_of_le hmb HB.out.size
            have g0 := (HB3.out.cell (p := ⟨mb, moff + i, none⟩) hmb5).trans ((HB.out.cell (p := ⟨mb, moff + i, none⟩) hmb).trans dm)
            obtain ⟨y, hy⟩ := mask20 x
            have iI : (i : Int) < (ml : Int) := by omega
            have hown2 := HOwn3.out.alloc (.cells #[.int .i64 (y : Int)] 2)
            have hcell := one_str wr wr.heap.size rfl (.int .i64 (y : Int)) 2
            have hbase2 : w5.heap.size ≤ (wr.alloc (.cells #[.int .i64 (y : Int)] 2)).heap.size := by
              have := HB3.out.size
              rw [alloc_size]
              omega
            have hl8 : g.length + 1 ≤ 8000000 := by rw [HLen3.out]; omega
            have HOwn4 := Lib.hid hown2
            have HCell := Lib.hid hcell
            have HBase2 := Lib.hid hbase2
            have HL8 := Lib.hid hl8
            clear hown2 hcell hbase2 hl8 dm hx
            go_wp2_with (at_builtin; refine list_own (Value.int .i64) (fun _ => rfl) 23 2 8 (.int .i64 0) Try.underlying23 info2 rfl (by rfl) (.tmp 50) (.tmp 56) rfl w5.heap.size g (y : Int) _ rfl HOwn4.out HBase2.out ⟨wr.heap.size, 0, none⟩ 1 rfl HCell.out HL8.out (by decide) ?_)
            intro v' w1 ho1 hg1
            have hb1 : Below w5.heap.size w5 w1 := Below.own (HB3.out.alloc HB3.out.size _) HOwn4.out (Nat.le_refl _) HBase2.out hg1
            have HO1 := Lib.hid ho1
            have HB1 := Lib.hid hb1
            clear ho1 hg1 hb1
            go_wp2
            go_roundw
            case rel =>
              have hlen5 : (g ++ [(y : Int)]).length = i + 1 := by rw [List.length_append, HLen3.out]; rfl
              exact ⟨i + 1, g ++ [(y : Int)], by go_num, by omega, HO1.out, hlen5, HB1.out⟩
            case measure => simp [intOf]; omega
          · obtain ⟨w6, hw6⟩ : ∃ w6, w6 = wr := ⟨_, rfl⟩
            subst hw6
            have hiI : (ml : Int) ≤ (i : Int) := by omega
            have hd2 : decide ((i : Int) < (ml : Int)) = false := by simp; omega
            obtain ⟨bo, cap2, rfl, hnum⟩ := HOwn3.out.nums
            obtain ⟨gl, hgl⟩ : ∃ gl, gl = g.length := ⟨_, rfl⟩
            rw [← hgl]
            have HB6 := Lib.hid (HB.out.trans (HB3.out.mono HB.out.size))
            have hN6 := HN.out.below HB6.out
            have hM6 := HM.out.below HB6.out
            have hstr6 := HStr.out.below HB3.out
            have hall := HAll.out
            have CV := Lib.hid (fun W => values_any W n r S b HR.out (by have := HS.out; omega))
            have C1 := Lib.hid (fun W (hB : Below w.heap.size w W) => configs_any W fa na ma fc nc mc F N M (HF.out.below hB) (HN.out.below hB) (HM.out.below hB) HG.out)
            have C2 := Lib.hid (fun W (hB : Below w6.heap.size w6 W) => configs_nil W ao bo cap cap2 l g (hstr6.below hB) (hnum.below hB) hall)
            have C3 := Lib.hid (fun W (hB : Below w6.heap.size w6 W) => configs_nil W ao ma cap mc l M (hstr6.below hB) (hM6.below hB) hall)
            rw [HFL.out, HNL.out, HML.out] at C1
            rw [← HLL.out, ← hgl] at C2
            rw [← HLL.out, HML.out] at C3
            clear hN6 hM6 hstr6 hall hnum him hgl
            go_wp2_with fail
            refine (CV.out _).mono ?_
            rintro e w7 ⟨rfl, hb⟩
            have HA7 := Lib.hid (HB6.out.trans (hb.mono HB6.out.size))
            have HC7 := Lib.hid hb
            clear hb
            go_wp2_with fail
            refine (C1.out _ HA7.out).mono ?_
            rintro e w8 ⟨rfl, hb⟩
            have HA8 := Lib.hid (step HA7.out hb)
            have HC8 := Lib.hid (step HC7.out hb)
            clear hb
            go_wp2_with fail
            refine (C2.out _ HC8.out).mono ?_
            rintro e w9 ⟨rfl, hb⟩
            have HA9 := Lib.hid (step HA8.out hb)
            have HC9 := Lib.hid (step HC8.out hb)
            clear hb
            go_wp2_with fail
            refine (C3.out _ HC9.out).mono ?_
            rintro e w10 ⟨rfl, hb⟩
            have HA10 := Lib.hid (step HA9.out hb)
            clear hb
            go_wp2_with fail
            refine (known_any _).mono ?_
            rintro e w11 ⟨rfl, hb⟩
            have HA11 := Lib.hid (step HA10.out hb)
            clear hb
            go_wp2
            go_ret
            exact ⟨rfl, HA11.out⟩
end Go.Proofs.Ytifogkacjfpipaa
