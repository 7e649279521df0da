/- Parts of a proof, merged: NameSmall, NameRight, Shelf, NameCount, NameUpper, NameFile, NameParse, NameRefSmall, NameRefCount, NameRefFile, NameRefParse, Row32, NameRefRunes, NameRefLess, SnNames, SnBases, SnSort, SnLatest. -/
import Derived.WalkKit
import Derived.BigCall
import Derived.Below
import Derived.Lib.Hide
import Derived.Deep.Light
import Derived.Test.YtgohekjkbgfeeaaGreatProg
import Derived.Lib.OthersKept
import Derived.Shelf.Small.Bits
import Derived.Shelf.Strconv.Itoa0
import Derived.Shelf.LaysM
import Derived.Shelf.Strconv.Clone
import Derived.Shelf.Strings.Search1
import Derived.Shelf.Strings.Search2
import Derived.Shelf.Strings.Search3
import Derived.Shelf.Strings.Cut
import Derived.Shelf.Strings.Shaped
import Derived.Shelf.SortM.Plain
import Derived.Shelf.SortM.SortNone
import Derived.BigQuiet
import Derived.Deep.QuietTactic
import Derived.Sort.OwnSortedInts
import Derived.Test.YtgohekjkbgfeeaaGreatKg17
import Derived.Test.YtgohekjkbgfeeaaGreatKg1
import Derived.Test.YtgohekjkbgfeeaaGreatKg15
namespace Go.Proofs.YtgohekjkbgfeeaaGreat
open Go.RowKit
open Go.RuneMath
set_option linter.unusedVariables false

def smallR (r : Nat) : Bool := decide (97 ≤ r ∧ r ≤ 122)
def digitR (r : Nat) : Bool := decide (48 ≤ r ∧ r ≤ 57)
theorem small_any (w : World) (r : Nat) : Calls Tryz.prog 149 #[.int .i32 (r : Int)] w fun e w' => e = .returned (.bool (smallR r)) ∧ w = w' := by
  obtain ⟨b, hb⟩ : ∃ b, b = smallR r := ⟨_, rfl⟩
  rw [← hb]
  have HB := Lib.hid hb
  clear hb
  go_enter Tryz.func149, Tryz.ntmps149
  go_wp2
  all_goals
    go_ret
    exact ⟨ret_bool (by rw [HB.out]; unfold smallR; rw [Bool.eq_iff_iff]; simp; omega), rfl⟩
theorem digit_any (w : World) (r : Nat) : Calls Tryz.prog 147 #[.int .i32 (r : Int)] w fun e w' => e = .returned (.bool (digitR r)) ∧ w = w' := by
  obtain ⟨b, hb⟩ : ∃ b, b = digitR r := ⟨_, rfl⟩
  rw [← hb]
  have HB := Lib.hid hb
  clear hb
  go_enter Tryz.func147, Tryz.ntmps147
  go_wp2
  all_goals
    go_ret
    exact ⟨ret_bool (by rw [HB.out]; unfold digitR; rw [Bool.eq_iff_iff]; simp; omega), rfl⟩
set_option maxHeartbeats 2000000 in
theorem allowed_any (w : World) (r : Nat) : Calls Tryz.prog 127 #[.int .i32 (r : Int)] w fun e w' => e = .returned (.bool (okR r)) ∧ w = w' := by
  obtain ⟨b, hb⟩ : ∃ b, b = okR r := ⟨_, rfl⟩
  rw [← hb]
  have HB := Lib.hid hb
  clear hb
  obtain ⟨s, hs⟩ : ∃ s, s = smallR r := ⟨_, rfl⟩
  obtain ⟨d, hd⟩ : ∃ d, d = digitR r := ⟨_, rfl⟩
  have CS0 := small_any w r
  have CD0 := digit_any w r
  rw [← hs] at CS0
  rw [← hd] at CD0
  have HS := Lib.hid hs
  have HD := Lib.hid hd
  have CS := Lib.hid CS0
  have CD := Lib.hid CD0
  clear hs hd CS0 CD0
  cases s <;> cases d
  all_goals
    go_enter Tryz.func127, Tryz.ntmps127
    go_wp2_with (first | (go_at_call 149; refine CS.out.mono ?_; rintro e w' ⟨rfl, rfl⟩) | (go_at_call 147; refine CD.out.mono ?_; rintro e w' ⟨rfl, rfl⟩))
    all_goals
      go_ret
      have e1 := HS.out
      have e2 := HD.out
      have e3 := HB.out
      clear HB HS HD CS CD
      unfold okR at e3
      unfold smallR at e1
      unfold digitR at e2
      refine ⟨ret_bool ?_, rfl⟩
      rw [e3, Bool.eq_iff_iff]
      clear e3
      go_light
      simp at *
      omega
end Go.Proofs.YtgohekjkbgfeeaaGreat
namespace Go.Proofs.YtgohekjkbgfeeaaGreat
open Go.RowKit
open Go.RuneMath
set_option linter.unusedVariables false

set_option maxHeartbeats 1000000 in
theorem right_any (w : World) (s : ByteArray) : Calls Tryz.prog 99 #[.string s] w (Rights s w) := by
  go_enter Tryz.func99, Tryz.ntmps99
  go_wp2
  go_loopw [3] (fun n wr => ∃ (pos m : Nat) (pre : List Nat), ItAt wr w.heap.size s pos ∧ Below w.heap.size w wr ∧ n = .int .i64 m ∧ m ≤ 40 ∧ pre.length = m ∧ runes s.data.toList = pre ++ rs s pos ∧ pre.all okR = true) (fun _ wr => s.size - wr.iterPos w.heap.size)
  case atStart => exact ⟨0, 0, [], it_start w s, (Below.refl _ w).alloc (Nat.le_refl _) _, rfl, by omega, rfl, by rw [rs_zero]; rfl, rfl⟩
  case round =>
    obtain ⟨pos, m, pre, hit, hbw, rfl, hm40, hlen, hsp, hall⟩ := hrel
    have HI := Lib.hid hit
    have HB := Lib.hid hbw
    have HL := Lib.hid hlen
    have HS := Lib.hid hsp
    have HA := Lib.hid hall
    clear hit hbw hlen hsp hall
    by_cases hp : pos < s.size
    · have hnx : ∀ ty, (Instr.next (.pointer (some ⟨w.heap.size, 0, none⟩)) true ty).run Tryz.prog wr = _ := fun ty => Lib.run_next_any_at wr w.heap.size s pos ty HI.out hp
      have HW := Lib.hid (Lib.width_pos s pos)
      have hst := HS.out
      rw [rs_step hp] at hst
      obtain ⟨r, hr⟩ : ∃ r, r = (Utf8.decode s pos).1 := ⟨_, rfl⟩
      obtain ⟨k, hk⟩ : ∃ k, k = (Utf8.decode s pos).2 := ⟨_, rfl⟩
      rw [← hr, ← hk] at hst
      rw [← hk] at HW
      simp only [← hr, ← hk] at hnx
      have HT := Lib.hid hst
      clear hst hr hk
      obtain ⟨b, hb⟩ : ∃ b, b = okR r := ⟨_, rfl⟩
      have CA0 := fun W => allowed_any W r
      rw [← hb] at CA0
      have CA := Lib.hid CA0
      have HK := Lib.hid hb
      clear CA0 hb
      by_cases h40 : m = 40
      · have HF : Hid (false = rightB s.data.toList) := (right_many HT.out (by rw [HL.out]; exact h40)).symm
        subst h40
        go_wp2
        go_ret
        exact rights_mk HF.out (Lib.below_iterAt HB.out (Nat.le_refl _) s _)
      · have hm1 : m + 1 ≤ 40 := by omega
        cases b
        · have HF : Hid (false = rightB s.data.toList) := (right_bad HT.out HK.out.symm).symm
          go_wp2_with (go_at_call 127; refine (CA.out _).mono ?_; rintro e w' ⟨rfl, rfl⟩)
          all_goals first
            | (exfalso; omega)
            | (go_ret; exact rights_mk HF.out (Lib.below_iterAt HB.out (Nat.le_refl _) s _))
        · go_wp2_with (go_at_call 127; refine (CA.out _).mono ?_; rintro e w' ⟨rfl, rfl⟩)
          all_goals first
            | (exfalso; omega)
            | (go_roundw
               case rel => exact ⟨pos + k, m + 1, pre ++ [r], it_next HI.out _, Lib.below_iterAt HB.out (Nat.le_refl _) s _, by go_num, hm1, by rw [List.length_append, HL.out]; rfl, split_snoc HT.out, all_snoc HA.out HK.out.symm⟩
               case measure =>
                 rw [it_pos (it_next HI.out _), it_pos HI.out]
                 have := HW.out
                 omega)
    · have hnx : ∀ ty, (Instr.next (.pointer (some ⟨w.heap.size, 0, none⟩)) true ty).run Tryz.prog wr = _ := fun ty => Lib.run_next_end_at wr w.heap.size s pos ty HI.out hp
      have HF : Hid (decide (0 < m) = rightB s.data.toList) := by
        show _ = _
        unfold rightB rightR
        rw [HS.out, rs_end hp, List.append_nil, HA.out, HL.out, Bool.eq_iff_iff]
        simp
        omega
      go_wp2
      go_ret
      exact rights_mk HF.out HB.out
end Go.Proofs.YtgohekjkbgfeeaaGreat
namespace Go.Proofs
open Go.Shelf
def Tryz.laysM316_ren : Go.Shelf.Ren := ⟨fun | 316 => 148 | n => n, fun | 9 => 9 | 3 => 3 | 4 => 4 | 37 => 31 | 0 => 0 | 127 => 187 | 5 => 5 | n => n, fun | n => n⟩
theorem Tryz.laysM316 : Go.Proofs.LaysM.n316 Tryz.prog Tryz.laysM316_ren := {
  mixed := by kernel_rfl
  f316 := Tryz.func148.trans (congrArg some (by kernel_rfl))
  t0 := Tryz.underlying0
  a0 := Tryz.isAgg0
  z0 := Tryz.sizeOf0
  v0 := Tryz.zeroValue0
  t3 := Tryz.underlying3
  a3 := Tryz.isAgg3
  z3 := Tryz.sizeOf3
  v3 := Tryz.zeroValue3
  t4 := Tryz.underlying4
  a4 := Tryz.isAgg4
  z4 := Tryz.sizeOf4
  v4 := Tryz.zeroValue4
  t9 := Tryz.underlying9
  a9 := Tryz.isAgg9
  z9 := Tryz.sizeOf9
  v9 := Tryz.zeroValue9
  t37 := Tryz.underlying31
  a37 := Tryz.isAgg31
  z37 := Tryz.sizeOf31
  v37 := Tryz.zeroValue31
  t127 := Tryz.underlying187
  a127 := Tryz.isAgg187
  z127 := Tryz.sizeOf187
  v127 := Tryz.zeroValue187
  t5 := Tryz.underlying5
  a5 := Tryz.isAgg5
  z5 := Tryz.sizeOf5
  v5 := Tryz.zeroValue5
  i0 := by kernel_rfl
  i3 := by kernel_rfl
  i4 := by kernel_rfl
  i5 := by kernel_rfl
  i9 := by kernel_rfl
  i37 := by kernel_rfl
  i127 := by kernel_rfl }
open Go.RowKit in
theorem Tryz.stringslite_Clone (s : ByteArray) (w : World) (hlim : s.size ≤ 281474976710656) :
    Calls Tryz.prog 148 #[.string s] w fun e w' => e = .returned (.string s) ∧ Below w.heap.size w w' := Any.stringslite_Clone Tryz.laysM316 s w hlim
def Tryz.lays219_ren : Go.Shelf.Ren := ⟨fun | 219 => 150 | 217 => 160 | 225 => 161 | 224 => 162 | 267 => 163 | 266 => 165 | 314 => 166 | n => n, fun | 9 => 9 | 3 => 3 | 4 => 4 | 5 => 5 | 46 => 36 | 146 => 192 | 51 => 82 | n => n, fun | 1 => 0 | n => n⟩
theorem Tryz.lays219 : Go.Proofs.Lays.n219 Tryz.prog Tryz.lays219_ren := {
  mixed := by kernel_rfl
  f217 := Tryz.func160.trans (congrArg some (by kernel_rfl))
  f219 := Tryz.func150.trans (congrArg some (by kernel_rfl))
  f224 := Tryz.func162.trans (congrArg some (by kernel_rfl))
  f225 := Tryz.func161.trans (congrArg some (by kernel_rfl))
  f266 := Tryz.func165.trans (congrArg some (by kernel_rfl))
  f267 := Tryz.func163.trans (congrArg some (by kernel_rfl))
  f314 := Tryz.func166.trans (congrArg some (by kernel_rfl))
  t3 := Tryz.underlying3
  a3 := Tryz.isAgg3
  z3 := Tryz.sizeOf3
  v3 := Tryz.zeroValue3
  t4 := Tryz.underlying4
  a4 := Tryz.isAgg4
  z4 := Tryz.sizeOf4
  v4 := Tryz.zeroValue4
  t5 := Tryz.underlying5
  a5 := Tryz.isAgg5
  z5 := Tryz.sizeOf5
  v5 := Tryz.zeroValue5
  t9 := Tryz.underlying9
  a9 := Tryz.isAgg9
  z9 := Tryz.sizeOf9
  v9 := Tryz.zeroValue9
  t46 := Tryz.underlying36
  a46 := Tryz.isAgg36
  z46 := Tryz.sizeOf36
  v46 := Tryz.zeroValue36
  t51 := Tryz.underlying82
  a51 := Tryz.isAgg82
  z51 := Tryz.sizeOf82
  v51 := Tryz.zeroValue82
  t146 := Tryz.underlying192
  a146 := Tryz.isAgg192
  z146 := Tryz.sizeOf192
  v146 := Tryz.zeroValue192
  g1 := by kernel_rfl }
open Go.RowKit Go.Lib in
theorem Tryz.stringslite_Index_one (s : ByteArray) (c : UInt8) (w : World) :
    Calls Tryz.prog 150 #[.string s, .string ⟨#[c]⟩] w fun e w' => e = .returned (.int .i64 (Lib.indexByte s.data.toList c)) ∧ w' = w := Any.stringslite_Index_one Tryz.lays219 s c w
def Tryz.lays144_ren : Go.Shelf.Ren := ⟨fun | 144 => 100 | 143 => 128 | 219 => 150 | 217 => 160 | 225 => 161 | 224 => 162 | 267 => 163 | 266 => 165 | 314 => 166 | n => n, fun | 9 => 9 | 4 => 4 | 3 => 3 | 5 => 5 | 46 => 36 | 146 => 192 | 51 => 82 | n => n, fun | 1 => 0 | n => n⟩
theorem Tryz.lays144 : Go.Proofs.Lays.n144 Tryz.prog Tryz.lays144_ren := {
  mixed := by kernel_rfl
  f143 := Tryz.func128.trans (congrArg some (by kernel_rfl))
  f144 := Tryz.func100.trans (congrArg some (by kernel_rfl))
  f217 := Tryz.func160.trans (congrArg some (by kernel_rfl))
  f219 := Tryz.func150.trans (congrArg some (by kernel_rfl))
  f224 := Tryz.func162.trans (congrArg some (by kernel_rfl))
  f225 := Tryz.func161.trans (congrArg some (by kernel_rfl))
  f266 := Tryz.func165.trans (congrArg some (by kernel_rfl))
  f267 := Tryz.func163.trans (congrArg some (by kernel_rfl))
  f314 := Tryz.func166.trans (congrArg some (by kernel_rfl))
  t3 := Tryz.underlying3
  a3 := Tryz.isAgg3
  z3 := Tryz.sizeOf3
  v3 := Tryz.zeroValue3
  t4 := Tryz.underlying4
  a4 := Tryz.isAgg4
  z4 := Tryz.sizeOf4
  v4 := Tryz.zeroValue4
  t5 := Tryz.underlying5
  a5 := Tryz.isAgg5
  z5 := Tryz.sizeOf5
  v5 := Tryz.zeroValue5
  t9 := Tryz.underlying9
  a9 := Tryz.isAgg9
  z9 := Tryz.sizeOf9
  v9 := Tryz.zeroValue9
  t46 := Tryz.underlying36
  a46 := Tryz.isAgg36
  z46 := Tryz.sizeOf36
  v46 := Tryz.zeroValue36
  t51 := Tryz.underlying82
  a51 := Tryz.isAgg82
  z51 := Tryz.sizeOf82
  v51 := Tryz.zeroValue82
  t146 := Tryz.underlying192
  a146 := Tryz.isAgg192
  z146 := Tryz.sizeOf192
  v146 := Tryz.zeroValue192
  g1 := by kernel_rfl }
open Go.RowKit Go.Lib in
theorem Tryz.strings_Contains_one (s : ByteArray) (c : UInt8) (w : World) :
    Calls Tryz.prog 100 #[.string s, .string ⟨#[c]⟩] w fun e w' => e = .returned (.bool (decide (0 ≤ Lib.indexByte s.data.toList c))) ∧ w' = w := Any.strings_Contains_one Tryz.lays144 s c w
def Tryz.laysSlM5_f68_ren : Go.Shelf.Ren := ⟨fun | 5 => 68 | 8 => 103 | 7 => 102 | 19 => 138 | 20 => 139 | 10 => 129 | 11 => 130 | 12 => 131 | 13 => 132 | 14 => 133 | 15 => 134 | 16 => 135 | 17 => 136 | 18 => 137 | 30 => 151 | 31 => 152 | 32 => 153 | 33 => 154 | 34 => 155 | 35 => 156 | 40 => 164 | n => n, fun | 23 => 42 | 25 => 2 | 3 => 3 | 32 => 36 | 22 => 42 | 0 => 0 | 44 => 82 | 46 => 119 | 4 => 4 | 36 => 170 | 35 => 169 | 41 => 116 | 5 => 5 | 9 => 9 | 53 => 180 | 57 => 184 | 63 => 189 | 64 => 190 | n => n, fun | n => n⟩
theorem Tryz.laysSlM5_f68 : Go.Proofs.SlLaysM.n5 Tryz.prog Tryz.laysSlM5_f68_ren := {
  mixed := by kernel_rfl
  f5 := ⟨Tryz.f68.name, by decide, Tryz.func68.trans (congrArg some (by kernel_rfl))⟩
  f7 := ⟨Tryz.f102.name, by decide, Tryz.func102.trans (congrArg some (by kernel_rfl))⟩
  f8 := Tryz.func103.trans (congrArg some (by kernel_rfl))
  f10 := ⟨Tryz.f129.name, by decide, Tryz.func129.trans (congrArg some (by kernel_rfl))⟩
  f11 := ⟨Tryz.f130.name, by decide, Tryz.func130.trans (congrArg some (by kernel_rfl))⟩
  f12 := ⟨Tryz.f131.name, by decide, Tryz.func131.trans (congrArg some (by kernel_rfl))⟩
  f13 := ⟨Tryz.f132.name, by decide, Tryz.func132.trans (congrArg some (by kernel_rfl))⟩
  f14 := ⟨Tryz.f133.name, by decide, Tryz.func133.trans (congrArg some (by kernel_rfl))⟩
  f15 := ⟨Tryz.f134.name, by decide, Tryz.func134.trans (congrArg some (by kernel_rfl))⟩
  f16 := ⟨Tryz.f135.name, by decide, Tryz.func135.trans (congrArg some (by kernel_rfl))⟩
  f17 := ⟨Tryz.f136.name, by decide, Tryz.func136.trans (congrArg some (by kernel_rfl))⟩
  f18 := ⟨Tryz.f137.name, by decide, Tryz.func137.trans (congrArg some (by kernel_rfl))⟩
  f19 := Tryz.func138.trans (congrArg some (by kernel_rfl))
  f20 := Tryz.func139.trans (congrArg some (by kernel_rfl))
  f30 := ⟨Tryz.f151.name, by decide, Tryz.func151.trans (congrArg some (by kernel_rfl))⟩
  f31 := Tryz.func152.trans (congrArg some (by kernel_rfl))
  f32 := Tryz.func153.trans (congrArg some (by kernel_rfl))
  f33 := ⟨Tryz.f154.name, by decide, Tryz.func154.trans (congrArg some (by kernel_rfl))⟩
  f34 := ⟨Tryz.f155.name, by decide, Tryz.func155.trans (congrArg some (by kernel_rfl))⟩
  f35 := ⟨Tryz.f156.name, by decide, Tryz.func156.trans (congrArg some (by kernel_rfl))⟩
  f40 := ⟨Tryz.f164.name, by decide, Tryz.func164.trans (congrArg some (by kernel_rfl))⟩
  t0 := Tryz.underlying0
  a0 := Tryz.isAgg0
  z0 := Tryz.sizeOf0
  v0 := Tryz.zeroValue0
  t3 := Tryz.underlying3
  a3 := Tryz.isAgg3
  z3 := Tryz.sizeOf3
  v3 := Tryz.zeroValue3
  t4 := Tryz.underlying4
  a4 := Tryz.isAgg4
  z4 := Tryz.sizeOf4
  v4 := Tryz.zeroValue4
  t5 := Tryz.underlying5
  a5 := Tryz.isAgg5
  z5 := Tryz.sizeOf5
  v5 := Tryz.zeroValue5
  t9 := Tryz.underlying9
  a9 := Tryz.isAgg9
  z9 := Tryz.sizeOf9
  v9 := Tryz.zeroValue9
  t22 := Tryz.underlying42
  a22 := Tryz.isAgg42
  z22 := Tryz.sizeOf42
  v22 := Tryz.zeroValue42
  t23 := Tryz.underlying42
  a23 := Tryz.isAgg42
  z23 := Tryz.sizeOf42
  v23 := Tryz.zeroValue42
  t25 := Tryz.underlying2
  a25 := Tryz.isAgg2
  z25 := Tryz.sizeOf2
  v25 := Tryz.zeroValue2
  t32 := Tryz.underlying36
  a32 := Tryz.isAgg36
  z32 := Tryz.sizeOf36
  v32 := Tryz.zeroValue36
  t35 := Tryz.underlying169
  a35 := Tryz.isAgg169
  z35 := Tryz.sizeOf169
  v35 := Tryz.zeroValue169
  t36 := Tryz.underlying170
  a36 := Tryz.isAgg170
  z36 := Tryz.sizeOf170
  v36 := Tryz.zeroValue170
  t41 := Tryz.underlying116
  a41 := Tryz.isAgg116
  z41 := Tryz.sizeOf116
  v41 := Tryz.zeroValue116
  t44 := Tryz.underlying82
  a44 := Tryz.isAgg82
  z44 := Tryz.sizeOf82
  v44 := Tryz.zeroValue82
  t46 := Tryz.underlying119
  a46 := Tryz.isAgg119
  z46 := Tryz.sizeOf119
  v46 := Tryz.zeroValue119
  t53 := Tryz.underlying180
  a53 := Tryz.isAgg180
  z53 := Tryz.sizeOf180
  v53 := Tryz.zeroValue180
  t57 := Tryz.underlying184
  a57 := Tryz.isAgg184
  z57 := Tryz.sizeOf184
  v57 := Tryz.zeroValue184
  t63 := Tryz.underlying189
  a63 := Tryz.isAgg189
  z63 := Tryz.sizeOf189
  v63 := Tryz.zeroValue189
  t64 := Tryz.underlying190
  a64 := Tryz.isAgg190
  z64 := Tryz.sizeOf190
  v64 := Tryz.zeroValue190 }
open Go.Sort Go.RowKit in
theorem Tryz.slices_Sort_int (blk off cap : Nat) (zs : List Int) (w : World) (hH : Holds (Value.int .i64) w blk off zs.toArray) (hblk : blk < w.heap.size) (hsz : zs.length < 4611686018427387904) :
    Calls Tryz.prog 68 #[.slice (some ⟨blk, off, none⟩) zs.length cap] w fun e w' =>
      e = .returned (.tuple #[]) ∧ ∃ n os, w' = grow (putRow (Value.int .i64) (Sort.ahead w n) blk off (zs.mergeSort fun x y => decide (x ≤ y)).toArray) os := AnyM.slices_Sort_int Tryz.laysSlM5_f68 blk off cap zs w hH hblk hsz
open Go.RowKit Go.Sort in
theorem Tryz.slices_Sort_int_none (p : Option Addr) (cap : Nat) (w : World) :
    Calls Tryz.prog 68 #[.slice p 0 cap] w fun e w' => e = .returned (.tuple #[]) ∧ w' = w := AnyM.slices_Sort_int_none Tryz.laysSlM5_f68 p cap w
end Go.Proofs
namespace Go.Proofs.YtgohekjkbgfeeaaGreat
open Go.RowKit
open Go.RuneMath
set_option linter.unusedVariables false

def bs (l : List UInt8) : ByteArray := ⟨l.toArray⟩
theorem bs_list (l : List UInt8) : (bs l).data.toList = l := rfl
theorem bs_self (s : ByteArray) : bs s.data.toList = s := Lib.ofBytes s
theorem bs_append (a b : List UInt8) : bs a ++ bs b = bs (a ++ b) := by
  unfold bs
  apply ByteArray.ext
  simp
theorem bs_size (l : List UInt8) : (bs l).size = l.length := by unfold bs; simp [ByteArray.size]
theorem bs_inj {a b : List UInt8} (h : bs a = bs b) : a = b := by
  have := congrArg (fun x => x.data.toList) h
  exact this
theorem encode_bs {r : Nat} (h : Scal r) : Utf8.encode (r : Int) = bs (enc r) := by
  have hv : Utf8.valid (r : Int) = true := by
    unfold Scal at h
    unfold Utf8.valid
    simp
    omega
  unfold Scal at h
  unfold Utf8.encode enc Lib.encodeRune
  rw [if_pos hv]
  simp only [Int.toNat_natCast]
  by_cases h1 : r < 128
  · rw [if_pos (by omega), Lib.encodeRuneZ_one (by omega) (by omega)]
    simp [bs]
  · by_cases h2 : r < 2048
    · rw [if_neg (by omega), if_pos (by omega), Lib.encodeRuneZ_two (by omega) (by omega)]
      unfold bs
      congr 1
    · by_cases h3 : r < 65536
      · rw [if_neg (by omega), if_neg (by omega), if_pos (by omega), Lib.encodeRuneZ_three (by omega)]
        unfold bs
        congr 1
      · rw [if_neg (by omega), if_neg (by omega), if_neg (by omega), Lib.encodeRuneZ_four (by omega) (by omega)]
        unfold bs
        congr 1

end Go.Proofs.YtgohekjkbgfeeaaGreat
namespace Go.Proofs.YtgohekjkbgfeeaaGreat
open Go.RowKit
open Go.RuneMath
set_option linter.unusedVariables false

/-- A block that is an array of bytes. -/
def Arr (w : World) (b : Nat) (l : List UInt8) : Prop := w.heap[b]? = some (.cells (Lib.byteCells l).toArray 167 (0, 0))
theorem arr_cell {w : World} {b : Nat} {l : List UInt8} (h : Arr w b l) (i : Nat) (hi : i < l.length) : w.cell? ⟨b, i, none⟩ = some (.int .u8 ((l.getD i 0).toNat : Int)) := by
  rw [cell_of_row w b i _ _ _ h]
  simp [Lib.byteCells, hi]
theorem arr_free {w : World} {b : Nat} {l : List UInt8} (h : Arr w b l) (i : Nat) : w.frozen? ⟨b, i, none⟩ = false := frozen_of_row w b i _ _ h
theorem arr_set {w : World} {b : Nat} {l : List UInt8} (h : Arr w b l) (i : Nat) (c : UInt8) : Arr (w.setCell ⟨b, i, none⟩ (.int .u8 (c.toNat : Int))) b (l.set i c) := by
  have := heap_setCell_same w b i _ _ (.int .u8 (c.toNat : Int)) h
  unfold Arr
  rw [this]
  congr 2
  simp [Lib.byteCells]
theorem arr_byt {w : World} {b : Nat} {l : List UInt8} (h : Arr w b l) : Byt w (some ⟨b, 0, none⟩) l.length l.length (l.map (·.toNat)) := by
  refine ⟨by simp, Nat.le_refl _, ?_, .inr ⟨b, 0, rfl, fun i hi => ?_⟩⟩
  · intro x hx
    obtain ⟨c, _, rfl⟩ := List.mem_map.1 hx
    exact c.toNat_lt
  · rw [Nat.zero_add, arr_cell h i hi]
    simp [hi]
theorem str_bs (l : List UInt8) : str (l.map (·.toNat)) = bs l := by
  unfold str bs
  rw [List.map_map]
  congr 2
  conv => rhs; rw [← List.map_id l]
  apply List.map_congr_left
  intro c _
  simp
theorem set_pad {i : Nat} (hi : i < 20) (suf : List UInt8) (c : UInt8) : (List.replicate (20 - i) (0 : UInt8) ++ suf).set (19 - i) c = List.replicate (20 - (i + 1)) (0 : UInt8) ++ (c :: suf) := by
  have e : 20 - i = (20 - (i + 1)) + 1 := by omega
  rw [e, List.replicate_succ', List.append_assoc, List.set_append]
  rw [if_neg (by simp), show 19 - i - (List.replicate (20 - (i + 1)) (0 : UInt8)).length = 0 by simp]
  rfl
theorem dig_more {n m i : Nat} {suf : List UInt8} (hi : i < 20) (h : dig n 20 = dig m (20 - i) ++ suf) : dig n 20 = dig (m / 10) (20 - (i + 1)) ++ (UInt8.ofNat (48 + m % 10) :: suf) := by
  have e : 20 - i = (20 - (i + 1)) + 1 := by omega
  rw [h, e, dig, List.append_assoc]
  rfl
def PadR (n : Nat) (w wr : World) (i m : Nat) : Prop := ∃ suf : List UInt8, Arr wr w.heap.size (List.replicate (20 - i) 0 ++ suf) ∧ suf.length = i ∧ dig n 20 = dig m (20 - i) ++ suf ∧ Below w.heap.size w wr
theorem PadR.cell {n i m : Nat} {w wr : World} (h : PadR n w wr i m) (hi : i < 20) : ∃ x : Int, wr.cell? ⟨w.heap.size, 19 - i, none⟩ = some (.int .u8 x) := by
  obtain ⟨suf, ha, hs, _⟩ := h
  exact ⟨_, arr_cell ha (19 - i) (by rw [List.length_append, List.length_replicate, hs]; omega)⟩
theorem PadR.free {n i m : Nat} {w wr : World} (h : PadR n w wr i m) (j : Nat) : wr.frozen? ⟨w.heap.size, j, none⟩ = false := by
  obtain ⟨suf, ha, hs, _⟩ := h
  exact arr_free ha j
theorem PadR.next {n i m j : Nat} {w wr : World} {x : Int} (h : PadR n w wr i m) (hi : i < 20) (hj : j = 19 - i) (hx : x = 48 + (m % 10 : Nat)) : PadR n w (wr.setCell ⟨w.heap.size, j, none⟩ (.int .u8 x)) (i + 1) (m / 10) := by
  obtain ⟨suf, ha, hs, hd, hb⟩ := h
  have e : x = ((UInt8.ofNat (48 + m % 10)).toNat : Int) := by
    rw [digit_nat, hx]
    omega
  subst hj
  refine ⟨UInt8.ofNat (48 + m % 10) :: suf, ?_, by simp [hs], dig_more hi hd, hb.setCell (p := ⟨w.heap.size, 19 - i, none⟩) (Nat.le_refl _) _⟩
  rw [← set_pad hi, e]
  exact arr_set ha _ _
theorem PadR.start (n : Nat) (w : World) (o : Obj) (ho : o = .cells (Lib.byteCells (List.replicate 20 0)).toArray 167 (0, 0)) : PadR n w (w.alloc o) 0 n := by
  subst ho
  refine ⟨[], ?_, rfl, by simp, (Below.refl _ w).alloc (Nat.le_refl _) _⟩
  exact heap_alloc_new w _
theorem PadR.done {n m : Nat} {w wr : World} (h : PadR n w wr 20 m) : Byt wr (some ⟨w.heap.size, 0, none⟩) 20 20 ((dig n 20).map (·.toNat)) ∧ Below w.heap.size w wr := by
  obtain ⟨suf, ha, hs, hd, hb⟩ := h
  rw [show 20 - 20 = 0 from rfl, List.replicate_zero, List.nil_append] at ha
  rw [show 20 - 20 = 0 from rfl, dig, List.nil_append] at hd
  refine ⟨?_, hb⟩
  have := arr_byt ha
  rw [hs] at this
  rw [hd]
  exact this
def padS (n : Nat) : ByteArray := bs (dig n 20)
def Pads (n : Nat) (w : World) (e : Ending) (w' : World) : Prop := e = .returned (.string (padS n)) ∧ Below w.heap.size w w'
set_option maxHeartbeats 400000 in
set_option maxRecDepth 100000 in
theorem padded_any (w : World) (n : Nat) (hn : n ≤ 1099511627776) : Calls Tryz.prog 101 #[.int .i64 (n : Int)] w (Pads n w) := by
  go_enter Tryz.func101, Tryz.ntmps101
  go_wp2
  go_loopw [0, 5] (fun v0 v5 wr => ∃ (i m : Nat), i ≤ 20 ∧ v0 = .int .i64 m ∧ v5 = .int .i64 i ∧ m ≤ 1099511627776 ∧ PadR n w wr i m) (fun _ v5 _ => 20 - (intOf v5).toNat)
  case atStart =>
    refine ⟨0, n, by omega, rfl, rfl, hn, ?_⟩
    exact PadR.start n w _ rfl
  case round =>
    obtain ⟨i, m, hi, rfl, rfl, hm, hpad⟩ := hrel
    have HP := Lib.hid hpad
    clear hpad
    by_cases h20 : i < 20
    · obtain ⟨x, hc⟩ := HP.out.cell h20
      have hf := HP.out.free (19 - i)
      obtain ⟨d, hde⟩ : ∃ d, d = m % 10 := ⟨_, rfl⟩
      obtain ⟨q, hqe⟩ : ∃ q, q = m / 10 := ⟨_, rfl⟩
      have hd10 : d < 10 := by omega
      have hq10 : q ≤ 1099511627776 := by omega
      have hsub : (19 : Int) - (i : Int) = ((19 - i : Nat) : Int) := by omega
      have hmod : (m : Int) % 10 = (d : Int) := by omega
      have hdiv : (m : Int) / 10 = (q : Int) := by omega
      have hlt : 19 - i < 20 := by omega
      have HDE := Lib.hid hde
      have HQE := Lib.hid hqe
      clear hde hqe
      obtain ⟨j, hj⟩ : ∃ j, j = 19 - i := ⟨_, rfl⟩
      rw [← hj] at hsub hc hf hlt
      have HJ := Lib.hid hj
      clear hj
      go_wp2
      go_roundw
      case rel => exact ⟨i + 1, q, by omega, rfl, by go_num, hq10, by rw [HQE.out]; exact HP.out.next h20 HJ.out (by rw [← HDE.out])⟩
      case measure => simp [intOf]; omega
    · obtain rfl : i = 20 := by omega
      have hcv := run_str_at HP.out.done.1 (str_bs _).symm
      rw [show bs (dig n 20) = padS n from rfl] at hcv
      go_wp2
      go_ret
      exact ⟨rfl, HP.out.done.2⟩

/-! ### File -/
def fileV (n : Int) (k : ByteArray) : ByteArray := bs (fileS n k.data.toList)
def fileO (n : Int) (k : ByteArray) : Bool := okFile n k.data.toList
def Files (n : Int) (k : ByteArray) (w : World) (e : Ending) (w' : World) : Prop := e = .returned (.tuple #[.string (fileV n k), .bool (fileO n k)]) ∧ Below w.heap.size w w'
theorem files_no {n : Int} {k : ByteArray} {w w' : World} (h : okFile n k.data.toList = false) (hb : Below w.heap.size w w') : Files n k w (.returned (.tuple #[.string ⟨#[]⟩, .bool false])) w' := by
  refine ⟨?_, hb⟩
  unfold fileV fileO fileS
  rw [h]
  rfl
theorem file_val {n : Nat} {k : ByteArray} (h : okFile n k.data.toList = true) : padS n ++ ⟨#[46]⟩ ++ k = fileV n k := by
  unfold fileV fileS
  rw [if_pos h]
  conv => lhs; rw [← bs_self k]
  show bs (dig n 20) ++ bs [46] ++ bs k.data.toList = _
  rw [bs_append, bs_append, List.append_assoc]
  rfl
theorem files_yes {n : Nat} {k : ByteArray} {w w' : World} {s : ByteArray} (h : okFile n k.data.toList = true) (hs : s = padS n ++ ⟨#[46]⟩ ++ k) (hb : Below w.heap.size w w') : Files n k w (.returned (.tuple #[.string s, .bool true])) w' := by
  refine ⟨?_, hb⟩
  rw [hs, file_val h]
  unfold fileO
  rw [h]
theorem padS_size (n : Nat) : (padS n).size = 20 := by unfold padS; rw [bs_size, dig_len]
theorem contains_index : ∀ (l : List UInt8) (c : UInt8), decide (0 ≤ Lib.indexByte l c) = l.contains c
  | [], c => by simp [Lib.indexByte]
  | b :: l, c => by
    have ih := contains_index l c
    have hg := Lib.indexByte_ge l c
    unfold Lib.indexByte
    by_cases h : b = c
    · subst h
      simp
    · have h1 : (b == c) = false := by simpa using h
      have h2 : (c == b) = false := by simpa using fun e => h e.symm
      rw [h1, List.contains_cons, h2, Bool.false_or, ← ih]
      by_cases h3 : Lib.indexByte l c = -1
      · rw [h3]
        rfl
      · have h4 : (Lib.indexByte l c == -1) = false := by simpa using h3
        rw [h4, Bool.eq_iff_iff]
        simp
        omega
theorem ok_neg {n : Int} {l : List UInt8} (h : n < 0 ∨ 1099511627776 < n) : okFile n l = false := by
  unfold okFile
  rcases h with h | h
  · rw [decide_eq_false (show ¬ 0 ≤ n by omega)]; rfl
  · rw [decide_eq_false (show ¬ n ≤ 1099511627776 by omega)]; simp
theorem ok_right {n : Int} {l : List UInt8} (h : rightB l = false) : okFile n l = false := by
  unfold okFile
  rw [h]; simp
theorem ok_dot {n : Int} {l : List UInt8} (h : l.contains 46 = true) : okFile n l = false := by
  unfold okFile
  rw [h]; simp
theorem ok_yes {n : Int} {l : List UInt8} (h0 : 0 ≤ n) (h1 : n ≤ 1099511627776) (h2 : rightB l = true) (h3 : l.contains 46 = false) : okFile n l = true := by
  unfold okFile
  rw [h2, h3, decide_eq_true h0, decide_eq_true h1]; rfl
set_option maxHeartbeats 400000 in
set_option maxRecDepth 100000 in
theorem file_any (w : World) (n : Int) (k : ByteArray) (hk : k.size ≤ 1073741824) : Calls Tryz.prog 67 #[.int .i64 n, .string k] w (Files n k w) := by
  by_cases h0 : n < 0
  · have HF := Lib.hid (ok_neg (l := k.data.toList) (.inl h0))
    go_enter Tryz.func67, Tryz.ntmps67
    go_wp2
    go_ret2
    exact files_no HF.out (Below.refl _ _)
  · by_cases h1 : 1099511627776 < n
    · have HF := Lib.hid (ok_neg (l := k.data.toList) (.inr h1))
      go_enter Tryz.func67, Tryz.ntmps67
      go_wp2
      go_ret2
      exact files_no HF.out (Below.refl _ _)
    · obtain ⟨m, rfl⟩ : ∃ m : Nat, n = m := ⟨n.toNat, by omega⟩
      have hm : m ≤ 1099511627776 := by omega
      clear h0 h1
      have CR0 := fun W => right_any W k
      unfold Rights at CR0
      obtain ⟨r, hr⟩ : ∃ r, r = rightB k.data.toList := ⟨_, rfl⟩
      rw [← hr] at CR0
      have CR := Lib.hid CR0
      have HR := Lib.hid hr
      clear CR0 hr
      cases r
      · have HF := Lib.hid (ok_right (n := m) HR.out.symm)
        go_enter Tryz.func67, Tryz.ntmps67
        go_wp2_with fail
        refine (CR.out _).mono ?_
        rintro e w1 ⟨rfl, hb1⟩
        have HB1 := Lib.hid hb1
        clear hb1
        go_wp2
        go_ret2
        exact files_no HF.out HB1.out
      · have CC0 := fun W => Tryz.strings_Contains_one k 46 W
        rw [contains_index] at CC0
        obtain ⟨c, hc⟩ : ∃ c, c = k.data.toList.contains 46 := ⟨_, rfl⟩
        rw [← hc] at CC0
        have CC := Lib.hid CC0
        have HC := Lib.hid hc
        clear CC0 hc
        cases c
        · have HF := Lib.hid (ok_yes (n := m) (by omega) (by omega) HR.out.symm HC.out.symm)
          go_enter Tryz.func67, Tryz.ntmps67
          go_wp2_with fail
          refine (CR.out _).mono ?_
          rintro e w1 ⟨rfl, hb1⟩
          have HB1 := Lib.hid hb1
          clear hb1
          go_wp2_with fail
          refine (CC.out _).mono ?_
          rintro e w' ⟨rfl, rfl⟩
          go_wp2_with fail
          refine (padded_any _ m hm).mono ?_
          rintro e w2 ⟨rfl, hb2⟩
          have HB2 := Lib.hid hb2
          clear hb2
          obtain ⟨S, hS⟩ : ∃ S, S = padS m := ⟨_, rfl⟩
          have hz : S.size ≤ 20 := by rw [hS, padS_size]; exact Nat.le_refl _
          rw [← hS]
          have HS := Lib.hid hS
          clear hS
          go_wp2
          go_ret2
          exact files_yes HF.out (by rw [HS.out]) (step HB1.out HB2.out)
        · have HF := Lib.hid (ok_dot (n := m) HC.out.symm)
          go_enter Tryz.func67, Tryz.ntmps67
          go_wp2_with fail
          refine (CR.out _).mono ?_
          rintro e w1 ⟨rfl, hb1⟩
          have HB1 := Lib.hid hb1
          clear hb1
          go_wp2_with fail
          refine (CC.out _).mono ?_
          rintro e w' ⟨rfl, rfl⟩
          go_wp2
          go_ret2
          exact files_no HF.out HB1.out
end Go.Proofs.YtgohekjkbgfeeaaGreat
namespace Go.Proofs.YtgohekjkbgfeeaaGreat
open Go.RowKit
open Go.RuneMath
set_option linter.unusedVariables false

def cutF (l : List UInt8) : List UInt8 := l.takeWhile (· != 46)
def cutK (l : List UInt8) : List UInt8 := (l.dropWhile (· != 46)).drop 1
theorem idx_miss : ∀ (l : List UInt8), Lib.indexByte l 46 = -1 → cutF l = l ∧ cutK l = []
  | [], _ => ⟨rfl, rfl⟩
  | b :: l, h => by
    have hg := Lib.indexByte_ge l 46
    unfold Lib.indexByte at h
    by_cases hb : b = 46
    · subst hb; simp at h
    · have h1 : (b == 46) = false := by simpa using hb
      rw [h1] at h
      by_cases h2 : Lib.indexByte l 46 = -1
      · obtain ⟨e1, e2⟩ := idx_miss l h2
        unfold cutF cutK at *
        have h3 : (b != 46) = true := by simpa using hb
        rw [List.takeWhile_cons, List.dropWhile_cons, h3, if_pos rfl, if_pos rfl, e1, e2]
        exact ⟨rfl, rfl⟩
      · have h3 : (Lib.indexByte l 46 == -1) = false := by simpa using h2
        rw [h3] at h
        simp at h
        omega
theorem idx_hit : ∀ (l : List UInt8) (i : Nat), Lib.indexByte l 46 = (i : Int) → i < l.length ∧ cutF l = l.take i ∧ cutK l = l.drop (i + 1)
  | [], i, h => by simp [Lib.indexByte] at h
  | b :: l, i, h => by
    unfold Lib.indexByte at h
    by_cases hb : b = 46
    · subst hb
      simp at h
      obtain rfl : i = 0 := by omega
      exact ⟨by simp, by simp [cutF], by simp [cutK]⟩
    · have h1 : (b == 46) = false := by simpa using hb
      rw [h1] at h
      by_cases h2 : Lib.indexByte l 46 = -1
      · rw [h2] at h
        simp at h
      · have h3 : (Lib.indexByte l 46 == -1) = false := by simpa using h2
        rw [h3] at h
        simp at h
        obtain ⟨j, rfl⟩ : ∃ j, i = j + 1 := ⟨i - 1, by have := Lib.indexByte_ge l 46; omega⟩
        obtain ⟨e0, e1, e2⟩ := idx_hit l j (by omega)
        unfold cutF cutK at *
        have h4 : (b != 46) = true := by simpa using hb
        rw [List.takeWhile_cons, List.dropWhile_cons, h4, if_pos rfl, if_pos rfl, e1, e2]
        exact ⟨by simpa using e0, by rw [List.take_succ_cons], by rw [List.drop_succ_cons]⟩
theorem cut_digits : ∀ (d k : List UInt8), (∀ c ∈ d, 48 ≤ c.toNat ∧ c.toNat ≤ 57) → cutF (d ++ 46 :: k) = d ∧ cutK (d ++ 46 :: k) = k
  | [], k, _ => ⟨by simp [cutF], by simp [cutK]⟩
  | c :: d, k, h => by
    obtain ⟨e1, e2⟩ := cut_digits d k (fun x hx => h x (by simp [hx]))
    have hc : (c != 46) = true := by
      have := h c (by simp)
      simp
      intro e
      subst e
      simp at this
    unfold cutF cutK at *
    rw [List.cons_append, List.takeWhile_cons, List.dropWhile_cons, hc, if_pos rfl, if_pos rfl, e1, e2]
    exact ⟨rfl, rfl⟩
theorem cut_file (n : Nat) (k : List UInt8) : cutF (fileL n k) = dig n 20 ∧ cutK (fileL n k) = k := cut_digits _ _ (dig_all n 20)

def Cuts (s : ByteArray) (w : World) (e : Ending) (w' : World) : Prop := ∃ o : Bool, e = .returned (.tuple #[.string (bs (cutF s.data.toList)), .string (bs (cutK s.data.toList)), .bool o]) ∧ Below w.heap.size w w'
theorem cuts_mk {s F K : ByteArray} {o : Bool} {w w' : World} (hF : F = bs (cutF s.data.toList)) (hK : K = bs (cutK s.data.toList)) (hb : Below w.heap.size w w') : Cuts s w (.returned (.tuple #[.string F, .string K, .bool o])) w' := ⟨o, by rw [hF, hK], hb⟩
theorem bs_take (s : ByteArray) (i : Nat) : s.extract 0 i = bs (s.data.toList.take i) := by
  conv => lhs; rw [← bs_self (s.extract 0 i)]
  congr 1
  rw [Lib.extract_data, List.drop_zero, Nat.sub_zero]
theorem drop_data (s : ByteArray) (i : Nat) : (s.extract i s.size).data.toList = s.data.toList.drop i := by
  rw [Lib.extract_data, List.take_of_length_le (by rw [List.length_drop, ← Lib.size_eq]; exact Nat.le_refl _)]
theorem bs_drop (s : ByteArray) (i : Nat) : s.extract i s.size = bs (s.data.toList.drop i) := by
  conv => lhs; rw [← bs_self (s.extract i s.size)]
  rw [drop_data]
set_option maxHeartbeats 400000 in
set_option maxRecDepth 100000 in
theorem liteCut_any (w : World) (s : ByteArray) (hs : s.size ≤ 1073741824) : Calls Tryz.prog 146 #[.string s, .string ⟨#[46]⟩] w (Cuts s w) := by
  have CI := Lib.hid (fun W => Tryz.stringslite_Index_one s 46 W)
  rcases (show Lib.indexByte s.data.toList 46 < 0 ∨ 0 ≤ Lib.indexByte s.data.toList 46 by omega) with hneg | hpos
  · have hm1 : Lib.indexByte s.data.toList 46 = -1 := by have := Lib.indexByte_ge s.data.toList 46; omega
    obtain ⟨e1, e2⟩ := idx_miss _ hm1
    have HF : Hid (s = bs (cutF s.data.toList)) := by show _ = _; rw [e1, bs_self]
    have HK : Hid ((⟨#[]⟩ : ByteArray) = bs (cutK s.data.toList)) := by show _ = _; rw [e2]; rfl
    have HM := Lib.hid hm1
    clear hm1 e1 e2 hneg
    go_enter Tryz.func146, Tryz.ntmps146
    go_wp2_with fail
    refine (CI.out _).mono ?_
    rintro e w' ⟨rfl, rfl⟩
    rw [HM.out]
    go_wp2
    go_ret3
    exact cuts_mk HF.out HK.out (Below.refl _ _)
  · obtain ⟨i, hi⟩ : ∃ i : Nat, Lib.indexByte s.data.toList 46 = i := ⟨(Lib.indexByte s.data.toList 46).toNat, by omega⟩
    obtain ⟨hil, e1, e2⟩ := idx_hit _ _ hi
    have hsz : i < s.size := by rw [Lib.size_eq]; exact hil
    have HF : Hid (s.extract 0 i = bs (cutF s.data.toList)) := by show _ = _; rw [e1, bs_take]
    have HK : Hid (s.extract (i + 1) s.size = bs (cutK s.data.toList)) := by show _ = _; rw [e2, bs_drop]
    have HM := Lib.hid hi
    clear hi e1 e2 hil hpos
    go_enter Tryz.func146, Tryz.ntmps146
    go_wp2_with fail
    refine (CI.out _).mono ?_
    rintro e w' ⟨rfl, rfl⟩
    rw [HM.out]
    have hw1 : IntKind.i64.wrap ((i : Int) + 1) = (i : Int) + 1 := IntWalk.i64_in _ (by omega)
    go_wp2
    go_quiet (fail)
    go_wp2
    go_ret3
    exact cuts_mk HF.out HK.out (below_drewN _ _)
set_option maxHeartbeats 400000 in
theorem strCut_any (w : World) (s : ByteArray) (hs : s.size ≤ 1073741824) : Calls Tryz.prog 124 #[.string s, .string ⟨#[46]⟩] w (Cuts s w) := by
  have CI := Lib.hid (fun W => liteCut_any W s hs)
  go_enter Tryz.func124, Tryz.ntmps124
  go_wp2_with fail
  refine (CI.out _).mono ?_
  rintro e w1 ⟨o, rfl, hb1⟩
  have HB1 := Lib.hid hb1
  clear hb1
  go_wp2
  go_ret3
  exact ⟨o, rfl, HB1.out⟩
def Clones (s : ByteArray) (w : World) (e : Ending) (w' : World) : Prop := e = .returned (.string s) ∧ Below w.heap.size w w'
set_option maxHeartbeats 400000 in
theorem clone_any (w : World) (s : ByteArray) (hs : s.size ≤ 1073741824) : Calls Tryz.prog 126 #[.string s] w (Clones s w) := by
  have CI := Lib.hid (fun W => Tryz.stringslite_Clone s W (by omega))
  go_enter Tryz.func126, Tryz.ntmps126
  go_wp2_with fail
  refine (CI.out _).mono ?_
  rintro e w1 ⟨rfl, hb1⟩
  have HB1 := Lib.hid hb1
  clear hb1
  go_wp2
  go_ret
  exact ⟨rfl, HB1.out⟩

/-! ### the number in front -/
def numO (l : List UInt8) : Bool := (numR 0 (runes l)).isSome
def numV (l : List UInt8) : Nat := (numR 0 (runes l)).getD 0
def NameNums (s : ByteArray) (w : World) (e : Ending) (w' : World) : Prop := e = .returned (.tuple #[.int .i64 (numV s.data.toList : Nat), .bool (numO s.data.toList)]) ∧ Below w.heap.size w w'
theorem nameNums_no {s : ByteArray} {w w' : World} (h : numR 0 (runes s.data.toList) = none) (hb : Below w.heap.size w w') : NameNums s w (.returned (.tuple #[.int .i64 0, .bool false])) w' := by
  refine ⟨?_, hb⟩
  unfold numV numO
  rw [h]
  rfl
theorem nameNums_yes {s : ByteArray} {w w' : World} {n : Nat} (h : numR 0 (runes s.data.toList) = some n) (hb : Below w.heap.size w w') : NameNums s w (.returned (.tuple #[.int .i64 (n : Int), .bool true])) w' := by
  refine ⟨?_, hb⟩
  unfold numV numO
  rw [h]
  rfl
theorem num_bad {n r : Nat} {tl : List Nat} (h : digitR r = false) : numR n (r :: tl) = none := by
  unfold digitR at h
  rw [numR, if_neg (by simpa using h)]
theorem num_big {n r : Nat} {tl : List Nat} (h : digitR r = true) (h2 : 1099511627776 < 10 * n + (r - 48)) : numR n (r :: tl) = none := by
  unfold digitR at h
  rw [numR, if_pos (by simpa using h), if_pos h2]
theorem num_next {n r : Nat} {tl : List Nat} (h : digitR r = true) (h2 : ¬ 1099511627776 < 10 * n + (r - 48)) : numR n (r :: tl) = numR (10 * n + (r - 48)) tl := by
  unfold digitR at h
  rw [numR, if_pos (by simpa using h), if_neg h2]
set_option maxHeartbeats 400000 in
set_option maxRecDepth 100000 in
theorem number_any (w : World) (s : ByteArray) : Calls Tryz.prog 125 #[.string s] w (NameNums s w) := by
  go_enter Tryz.func125, Tryz.ntmps125
  go_wp2
  go_loopw [4] (fun v wr => ∃ pos n : Nat, ItAt wr w.heap.size s pos ∧ Below w.heap.size w wr ∧ v = .int .i64 n ∧ n ≤ 1099511627776 ∧ numR 0 (runes s.data.toList) = numR n (rs s pos)) (fun _ wr => s.size - wr.iterPos w.heap.size)
  case atStart => exact ⟨0, 0, it_start w s, (Below.refl _ w).alloc (Nat.le_refl _) _, rfl, by omega, by rw [rs_zero]⟩
  case round =>
    obtain ⟨pos, n, hit, hbw, rfl, hn, hnr⟩ := hrel
    have HI := Lib.hid hit
    have HB := Lib.hid hbw
    have HN := Lib.hid hnr
    clear hit hbw hnr
    by_cases hp : pos < s.size
    · have hnx : ∀ ty, (Instr.next (.pointer (some ⟨w.heap.size, 0, none⟩)) true ty).run Tryz.prog wr = _ := fun ty => Lib.run_next_any_at wr w.heap.size s pos ty HI.out hp
      have HW := Lib.hid (Lib.width_pos s pos)
      have hst := HN.out
      rw [rs_step hp] at hst
      have hr4 := Lib.rune_le s pos
      obtain ⟨r, hr⟩ : ∃ r, r = (Utf8.decode s pos).1 := ⟨_, rfl⟩
      obtain ⟨k, hk⟩ : ∃ k, k = (Utf8.decode s pos).2 := ⟨_, rfl⟩
      rw [← hr, ← hk] at hst
      rw [← hr] at hr4
      rw [← hk] at HW
      simp only [← hr, ← hk] at hnx
      have HT := Lib.hid hst
      clear hst hr hk
      have HB2 := Lib.hid (Lib.below_iterAt HB.out (Nat.le_refl _) s (pos + k))
      have HI2 := Lib.hid (it_next HI.out (pos + k))
      obtain ⟨d, hd⟩ : ∃ d, d = digitR r := ⟨_, rfl⟩
      have CA0 := fun W => digit_any W r
      rw [← hd] at CA0
      have CA := Lib.hid CA0
      have HK := Lib.hid hd
      clear CA0 hd
      cases d
      · have HF : Hid (numR 0 (runes s.data.toList) = none) := by
          show _ = _
          rw [HT.out, num_bad HK.out.symm]
        go_wp2_with fail
        refine (CA.out _).mono ?_
        rintro e w' ⟨rfl, rfl⟩
        go_wp2
        go_ret2
        exact nameNums_no HF.out HB2.out
      · have hr48 : 48 ≤ r ∧ r ≤ 57 := by have := HK.out; unfold digitR at this; simpa using this.symm
        obtain ⟨h48, h57⟩ := hr48
        obtain ⟨c, rfl⟩ : ∃ c, r = 48 + c := ⟨r - 48, by omega⟩
        have hc9 : c ≤ 9 := by omega
        have hsub : ((48 + c : Nat) : Int) - 48 = (c : Int) := by omega
        obtain ⟨m, hm⟩ : ∃ m, m = 10 * n + (48 + c - 48) := ⟨_, rfl⟩
        have hmz : 10 * (n : Int) + (c : Int) = (m : Int) := by omega
        have hmb : m ≤ 10995116277769 := by omega
        by_cases hbig : 1099511627776 < m
        · have HF : Hid (numR 0 (runes s.data.toList) = none) := by
            show _ = _
            rw [HT.out, num_big HK.out.symm (by rw [← hm]; exact hbig)]
          clear hm
          go_wp2_with fail
          refine (CA.out _).mono ?_
          rintro e w' ⟨rfl, rfl⟩
          go_wp2
          all_goals first
            | (exfalso; omega)
            | (go_ret2; exact nameNums_no HF.out HB2.out)
        · have HF : Hid (numR 0 (runes s.data.toList) = numR m (rs s (pos + k))) := by
            show _ = _
            rw [HT.out, num_next HK.out.symm (by rw [← hm]; exact hbig), ← hm]
          have hml : m ≤ 1099511627776 := by omega
          clear hm hbig
          go_wp2_with fail
          refine (CA.out _).mono ?_
          rintro e w' ⟨rfl, rfl⟩
          go_wp2
          all_goals first
            | (exfalso; omega)
            | (go_roundw
               case rel => exact ⟨pos + k, m, HI2.out, HB2.out, by go_num, hml, HF.out⟩
               case measure =>
                 rw [it_pos HI2.out, it_pos HI.out]
                 have := HW.out
                 omega)
    · have hnx : ∀ ty, (Instr.next (.pointer (some ⟨w.heap.size, 0, none⟩)) true ty).run Tryz.prog wr = _ := fun ty => Lib.run_next_end_at wr w.heap.size s pos ty HI.out hp
      have HF : Hid (numR 0 (runes s.data.toList) = some n) := by
        show _ = _
        rw [HN.out, rs_end hp, numR]
      go_wp2
      go_ret2
      exact nameNums_yes HF.out HB.out

/-! ### Parse -/
def Parses (s : ByteArray) (w : World) (e : Ending) (w' : World) : Prop := e = .returned (.tuple #[.int .i64 (parseN s.data.toList : Nat), .string (bs (parseS s.data.toList)), .bool (parseK s.data.toList)]) ∧ Below w.heap.size w w'
theorem parses_no {s : ByteArray} {w w' : World} (h : parseK s.data.toList = false) (hb : Below w.heap.size w w') : Parses s w (.returned (.tuple #[.int .i64 0, .string ⟨#[]⟩, .bool false])) w' := by
  refine ⟨?_, hb⟩
  rw [(parse_no h).1, (parse_no h).2, h]
  rfl
theorem parses_yes {s K : ByteArray} {n : Nat} {w w' : World} (h : parseK s.data.toList = true ∧ parseN s.data.toList = n ∧ bs (parseS s.data.toList) = K) (hb : Below w.heap.size w w') : Parses s w (.returned (.tuple #[.int .i64 (n : Int), .string K, .bool true])) w' := by
  refine ⟨?_, hb⟩
  rw [h.2.1, h.2.2, h.1]
theorem file_ok_val {n : Nat} {k : List UInt8} (h : okFile n k = true) : fileS n k = fileL n k := by
  unfold fileS
  rw [if_pos h]
  rfl
theorem parse_all {l : List UInt8} (h : parseK l = true) : numO (cutF l) = true ∧ fileO (numV (cutF l) : Nat) (bs (cutK l)) = true ∧ fileV (numV (cutF l) : Nat) (bs (cutK l)) = bs l := by
  obtain ⟨h1, h2⟩ := parse_is h
  obtain ⟨n, hn⟩ : ∃ n, n = valD (l.take 20) := ⟨_, rfl⟩
  obtain ⟨k, hk⟩ : ∃ k, k = l.drop 21 := ⟨_, rfl⟩
  rw [← hn, ← hk] at h1 h2
  subst h2
  have e := num_dig (ok_nat h1).1
  rw [(cut_file n k).1, (cut_file n k).2]
  have ev : numV (dig n 20) = n := by unfold numV; rw [e]; rfl
  have eo : numO (dig n 20) = true := by unfold numO; rw [e]; rfl
  rw [ev, eo]
  refine ⟨rfl, h1, ?_⟩
  unfold fileV
  rw [bs_list, file_ok_val h1]
theorem parse_these {l : List UInt8} {n : Nat} {K S : ByteArray} (hS : S = fileV (n : Nat) K) (h2 : fileO (n : Nat) K = true) (h3 : S = bs l) : parseK l = true ∧ parseN l = n ∧ bs (parseS l) = K := by
  unfold fileO at h2
  have e : fileL n K.data.toList = l := by
    rw [hS] at h3
    unfold fileV at h3
    rw [file_ok_val h2] at h3
    exact bs_inj h3
  obtain ⟨a, b, c⟩ := parse_yes h2 e
  exact ⟨a, b, by rw [c, bs_self]⟩
theorem cutK_len (l : List UInt8) : (cutK l).length ≤ l.length := by
  unfold cutK
  rw [List.length_drop]
  have := List.Sublist.length_le (List.dropWhile_sublist (· != (46 : UInt8)) (l := l))
  omega
theorem no_of {b : Bool} {l : List UInt8} (h : parseK l = true → b = true) (hb : b = false) : parseK l = false := by
  cases hp : parseK l
  · rfl
  · have := h hp
    rw [hb] at this
    cases this
set_option maxHeartbeats 400000 in
set_option maxRecDepth 100000 in
theorem nameParse_any (w : World) (s : ByteArray) (hs : s.size ≤ 1073741824) : Calls Tryz.prog 98 #[.string s] w (Parses s w) := by
  have CC0 := fun W => strCut_any W s hs
  unfold Cuts at CC0
  have HKs : (cutK s.data.toList).length ≤ 1073741824 := by
    have := cutK_len s.data.toList
    rw [← Lib.size_eq] at this
    omega
  have PA := Lib.hid (parse_all (l := s.data.toList))
  obtain ⟨F, hF⟩ : ∃ F, F = bs (cutF s.data.toList) := ⟨_, rfl⟩
  obtain ⟨K, hK⟩ : ∃ K, K = bs (cutK s.data.toList) := ⟨_, rfl⟩
  have hKz : K.size ≤ 1073741824 := by rw [hK, bs_size]; exact HKs
  have CN0 := fun W => number_any W F
  unfold NameNums at CN0
  have eF : F.data.toList = cutF s.data.toList := by rw [hF]; rfl
  rw [eF] at CN0
  rw [← hF, ← hK] at CC0
  have PA2 : Hid (parseK s.data.toList = true → numO (cutF s.data.toList) = true ∧ fileO (numV (cutF s.data.toList) : Nat) K = true ∧ fileV (numV (cutF s.data.toList) : Nat) K = s) := by
    intro h
    have := PA.out h
    rw [← hK, bs_self] at this
    exact this
  clear PA HKs eF hF hK
  obtain ⟨no, hno⟩ : ∃ no, no = numO (cutF s.data.toList) := ⟨_, rfl⟩
  obtain ⟨nv, hnv⟩ : ∃ nv, nv = numV (cutF s.data.toList) := ⟨_, rfl⟩
  rw [← hno, ← hnv] at CN0 PA2
  have CC := Lib.hid CC0
  have CN := Lib.hid CN0
  have CK := Lib.hid (fun W => clone_any W K hKz)
  have CF0 := fun W => file_any W (nv : Int) K hKz
  unfold Files at CF0
  obtain ⟨S, hS⟩ : ∃ S, S = fileV (nv : Int) K := ⟨_, rfl⟩
  obtain ⟨o, ho⟩ : ∃ o, o = fileO (nv : Int) K := ⟨_, rfl⟩
  rw [← hS, ← ho] at CF0 PA2
  have HS := Lib.hid hS
  have HO := Lib.hid ho
  have CF := Lib.hid CF0
  clear CC0 CN0 CF0 hno hnv hS ho hKz
  cases no
  · have HF := Lib.hid (no_of (fun h => (PA2.out h).1) rfl)
    go_enter Tryz.func98, Tryz.ntmps98
    go_wp2_with fail
    refine (CC.out _).mono ?_
    rintro e w1 ⟨x, rfl, hb1⟩
    have HB1 := Lib.hid hb1
    clear hb1
    go_wp2_with fail
    refine (CN.out _).mono ?_
    rintro e w2 ⟨rfl, hb2⟩
    have HB2 := Lib.hid hb2
    clear hb2
    go_wp2
    go_ret3
    exact parses_no HF.out (step HB1.out HB2.out)
  · cases o
    · have HF := Lib.hid (no_of (fun h => (PA2.out h).2.1) rfl)
      go_enter Tryz.func98, Tryz.ntmps98
      go_wp2_with fail
      refine (CC.out _).mono ?_
      rintro e w1 ⟨x, rfl, hb1⟩
      have HB1 := Lib.hid hb1
      clear hb1
      go_wp2_with fail
      refine (CN.out _).mono ?_
      rintro e w2 ⟨rfl, hb2⟩
      have HB2 := Lib.hid hb2
      clear hb2
      go_wp2_with fail
      refine (CF.out _).mono ?_
      rintro e w3 ⟨rfl, hb3⟩
      have HB3 := Lib.hid hb3
      clear hb3
      go_wp2
      go_ret3
      exact parses_no HF.out (step (step HB1.out HB2.out) HB3.out)
    · by_cases hSs : S = s
      · have HF := Lib.hid (parse_these HS.out HO.out.symm (by rw [hSs, bs_self]))
        rw [hSs] at CF
        clear PA2 HS hSs
        go_enter Tryz.func98, Tryz.ntmps98
        go_wp2_with fail
        refine (CC.out _).mono ?_
        rintro e w1 ⟨x, rfl, hb1⟩
        have HB1 := Lib.hid hb1
        clear hb1
        go_wp2_with fail
        refine (CN.out _).mono ?_
        rintro e w2 ⟨rfl, hb2⟩
        have HB2 := Lib.hid hb2
        clear hb2
        go_wp2_with fail
        refine (CF.out _).mono ?_
        rintro e w3 ⟨rfl, hb3⟩
        have HB3 := Lib.hid hb3
        clear hb3
        go_wp2_with fail
        refine (CK.out _).mono ?_
        rintro e w4 ⟨rfl, hb4⟩
        have HB4 := Lib.hid hb4
        clear hb4
        go_wp2
        go_ret3
        exact parses_yes HF.out (step (step (step HB1.out HB2.out) HB3.out) HB4.out)
      · have HF : Hid (parseK s.data.toList = false) := by
          show _ = _
          cases hp : parseK s.data.toList
          · rfl
          · exact absurd (PA2.out hp).2.2 hSs
        have hne : (S.toList == s.toList) = false := by
          simp only [beq_eq_false_iff_ne, ne_eq]
          rw [Lib.toList_data, Lib.toList_data]
          intro e
          apply hSs
          rw [← bs_self S, ← bs_self s, e]
        clear hSs
        go_enter Tryz.func98, Tryz.ntmps98
        go_wp2_with fail
        refine (CC.out _).mono ?_
        rintro e w1 ⟨x, rfl, hb1⟩
        have HB1 := Lib.hid hb1
        clear hb1
        go_wp2_with fail
        refine (CN.out _).mono ?_
        rintro e w2 ⟨rfl, hb2⟩
        have HB2 := Lib.hid hb2
        clear hb2
        go_wp2_with fail
        refine (CF.out _).mono ?_
        rintro e w3 ⟨rfl, hb3⟩
        have HB3 := Lib.hid hb3
        clear hb3
        go_wp2
        go_ret3
        exact parses_no HF.out (step (step HB1.out HB2.out) HB3.out)
end Go.Proofs.YtgohekjkbgfeeaaGreat
namespace Go.Proofs.YtgohekjkbgfeeaaGreat
open Go.RowKit
open Go.RuneMath
set_option linter.unusedVariables false

/-! ### the document's own -/
def RPad (n i m : Nat) (v : ByteArray) : Prop := ∃ suf : List UInt8, v = bs suf ∧ suf.length = i ∧ dig n 20 = dig m (20 - i) ++ suf
theorem RPad.start (n : Nat) : RPad n 0 n ⟨#[]⟩ := ⟨[], rfl, rfl, by simp⟩
theorem RPad.size {n i m : Nat} {v : ByteArray} (h : RPad n i m v) : v.size = i := by
  obtain ⟨suf, rfl, hs, _⟩ := h
  rw [bs_size, hs]
theorem RPad.next {n i m : Nat} {v E : ByteArray} (h : RPad n i m v) (hi : i < 20) (hE : E = Utf8.encode (48 + ((m % 10 : Nat) : Int))) : RPad n (i + 1) (m / 10) (E ++ v) := by
  obtain ⟨suf, rfl, hs, hd⟩ := h
  refine ⟨UInt8.ofNat (48 + m % 10) :: suf, ?_, by simp [hs], dig_more hi hd⟩
  have e : (48 : Int) + ((m % 10 : Nat) : Int) = ((48 + m % 10 : Nat) : Int) := by omega
  have e2 : enc (48 + m % 10) = [UInt8.ofNat (48 + m % 10)] := by
    unfold enc Lib.encodeRune
    rw [Lib.encodeRuneZ_one (by omega) (by omega)]
    simp only [List.map_cons, List.map_nil, Int.toNat_natCast]
  rw [hE, e, encode_bs (by unfold Scal; omega), bs_append, e2]
  rfl
theorem RPad.done {n m : Nat} {v : ByteArray} (h : RPad n 20 m v) : v = padS n := by
  obtain ⟨suf, rfl, hs, hd⟩ := h
  rw [show 20 - 20 = 0 from rfl, dig, List.nil_append] at hd
  unfold padS
  rw [hd]
end Go.Proofs.YtgohekjkbgfeeaaGreat
namespace Go.Proofs.YtgohekjkbgfeeaaGreat
open Go.RowKit
open Go.RuneMath
set_option linter.unusedVariables false

/-- A slice of runes reads as l. -/
structure R32 (w : World) (ad : Option Addr) (len : Nat) (l : List Nat) : Prop where
  length : l.length = len
  cells : len = 0 ∨ ∃ b, ad = some ⟨b, 0, none⟩ ∧ ∀ i, i < len → w.cell? ⟨b, i, none⟩ = some (.int .i32 (l.getD i 0 : Nat))
theorem R32.keep {w w' : World} {ad : Option Addr} {len : Nat} {l : List Nat} (h : R32 w ad len l) {B : Nat} (hb : Below B w w') (hB : w.heap.size ≤ B) : R32 w' ad len l := by
  refine ⟨h.length, ?_⟩
  rcases h.cells with h0 | ⟨b, e, hc⟩
  · exact .inl h0
  · refine .inr ⟨b, e, fun i hi => ?_⟩
    have := hc i hi
    rw [hb.cell (p := ⟨b, i, none⟩) (by have := World.block_lt_of_cell? w _ this; exact Nat.lt_of_lt_of_le this hB)]
    exact this
theorem R32.at {w : World} {ad : Option Addr} {len : Nat} {l : List Nat} (h : R32 w ad len l) {i : Nat} (hi : i < len) : ∃ b, ad = some ⟨b, 0, none⟩ ∧ w.cell? ⟨b, i, none⟩ = some (.int .i32 (l.getD i 0 : Nat)) := by
  rcases h.cells with h0 | ⟨b, e, hc⟩
  · omega
  · exact ⟨b, e, hc i hi⟩
end Go.Proofs.YtgohekjkbgfeeaaGreat
namespace Go.Proofs.YtgohekjkbgfeeaaGreat
open Go.RowKit
open Go.RuneMath hiding encs encs_nil encs_cons encs_append encs_len
open Go.SnapMath
set_option linter.unusedVariables false

def snapL : List UInt8 := [115, 110, 97, 112, 115, 104, 111, 116]
theorem snapT_data : snapT.data.toList = snapL := rfl
theorem snap_ok : rightB snapL = true ∧ snapL.contains 46 = false := ⟨by decide +kernel, by decide +kernel⟩
/-- The number of a snapshot's name. -/
def snapP (s : ByteArray) : Option Int := if parseK s.data.toList = true ∧ parseS s.data.toList = snapL then some (parseN s.data.toList : Nat) else none
/-- The name of a number. -/
def snapN (n : Int) : ByteArray := fileV n snapT
theorem snapO {n : Int} (h0 : 0 ≤ n) (h1 : n ≤ 1099511627776) : okFile n snapL = true := ok_yes h0 h1 snap_ok.1 snap_ok.2
theorem snapN_is {n : Nat} (h1 : n ≤ 1099511627776) : snapN (n : Int) = bs (fileL n snapL) := by
  unfold snapN fileV
  rw [snapT_data, file_ok_val (snapO (by omega) (by omega))]
theorem bs_data (l : List UInt8) : (bs l).data.toList = l := rfl
theorem snapP_name {n : Nat} (h1 : n ≤ 1099511627776) : snapP (snapN (n : Int)) = some (n : Int) := by
  obtain ⟨a, b, c⟩ := parse_yes (n := n) (k := snapL) (l := fileL n snapL) (snapO (by omega) (by omega)) rfl
  unfold snapP
  rw [snapN_is h1, bs_data, if_pos ⟨a, c⟩, b]
theorem snapP_is {s : ByteArray} {n : Int} (h : snapP s = some n) : (0 ≤ n ∧ n ≤ 1099511627776) ∧ s = snapN n := by
  unfold snapP at h
  split at h
  · rename_i hc
    obtain ⟨h1, h2⟩ := hc
    obtain ⟨a, b⟩ := parse_is h1
    have hk : s.data.toList.drop 21 = snapL := by
      unfold parseS at h2
      rw [if_pos h1] at h2
      exact h2
    have hn : parseN s.data.toList = valD (s.data.toList.take 20) := by
      unfold parseN
      rw [if_pos h1]
    rw [hk] at a b
    rw [hn] at h
    have e := Option.some.inj h
    have hle := (ok_nat a).1
    subst e
    refine ⟨⟨by omega, by omega⟩, ?_⟩
    rw [snapN_is hle, b, bs_self]
  · cases h
end Go.Proofs.YtgohekjkbgfeeaaGreat
namespace Go.Proofs.YtgohekjkbgfeeaaGreat
open Go.RowKit
open Go.RuneMath (parseK parseN parseS ok_nat okFile)
open Go.SnapMath
set_option linter.unusedVariables false

theorem parses_are {s : ByteArray} {w w' : World} {e : Ending} (h : Parses s w e w') : Below w.heap.size w w' ∧ ((∃ n, snapP s = some n ∧ e = .returned (.tuple #[.int .i64 n, .string snapT, .bool true])) ∨ (snapP s = none ∧ ∃ n kd ok, e = .returned (.tuple #[.int .i64 n, .string kd, .bool ok]) ∧ (ok = false ∨ (kd.toList == [115, 110, 97, 112, 115, 104, 111, 116]) = false))) := by
  obtain ⟨rfl, hb⟩ := h
  refine ⟨hb, ?_⟩
  cases hp : snapP s with
  | some n =>
    refine .inl ⟨n, rfl, ?_⟩
    unfold snapP at hp
    split at hp
    · rename_i hc
      have e := Option.some.inj hp
      rw [hc.1, hc.2, ← e]
      rfl
    · cases hp
  | none =>
    refine .inr ⟨rfl, _, _, _, rfl, ?_⟩
    cases hk : parseK s.data.toList with
    | false => exact .inl rfl
    | true =>
      refine .inr ?_
      rw [beq_eq_false_iff_ne]
      intro e
      unfold snapP at hp
      rw [if_pos ⟨hk, by rw [ByteArray.toList_eq] at e; exact e⟩] at hp
      cases hp
theorem filterMap_take {α β : Type} {f : α → Option β} {l : List α} {j : Nat} {a : α} (h : l[j]? = some a) : (l.take (j + 1)).filterMap f = (l.take j).filterMap f ++ (f a).toList := by
  rw [List.take_add_one, h, List.filterMap_append]
  cases hf : f a <;> simp [hf]
def GivesInts (w : World) (l : List Int) (e : Ending) (w' : World) : Prop := ∃ v, e = .returned v ∧ OwnRow idK w' w.heap.size v l ∧ Below w.heap.size w w'
set_option maxRecDepth 100000 in
set_option maxHeartbeats 4000000 in
theorem bases_any (w : World) (ad : Option Addr) (len cap : Nat) (ns : List ByteArray) (h : RowAt nameK w ad len cap ns) (hL : len ≤ 100000) (hs : ∀ s ∈ ns, s.size ≤ 1073741824) :
    Calls Tryz.prog 66 #[.slice ad len cap] w (GivesInts w (ns.filterMap snapP)) := by
  have H := Lib.hid h
  have HS := Lib.hid hs
  have HNL := Lib.hid h.length
  clear h hs
  go_enter Tryz.func66, Tryz.ntmps66
  go_wp2
  go_loopw [3, 11] (fun v3 v11 wr => ∃ (j : Nat) (u : Value), u = v3 ∧ v11 = .int .i64 (j : Int) ∧ j ≤ len ∧ Hid (OwnRow idK wr w.heap.size u ((ns.take j).filterMap snapP)) ∧ Hid (Below w.heap.size w wr)) (fun _ v11 _ => len - (intOf v11).toNat)
  case atStart => exact ⟨0, _, rfl, rfl, Nat.zero_le _, ownRow_nil _ _ _, Below.refl _ _⟩
  case round =>
    obtain ⟨j, u, rfl, rfl, hj, HO, HB⟩ := hrel
    obtain ⟨wo, hwo⟩ : ∃ wo : World, wo = wr := ⟨_, rfl⟩
    subst hwo
    by_cases hlt : j < len
    · have hd : decide (j < len) = true := decide_eq_true hlt
      have hjl : (j : Int) < (len : Int) := by omega
      obtain ⟨bk, off, s, rfl, hbk, hsj, hc⟩ := (H.out.keep HB.out).get hlt
      have c0 : wo.cell? ⟨bk, off + j, none⟩ = some (.string s) := by
        have h1 := hc 0 _ rfl
        rwa [show off + (j * nameK.size + 0) = off + j by show off + (j * 1 + 0) = _; omega] at h1
      have CP := Lib.hid (nameParse_any wo s (HS.out s (List.mem_of_getElem? hsj)))
      have HT := Lib.hid (filterMap_take (f := snapP) hsj)
      have HLEN : Hid (((ns.take j).filterMap snapP).length ≤ 100000) := by
        show _ ≤ _
        have h1 := List.length_filterMap_le snapP (ns.take j)
        rw [List.length_take] at h1
        omega
      clear hc hsj hbk
      go_wp2_with fail
      refine CP.out.mono ?_
      rintro e w2 hps
      obtain ⟨hb2, hcs⟩ := parses_are hps
      have HB2 := Lib.hid (HB.out.trans (hb2.mono HB.out.size))
      have HO2 := Lib.hid (HO.out.on hb2)
      clear hb2 hps CP c0 HB HO
      have heq : ((⟨#[115, 110, 97, 112, 115, 104, 111, 116]⟩ : ByteArray).toList == [115, 110, 97, 112, 115, 104, 111, 116]) = true := by first | rfl | kernel_rfl | simp | (rw [beq_iff_eq]; simp [ByteArray.toList])
      rcases hcs with ⟨n, hn, rfl⟩ | ⟨hn, n, kd, ok, rfl, hk⟩
      · have HT2 : Hid ((ns.take (j + 1)).filterMap snapP = (ns.take j).filterMap snapP ++ [n]) := by show _ = _; rw [HT.out, hn]; rfl
        unfold snapT
        clear hn HT
        obtain ⟨W6, hW6⟩ : ∃ z, z = w2.alloc (.cells #[.int .i64 n] 2) := ⟨_, rfl⟩
        have hb6 : Below w2.heap.size w2 W6 := by rw [hW6]; exact (Below.refl _ _).alloc (Nat.le_refl _) _
        have HLIT : Hid (RowAt idK W6 (some ⟨w2.heap.size, 0, none⟩) 1 1 [n]) := by
          show RowAt _ _ _ _ _ _
          rw [hW6]
          exact rowAt_lit idK_ok w2 [n] (by simp) _ rfl 1 rfl
        have HO6 := Lib.hid (HO2.out.on hb6)
        have HB6 := Lib.hid (HB2.out.trans (hb6.mono HB2.out.size))
        have HW6 := Lib.hid hW6
        clear hb6 hW6
        go_wp2_with (at_builtin; rw [← HW6.out]; refine list_row (by rfl) idK_ok (.tmp 26) (.tmp 28) rfl w.heap.size ((ns.take j).filterMap snapP) [n] u rfl HO6.out HB6.out.size (some ⟨w2.heap.size, 0, none⟩) 1 1 rfl HLIT.out (by have := HLEN.out; omega) ?_)
        intro v7 w7 hap
        have HO7 : Hid (OwnRow idK w7 w.heap.size v7 ((ns.take (j + 1)).filterMap snapP)) := by
          show OwnRow _ _ _ _ _
          rw [HT2.out]
          exact hap.1
        have HB7 : Hid (Below w.heap.size w w7) := appended_below hap HO6.out HB6.out (Nat.le_refl _) HB6.out.size
        clear hap HO6 HB6 HLIT HW6 HO2 HB2
        go_wp2
        go_roundw
        case rel => exact ⟨j + 1, v7, rfl, rfl, by omega, HO7.out, HB7.out⟩
        case measure => simp [intOf]; omega
      · have HO7 : Hid (OwnRow idK w2 w.heap.size u ((ns.take (j + 1)).filterMap snapP)) := by
          show OwnRow _ _ _ _ _
          rw [HT.out, hn]
          show OwnRow _ _ _ _ (_ ++ [])
          rw [List.append_nil]
          exact HO2.out
        have hgo : ok = false ∨ (ok = true ∧ (kd.toList == [115, 110, 97, 112, 115, 104, 111, 116]) = false) := by
          rcases hk with h | h
          · exact .inl h
          · cases ok
            · exact .inl rfl
            · exact .inr ⟨rfl, h⟩
        clear hk hn HT HO2
        rcases hgo with rfl | ⟨rfl, hkd⟩
        · go_wp2
          go_roundw
          case rel => exact ⟨j + 1, u, rfl, rfl, by omega, HO7.out, HB2.out⟩
          case measure => simp [intOf]; omega
        · go_wp2
          go_roundw
          case rel => exact ⟨j + 1, u, rfl, rfl, by omega, HO7.out, HB2.out⟩
          case measure => simp [intOf]; omega
    · have hd : decide (j < len) = false := decide_eq_false hlt
      have hjn : j = len := by omega
      have HFIN : Hid (OwnRow idK wo w.heap.size u (ns.filterMap snapP)) := by
        have h1 := HO.out
        rw [hjn, List.take_of_length_le (by rw [HNL.out]; exact Nat.le_refl _)] at h1
        exact h1
      clear hjn
      go_wp2
      go_ret
      exact ⟨_, rfl, HFIN.out, HB.out⟩
end Go.Proofs.YtgohekjkbgfeeaaGreat
namespace Go.Proofs.YtgohekjkbgfeeaaGreat
open Go.RowKit
open Go.SnapMath
open Go.RuneMath (okFile)
set_option linter.unusedVariables false

def sorted (l : List Int) : List Int := l.mergeSort fun x y => decide (x ≤ y)
theorem sorted_perm (l : List Int) : (sorted l).Perm l := List.mergeSort_perm l _
theorem sorted_len (l : List Int) : (sorted l).length = l.length := (sorted_perm l).length_eq
theorem sorted_asc (l : List Int) : (sorted l).Pairwise (· ≤ ·) := by
  have h := List.pairwise_mergeSort (le := fun x y : Int => decide (x ≤ y)) (fun a b c h1 h2 => by simp at *; omega) (fun a b => by simp; omega) l
  exact h.imp fun h => of_decide_eq_true h
def GivesSort (w : World) (base : Nat) (v : Value) (l : List Int) (e : Ending) (w' : World) : Prop := e = .returned (.tuple #[]) ∧ OwnRow idK w' base v (sorted l) ∧ w.grownBy w' v.ownBlock
theorem sort_any (w : World) (base : Nat) (v : Value) (l : List Int) (h : OwnRow idK w base v l) (hL : l.length ≤ 100000) :
    Calls Tryz.prog 68 #[v] w (GivesSort w base v l) := by
  rcases h.2 with ⟨rfl, h0⟩ | ⟨g, cap, cur, rfl, hg, hb, hn, hc, hs, ht⟩
  · obtain rfl := List.eq_nil_of_length_eq_zero h0
    refine (Tryz.slices_Sort_int_none none 0 w).mono ?_
    rintro e w' ⟨rfl, rfl⟩
    exact ⟨rfl, by rw [show sorted [] = [] from List.mergeSort_nil]; exact h, grow_refl _ _⟩
  · have hlt := (Array.getElem?_eq_some_iff.1 hb).1
    refine (Tryz.slices_Sort_int g 0 cap l w (holds_of_blockI hb (by rw [← idK_all, ← ht]; show _ = List.take (l.length * 1) _; rw [Nat.mul_one])) hlt (by omega)).mono ?_
    rintro e w' ⟨rfl, n, os, rfl⟩
    refine ⟨rfl, ?_, grownBy_sortedI _⟩
    have h1 := ownsRow_sortedI (n := n) (os := os) (ts := sorted l) (ss := l) (sorted_len l) hg hb hn hc (by rw [hs]; rfl)
    rw [← sorted_len l] at h1 ⊢
    exact ownRow_ids h1
/-- The greatest that is at most e, or -1. -/
def MaxTo (l : List Int) (e best : Int) : Prop := (best = -1 ∧ ∀ x ∈ l, e < x) ∨ (best ∈ l ∧ best ≤ e ∧ ∀ x ∈ l, x ≤ e → x ≤ best)
theorem MaxTo.nil (e : Int) : MaxTo [] e (-1) := .inl ⟨rfl, fun x h => by cases h⟩
theorem MaxTo.in {l : List Int} {e best x : Int} (h : MaxTo l e best) (h0 : 0 ≤ x) (hx : x ≤ e) : MaxTo (l ++ [x]) e (if best < x then x else best) := by
  right
  have hm : ∀ y, y ∈ l ++ [x] ↔ y ∈ l ∨ y = x := fun y => by rw [List.mem_append, List.mem_singleton]
  rcases h with ⟨rfl, h⟩ | ⟨h1, h2, h3⟩
  · rw [if_pos (by omega)]
    refine ⟨(hm x).2 (.inr rfl), hx, fun y hy hye => ?_⟩
    rcases (hm y).1 hy with hy | hy
    · have := h y hy; omega
    · omega
  · split
    · rename_i hc
      refine ⟨(hm x).2 (.inr rfl), hx, fun y hy hye => ?_⟩
      rcases (hm y).1 hy with hy | hy
      · have := h3 y hy hye; omega
      · omega
    · rename_i hc
      refine ⟨(hm best).2 (.inl h1), h2, fun y hy hye => ?_⟩
      rcases (hm y).1 hy with hy | hy
      · exact h3 y hy hye
      · omega
theorem MaxTo.out {l : List Int} {e best x : Int} (h : MaxTo l e best) (hx : ¬ x ≤ e) : MaxTo (l ++ [x]) e best := by
  have hm : ∀ y, y ∈ l ++ [x] ↔ y ∈ l ∨ y = x := fun y => by rw [List.mem_append, List.mem_singleton]
  rcases h with ⟨rfl, h⟩ | ⟨h1, h2, h3⟩
  · refine .inl ⟨rfl, fun y hy => ?_⟩
    rcases (hm y).1 hy with hy | hy
    · exact h y hy
    · omega
  · refine .inr ⟨(hm best).2 (.inl h1), h2, fun y hy hye => ?_⟩
    rcases (hm y).1 hy with hy | hy
    · exact h3 y hy hye
    · omega
theorem MaxTo.range {l : List Int} {e best : Int} (h : MaxTo l e best) (hl : ∀ x ∈ l, 0 ≤ x ∧ x ≤ 1099511627776) : -1 ≤ best ∧ best ≤ 1099511627776 := by
  rcases h with ⟨rfl, h⟩ | ⟨h1, _, _⟩
  · omega
  · have := hl best h1; omega
theorem mem_bases {ns : List ByteArray} {n : Int} : n ∈ ns.filterMap snapP ↔ ∃ s ∈ ns, snapP s = some n := List.mem_filterMap
theorem bases_range {ns : List ByteArray} : ∀ x ∈ ns.filterMap snapP, 0 ≤ x ∧ x ≤ 1099511627776 := fun x hx => by
  obtain ⟨s, _, h⟩ := mem_bases.1 hx
  exact (snapP_is h).1
theorem mem_snaps {ns : List ByteArray} {s : ByteArray} : s ∈ snapsP snapP ns ↔ s ∈ ns ∧ ∃ n, snapP s = some n := by
  unfold snapsP
  rw [List.mem_filter, Option.isSome_iff_exists]
theorem keyP_of {s : ByteArray} {n : Int} (h : snapP s = some n) : keyP snapP s = n := by unfold keyP; rw [h]; rfl
/-- What Latest is to give. -/
theorem latest_of {ns : List ByteArray} {e best : Int} (h : MaxTo (ns.filterMap snapP) e best) : ∃ b : Option ByteArray, snapN best = b.getD ⟨#[]⟩ ∧ fileO best snapT = b.isSome ∧ BestK (keyP snapP) (snapsP snapP ns) e b := by
  rcases h with ⟨rfl, h⟩ | ⟨h1, h2, h3⟩
  · refine ⟨none, rfl, rfl, fun x hx => ?_⟩
    obtain ⟨hn, n, hp⟩ := mem_snaps.1 hx
    rw [keyP_of hp]
    exact h n (mem_bases.2 ⟨x, hn, hp⟩)
  · obtain ⟨s, hs, hp⟩ := mem_bases.1 h1
    obtain ⟨hr, rfl⟩ := snapP_is hp
    refine ⟨some (snapN best), rfl, ?_, mem_snaps.2 ⟨hs, _, hp⟩, by rw [keyP_of hp]; exact h2, fun x hx hxe => ?_⟩
    · show okFile best snapT.data.toList = true
      rw [snapT_data]
      exact snapO hr.1 hr.2
    · obtain ⟨hn, n, hq⟩ := mem_snaps.1 hx
      rw [keyP_of hq] at hxe ⊢
      rw [keyP_of hp]
      exact h3 n (mem_bases.2 ⟨x, hn, hq⟩) hxe
/-- The names in order. -/
def namesOf (ns : List ByteArray) : List ByteArray := (sorted (ns.filterMap snapP)).map snapN
theorem snapP_back {n : Int} (h : 0 ≤ n ∧ n ≤ 1099511627776) : snapP (snapN n) = some n := by
  obtain ⟨m, rfl⟩ : ∃ m : Nat, n = m := ⟨n.toNat, by omega⟩
  exact snapP_name (by omega)
theorem mem_namesOf {ns : List ByteArray} {s : ByteArray} : s ∈ namesOf ns ↔ s ∈ snapsP snapP ns := by
  unfold namesOf
  rw [List.mem_map, mem_snaps]
  constructor
  · rintro ⟨n, hn, rfl⟩
    obtain ⟨s, hs, hp⟩ := mem_bases.1 ((sorted_perm _).mem_iff.1 hn)
    obtain ⟨hr, rfl⟩ := snapP_is hp
    exact ⟨hs, n, hp⟩
  · rintro ⟨hs, n, hp⟩
    exact ⟨n, (sorted_perm _).mem_iff.2 (mem_bases.2 ⟨s, hs, hp⟩), (snapP_is hp).2.symm⟩
theorem namesOf_asc {ns : List ByteArray} (h : ns.Pairwise (· ≠ ·)) : AscK (keyP snapP) (namesOf ns) := by
  have h1 : (ns.filterMap snapP).Pairwise (· ≠ ·) := h.filterMap snapP fun a a' hne b hb b' hb' e => by
    subst e
    exact hne (by rw [(snapP_is hb).2, (snapP_is hb').2])
  have h2 : (sorted (ns.filterMap snapP)).Pairwise (· ≠ ·) := ((sorted_perm _).pairwise_iff (fun {_ _} h => Ne.symm h)).2 h1
  have h3 := sorted_asc (ns.filterMap snapP)
  have hr : ∀ x ∈ sorted (ns.filterMap snapP), 0 ≤ x ∧ x ≤ 1099511627776 := fun x hx => bases_range x ((sorted_perm _).mem_iff.1 hx)
  unfold AscK namesOf
  rw [List.pairwise_map]
  refine List.Pairwise.imp_of_mem (fun {a b} ha hb hab => ?_) (h2.and h3)
  rw [keyP_of (snapP_back (hr a ha)), keyP_of (snapP_back (hr b hb))]
  omega
theorem namesOf_len (ns : List ByteArray) : (namesOf ns).length = (ns.filterMap snapP).length := by
  unfold namesOf
  rw [List.length_map, sorted_len]
end Go.Proofs.YtgohekjkbgfeeaaGreat
namespace Go.Proofs.YtgohekjkbgfeeaaGreat
open Go.RowKit
open Go.SnapMath
set_option linter.unusedVariables false

set_option maxRecDepth 100000 in
set_option maxHeartbeats 4000000 in
theorem latest_any (w : World) (ad : Option Addr) (len cap : Nat) (ns : List ByteArray) (h : RowAt nameK w ad len cap ns) (hL : len ≤ 100000) (hs : ∀ s ∈ ns, s.size ≤ 1073741824) (end0 : Int) :
    Calls Tryz.prog 33 #[.slice ad len cap, .int .i64 end0] w (LatestDoes w snapP ns end0) := by
  have CB := Lib.hid (bases_any w ad len cap ns h hL hs)
  have hbl : (ns.filterMap snapP).length ≤ 100000 := by
    have h1 := List.length_filterMap_le snapP ns
    have := h.length
    omega
  obtain ⟨l, hl⟩ : ∃ l, l = ns.filterMap snapP := ⟨_, rfl⟩
  have HR : Hid (∀ x ∈ l, 0 ≤ x ∧ x ≤ 1099511627776) := by show ∀ x ∈ l, _; rw [hl]; exact bases_range
  have HF : Hid (∀ best, MaxTo l end0 best → ∃ b : Option ByteArray, snapN best = b.getD ⟨#[]⟩ ∧ fileO best snapT = b.isSome ∧ BestK (keyP snapP) (snapsP snapP ns) end0 b) := fun best hm => by rw [hl] at hm; exact latest_of hm
  rw [← hl] at CB hbl
  clear h hs hl
  go_enter Tryz.func33, Tryz.ntmps33
  go_wp2_with fail
  refine CB.out.mono ?_
  rintro e w1 ⟨v, rfl, ho, hb1⟩
  obtain ⟨n, hn⟩ : ∃ n, l.length = n := ⟨_, rfl⟩
  obtain ⟨ad1, cap1, rfl, hr1, _⟩ := OwnRow.row idK_ok ho hn
  have HROW := Lib.hid hr1
  have HB1 := Lib.hid hb1
  have HN := Lib.hid hn
  rw [hn] at hbl
  clear ho hr1 hb1 hn CB
  go_wp2
  go_loopw [6, 12] (fun v6 v12 wr => ∃ (j : Nat) (best : Int), v6 = .int .i64 best ∧ v12 = .int .i64 (j : Int) ∧ j ≤ n ∧ Hid (MaxTo (l.take j) end0 best) ∧ Hid (Below w1.heap.size w1 wr)) (fun _ v12 _ => n - (intOf v12).toNat)
  case atStart => exact ⟨0, -1, rfl, rfl, Nat.zero_le _, MaxTo.nil _, Below.refl _ _⟩
  case round =>
    obtain ⟨j, best, rfl, rfl, hj, HM, HB⟩ := hrel
    obtain ⟨wo, hwo⟩ : ∃ wo : World, wo = wr := ⟨_, rfl⟩
    subst hwo
    by_cases hlt : j < n
    · have hd : decide (j < n) = true := decide_eq_true hlt
      have hjl : (j : Int) < (n : Int) := by omega
      obtain ⟨bk, off, x, rfl, hbk, hx, hc⟩ := (HROW.out.keep HB.out).get hlt
      have c0 : wo.cell? ⟨bk, off + j, none⟩ = some (.int .i64 x) := by
        have h1 := hc 0 _ rfl
        rwa [show off + (j * idK.size + 0) = off + j by show off + (j * 1 + 0) = _; omega] at h1
      have hx0 := HR.out x (List.mem_of_getElem? hx)
      have htk : l.take (j + 1) = l.take j ++ [x] := by rw [List.take_add_one, hx]; rfl
      have HTK := Lib.hid htk
      have HX0 := Lib.hid hx0
      clear hc hx hbk htk hx0
      by_cases he : x ≤ end0
      · have hde : decide (x ≤ end0) = true := decide_eq_true he
        have HM2 : Hid (MaxTo (l.take (j + 1)) end0 (if best < x then x else best)) := by show MaxTo _ _ _; rw [HTK.out]; exact HM.out.in HX0.out.1 he
        by_cases hbx : best < x
        · have HM3 : Hid (MaxTo (l.take (j + 1)) end0 x) := by
            have h1 := HM2.out
            rw [if_pos hbx] at h1
            exact h1
          have hmx : max best x = x := by omega
          have hmx2 : (if best < x then x else best) = x := if_pos hbx
          have hmd : decide (best < x) = true := decide_eq_true hbx
          clear HM2 HTK HX0 he hbx
          go_wp2
          go_roundw
          case rel => exact ⟨j + 1, x, by first | rfl | rw [hmx], rfl, by omega, HM3.out, HB.out⟩
          case measure => simp [intOf]; omega
        · have HM3 : Hid (MaxTo (l.take (j + 1)) end0 best) := by
            have h1 := HM2.out
            rw [if_neg hbx] at h1
            exact h1
          have hmx : max best x = best := by omega
          have hmx2 : (if best < x then x else best) = best := if_neg hbx
          have hmd : decide (best < x) = false := decide_eq_false hbx
          clear HM2 HTK HX0 he hbx
          go_wp2
          go_roundw
          case rel => exact ⟨j + 1, best, by first | rfl | rw [hmx], rfl, by omega, HM3.out, HB.out⟩
          case measure => simp [intOf]; omega
      · have hde : decide (x ≤ end0) = false := decide_eq_false he
        have HM2 : Hid (MaxTo (l.take (j + 1)) end0 best) := by show MaxTo _ _ _; rw [HTK.out]; exact HM.out.out he
        clear HTK HX0 he
        go_wp2
        go_roundw
        case rel => exact ⟨j + 1, best, rfl, rfl, by omega, HM2.out, HB.out⟩
        case measure => simp [intOf]; omega
    · have hd : decide (j < n) = false := decide_eq_false hlt
      have hjn : j = n := by omega
      have hm := HM.out
      rw [hjn, List.take_of_length_le (by rw [HN.out]; exact Nat.le_refl _)] at hm
      obtain ⟨b, h1, h2, h3⟩ := HF.out best hm
      have H1 := Lib.hid h1
      have H2 := Lib.hid h2
      have H3 := Lib.hid h3
      clear hm h1 h2 h3 hjn
      go_wp2_with fail
      refine (file_any wo best ⟨#[115, 110, 97, 112, 115, 104, 111, 116]⟩ (by decide)).mono ?_
      rintro e w9 ⟨rfl, hb9⟩
      have HB9 := Lib.hid ((HB1.out.trans (HB.out.mono HB1.out.size)).trans (hb9.mono (Nat.le_trans HB1.out.size HB.out.size)))
      have e1 : fileV best ⟨#[115, 110, 97, 112, 115, 104, 111, 116]⟩ = b.getD ⟨#[]⟩ := H1.out
      have e2 : fileO best ⟨#[115, 110, 97, 112, 115, 104, 111, 116]⟩ = b.isSome := H2.out
      rw [e1, e2]
      clear e1 e2 hb9
      go_wp2
      go_ret2
      exact ⟨b, rfl, H3.out, HB9.out⟩
end Go.Proofs.YtgohekjkbgfeeaaGreat
