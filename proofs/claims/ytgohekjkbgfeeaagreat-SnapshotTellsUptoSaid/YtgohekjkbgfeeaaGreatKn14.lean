/- Parts of a proof, merged: Shelf, NameCount, NameUpper, NameFile, NameParse, NameRefSmall, NameRefCount, NameRefFile, NameRefParse, Row32, NameRefRunes, NameRefLess, SnNames. -/
import Derived.Shelf.Small.Bits
import Derived.Shelf.Strconv.Itoa0
import Derived.Shelf.LaysM
import Derived.Shelf.Strconv.Clone
import Derived.Shelf.Strings.Search1
import Derived.Shelf.Strings.Search2
import Derived.Shelf.Strings.Search3
import Derived.Shelf.Strings.Cut
import Derived.Shelf.Strings.Shaped
import Derived.Shelf.SortM.Plain
import Derived.Shelf.SortM.SortNone
import Derived.Test.YtgohekjkbgfeeaaGreatProg
import Derived.Lib.OthersKept
import Derived.BigQuiet
import Derived.Deep.QuietTactic
import Derived.Lib.Hide
import Derived.WalkKit
import Derived.BigCall
import Derived.Below
import Derived.Deep.Light
import Derived.Test.YtgohekjkbgfeeaaGreatKn13
import Derived.Test.YtgohekjkbgfeeaaGreatKn1
namespace Go.Proofs
open Go.Shelf
def Tryz.laysM316_ren : Go.Shelf.Ren := ⟨fun | 316 => 148 | n => n, fun | 9 => 9 | 3 => 3 | 4 => 4 | 37 => 31 | 0 => 0 | 127 => 187 | 5 => 5 | n => n, fun | n => n⟩
theorem Tryz.laysM316 : Go.Proofs.LaysM.n316 Tryz.prog Tryz.laysM316_ren := {
  mixed := by kernel_rfl
  f316 := Tryz.func148.trans (congrArg some (by kernel_rfl))
  t0 := Tryz.underlying0
  a0 := Tryz.isAgg0
  z0 := Tryz.sizeOf0
  v0 := Tryz.zeroValue0
  t3 := Tryz.underlying3
  a3 := Tryz.isAgg3
  z3 := Tryz.sizeOf3
  v3 := Tryz.zeroValue3
  t4 := Tryz.underlying4
  a4 := Tryz.isAgg4
  z4 := Tryz.sizeOf4
  v4 := Tryz.zeroValue4
  t9 := Tryz.underlying9
  a9 := Tryz.isAgg9
  z9 := Tryz.sizeOf9
  v9 := Tryz.zeroValue9
  t37 := Tryz.underlying31
  a37 := Tryz.isAgg31
  z37 := Tryz.sizeOf31
  v37 := Tryz.zeroValue31
  t127 := Tryz.underlying187
  a127 := Tryz.isAgg187
  z127 := Tryz.sizeOf187
  v127 := Tryz.zeroValue187
  t5 := Tryz.underlying5
  a5 := Tryz.isAgg5
  z5 := Tryz.sizeOf5
  v5 := Tryz.zeroValue5
  i0 := by kernel_rfl
  i3 := by kernel_rfl
  i4 := by kernel_rfl
  i5 := by kernel_rfl
  i9 := by kernel_rfl
  i37 := by kernel_rfl
  i127 := by kernel_rfl }
open Go.RowKit in
theorem Tryz.stringslite_Clone (s : ByteArray) (w : World) (hlim : s.size ≤ 281474976710656) :
    Calls Tryz.prog 148 #[.string s] w fun e w' => e = .returned (.string s) ∧ Below w.heap.size w w' := Any.stringslite_Clone Tryz.laysM316 s w hlim
def Tryz.lays219_ren : Go.Shelf.Ren := ⟨fun | 219 => 150 | 217 => 160 | 225 => 161 | 224 => 162 | 267 => 163 | 266 => 165 | 314 => 166 | n => n, fun | 9 => 9 | 3 => 3 | 4 => 4 | 5 => 5 | 46 => 36 | 146 => 192 | 51 => 82 | n => n, fun | 1 => 0 | n => n⟩
theorem Tryz.lays219 : Go.Proofs.Lays.n219 Tryz.prog Tryz.lays219_ren := {
  mixed := by kernel_rfl
  f217 := Tryz.func160.trans (congrArg some (by kernel_rfl))
  f219 := Tryz.func150.trans (congrArg some (by kernel_rfl))
  f224 := Tryz.func162.trans (congrArg some (by kernel_rfl))
  f225 := Tryz.func161.trans (congrArg some (by kernel_rfl))
  f266 := Tryz.func165.trans (congrArg some (by kernel_rfl))
  f267 := Tryz.func163.trans (congrArg some (by kernel_rfl))
  f314 := Tryz.func166.trans (congrArg some (by kernel_rfl))
  t3 := Tryz.underlying3
  a3 := Tryz.isAgg3
  z3 := Tryz.sizeOf3
  v3 := Tryz.zeroValue3
  t4 := Tryz.underlying4
  a4 := Tryz.isAgg4
  z4 := Tryz.sizeOf4
  v4 := Tryz.zeroValue4
  t5 := Tryz.underlying5
  a5 := Tryz.isAgg5
  z5 := Tryz.sizeOf5
  v5 := Tryz.zeroValue5
  t9 := Tryz.underlying9
  a9 := Tryz.isAgg9
  z9 := Tryz.sizeOf9
  v9 := Tryz.zeroValue9
  t46 := Tryz.underlying36
  a46 := Tryz.isAgg36
  z46 := Tryz.sizeOf36
  v46 := Tryz.zeroValue36
  t51 := Tryz.underlying82
  a51 := Tryz.isAgg82
  z51 := Tryz.sizeOf82
  v51 := Tryz.zeroValue82
  t146 := Tryz.underlying192
  a146 := Tryz.isAgg192
  z146 := Tryz.sizeOf192
  v146 := Tryz.zeroValue192
  g1 := by kernel_rfl }
open Go.RowKit Go.Lib in
theorem Tryz.stringslite_Index_one (s : ByteArray) (c : UInt8) (w : World) :
    Calls Tryz.prog 150 #[.string s, .string ⟨#[c]⟩] w fun e w' => e = .returned (.int .i64 (Lib.indexByte s.data.toList c)) ∧ w' = w := Any.stringslite_Index_one Tryz.lays219 s c w
def Tryz.lays144_ren : Go.Shelf.Ren := ⟨fun | 144 => 100 | 143 => 128 | 219 => 150 | 217 => 160 | 225 => 161 | 224 => 162 | 267 => 163 | 266 => 165 | 314 => 166 | n => n, fun | 9 => 9 | 4 => 4 | 3 => 3 | 5 => 5 | 46 => 36 | 146 => 192 | 51 => 82 | n => n, fun | 1 => 0 | n => n⟩
theorem Tryz.lays144 : Go.Proofs.Lays.n144 Tryz.prog Tryz.lays144_ren := {
  mixed := by kernel_rfl
  f143 := Tryz.func128.trans (congrArg some (by kernel_rfl))
  f144 := Tryz.func100.trans (congrArg some (by kernel_rfl))
  f217 := Tryz.func160.trans (congrArg some (by kernel_rfl))
  f219 := Tryz.func150.trans (congrArg some (by kernel_rfl))
  f224 := Tryz.func162.trans (congrArg some (by kernel_rfl))
  f225 := Tryz.func161.trans (congrArg some (by kernel_rfl))
  f266 := Tryz.func165.trans (congrArg some (by kernel_rfl))
  f267 := Tryz.func163.trans (congrArg some (by kernel_rfl))
  f314 := Tryz.func166.trans (congrArg some (by kernel_rfl))
  t3 := Tryz.underlying3
  a3 := Tryz.isAgg3
  z3 := Tryz.sizeOf3
  v3 := Tryz.zeroValue3
  t4 := Tryz.underlying4
  a4 := Tryz.isAgg4
  z4 := Tryz.sizeOf4
  v4 := Tryz.zeroValue4
  t5 := Tryz.underlying5
  a5 := Tryz.isAgg5
  z5 := Tryz.sizeOf5
  v5 := Tryz.zeroValue5
  t9 := Tryz.underlying9
  a9 := Tryz.isAgg9
  z9 := Tryz.sizeOf9
  v9 := Tryz.zeroValue9
  t46 := Tryz.underlying36
  a46 := Tryz.isAgg36
  z46 := Tryz.sizeOf36
  v46 := Tryz.zeroValue36
  t51 := Tryz.underlying82
  a51 := Tryz.isAgg82
  z51 := Tryz.sizeOf82
  v51 := Tryz.zeroValue82
  t146 := Tryz.underlying192
  a146 := Tryz.isAgg192
  z146 := Tryz.sizeOf192
  v146 := Tryz.zeroValue192
  g1 := by kernel_rfl }
open Go.RowKit Go.Lib in
theorem Tryz.strings_Contains_one (s : ByteArray) (c : UInt8) (w : World) :
    Calls Tryz.prog 100 #[.string s, .string ⟨#[c]⟩] w fun e w' => e = .returned (.bool (decide (0 ≤ Lib.indexByte s.data.toList c))) ∧ w' = w := Any.strings_Contains_one Tryz.lays144 s c w
def Tryz.laysSlM5_f68_ren : Go.Shelf.Ren := ⟨fun | 5 => 68 | 8 => 103 | 7 => 102 | 19 => 138 | 20 => 139 | 10 => 129 | 11 => 130 | 12 => 131 | 13 => 132 | 14 => 133 | 15 => 134 | 16 => 135 | 17 => 136 | 18 => 137 | 30 => 151 | 31 => 152 | 32 => 153 | 33 => 154 | 34 => 155 | 35 => 156 | 40 => 164 | n => n, fun | 23 => 42 | 25 => 2 | 3 => 3 | 32 => 36 | 22 => 42 | 0 => 0 | 44 => 82 | 46 => 119 | 4 => 4 | 36 => 170 | 35 => 169 | 41 => 116 | 5 => 5 | 9 => 9 | 53 => 180 | 57 => 184 | 63 => 189 | 64 => 190 | n => n, fun | n => n⟩
theorem Tryz.laysSlM5_f68 : Go.Proofs.SlLaysM.n5 Tryz.prog Tryz.laysSlM5_f68_ren := {
  mixed := by kernel_rfl
  f5 := ⟨Tryz.f68.name, by decide, Tryz.func68.trans (congrArg some (by kernel_rfl))⟩
  f7 := ⟨Tryz.f102.name, by decide, Tryz.func102.trans (congrArg some (by kernel_rfl))⟩
  f8 := Tryz.func103.trans (congrArg some (by kernel_rfl))
  f10 := ⟨Tryz.f129.name, by decide, Tryz.func129.trans (congrArg some (by kernel_rfl))⟩
  f11 := ⟨Tryz.f130.name, by decide, Tryz.func130.trans (congrArg some (by kernel_rfl))⟩
  f12 := ⟨Tryz.f131.name, by decide, Tryz.func131.trans (congrArg some (by kernel_rfl))⟩
  f13 := ⟨Tryz.f132.name, by decide, Tryz.func132.trans (congrArg some (by kernel_rfl))⟩
  f14 := ⟨Tryz.f133.name, by decide, Tryz.func133.trans (congrArg some (by kernel_rfl))⟩
  f15 := ⟨Tryz.f134.name, by decide, Tryz.func134.trans (congrArg some (by kernel_rfl))⟩
  f16 := ⟨Tryz.f135.name, by decide, Tryz.func135.trans (congrArg some (by kernel_rfl))⟩
  f17 := ⟨Tryz.f136.name, by decide, Tryz.func136.trans (congrArg some (by kernel_rfl))⟩
  f18 := ⟨Tryz.f137.name, by decide, Tryz.func137.trans (congrArg some (by kernel_rfl))⟩
  f19 := Tryz.func138.trans (congrArg some (by kernel_rfl))
  f20 := Tryz.func139.trans (congrArg some (by kernel_rfl))
  f30 := ⟨Tryz.f151.name, by decide, Tryz.func151.trans (congrArg some (by kernel_rfl))⟩
  f31 := Tryz.func152.trans (congrArg some (by kernel_rfl))
  f32 := Tryz.func153.trans (congrArg some (by kernel_rfl))
  f33 := ⟨Tryz.f154.name, by decide, Tryz.func154.trans (congrArg some (by kernel_rfl))⟩
  f34 := ⟨Tryz.f155.name, by decide, Tryz.func155.trans (congrArg some (by kernel_rfl))⟩
  f35 := ⟨Tryz.f156.name, by decide, Tryz.func156.trans (congrArg some (by kernel_rfl))⟩
  f40 := ⟨Tryz.f164.name, by decide, Tryz.func164.trans (congrArg some (by kernel_rfl))⟩
  t0 := Tryz.underlying0
  a0 := Tryz.isAgg0
  z0 := Tryz.sizeOf0
  v0 := Tryz.zeroValue0
  t3 := Tryz.underlying3
  a3 := Tryz.isAgg3
  z3 := Tryz.sizeOf3
  v3 := Tryz.zeroValue3
  t4 := Tryz.underlying4
  a4 := Tryz.isAgg4
  z4 := Tryz.sizeOf4
  v4 := Tryz.zeroValue4
  t5 := Tryz.underlying5
  a5 := Tryz.isAgg5
  z5 := Tryz.sizeOf5
  v5 := Tryz.zeroValue5
  t9 := Tryz.underlying9
  a9 := Tryz.isAgg9
  z9 := Tryz.sizeOf9
  v9 := Tryz.zeroValue9
  t22 := Tryz.underlying42
  a22 := Tryz.isAgg42
  z22 := Tryz.sizeOf42
  v22 := Tryz.zeroValue42
  t23 := Tryz.underlying42
  a23 := Tryz.isAgg42
  z23 := Tryz.sizeOf42
  v23 := Tryz.zeroValue42
  t25 := Tryz.underlying2
  a25 := Tryz.isAgg2
  z25 := Tryz.sizeOf2
  v25 := Tryz.zeroValue2
  t32 := Tryz.underlying36
  a32 := Tryz.isAgg36
  z32 := Tryz.sizeOf36
  v32 := Tryz.zeroValue36
  t35 := Tryz.underlying169
  a35 := Tryz.isAgg169
  z35 := Tryz.sizeOf169
  v35 := Tryz.zeroValue169
  t36 := Tryz.underlying170
  a36 := Tryz.isAgg170
  z36 := Tryz.sizeOf170
  v36 := Tryz.zeroValue170
  t41 := Tryz.underlying116
  a41 := Tryz.isAgg116
  z41 := Tryz.sizeOf116
  v41 := Tryz.zeroValue116
  t44 := Tryz.underlying82
  a44 := Tryz.isAgg82
  z44 := Tryz.sizeOf82
  v44 := Tryz.zeroValue82
  t46 := Tryz.underlying119
  a46 := Tryz.isAgg119
  z46 := Tryz.sizeOf119
  v46 := Tryz.zeroValue119
  t53 := Tryz.underlying180
  a53 := Tryz.isAgg180
  z53 := Tryz.sizeOf180
  v53 := Tryz.zeroValue180
  t57 := Tryz.underlying184
  a57 := Tryz.isAgg184
  z57 := Tryz.sizeOf184
  v57 := Tryz.zeroValue184
  t63 := Tryz.underlying189
  a63 := Tryz.isAgg189
  z63 := Tryz.sizeOf189
  v63 := Tryz.zeroValue189
  t64 := Tryz.underlying190
  a64 := Tryz.isAgg190
  z64 := Tryz.sizeOf190
  v64 := Tryz.zeroValue190 }
open Go.Sort Go.RowKit in
theorem Tryz.slices_Sort_int (blk off cap : Nat) (zs : List Int) (w : World) (hH : Holds (Value.int .i64) w blk off zs.toArray) (hblk : blk < w.heap.size) (hsz : zs.length < 4611686018427387904) :
    Calls Tryz.prog 68 #[.slice (some ⟨blk, off, none⟩) zs.length cap] w fun e w' =>
      e = .returned (.tuple #[]) ∧ ∃ n os, w' = grow (putRow (Value.int .i64) (Sort.ahead w n) blk off (zs.mergeSort fun x y => decide (x ≤ y)).toArray) os := AnyM.slices_Sort_int Tryz.laysSlM5_f68 blk off cap zs w hH hblk hsz
open Go.RowKit Go.Sort in
theorem Tryz.slices_Sort_int_none (p : Option Addr) (cap : Nat) (w : World) :
    Calls Tryz.prog 68 #[.slice p 0 cap] w fun e w' => e = .returned (.tuple #[]) ∧ w' = w := AnyM.slices_Sort_int_none Tryz.laysSlM5_f68 p cap w
end Go.Proofs
namespace Go.Proofs.YtgohekjkbgfeeaaGreat
open Go.RowKit
open Go.RuneMath
set_option linter.unusedVariables false

def bs (l : List UInt8) : ByteArray := ⟨l.toArray⟩
theorem bs_list (l : List UInt8) : (bs l).data.toList = l := rfl
theorem bs_self (s : ByteArray) : bs s.data.toList = s := Lib.ofBytes s
theorem bs_append (a b : List UInt8) : bs a ++ bs b = bs (a ++ b) := by
 unfold bs
 apply ByteArray.ext
 simp
theorem bs_size (l : List UInt8) : (bs l).size = l.length := by unfold bs; simp [ByteArray.size]
theorem bs_inj {a b : List UInt8} (h : bs a = bs b) : a = b := by
 have := congrArg (fun x => x.data.toList) h
 exact this
theorem encode_bs {r : Nat} (h : Scal r) : Utf8.encode (r : Int) = bs (enc r) := by
 have hv : Utf8.valid (r : Int) = true := by
  unfold Scal at h
  unfold Utf8.valid
  simp
  omega
 unfold Scal at h
 unfold Utf8.encode enc Lib.encodeRune
 rw [if_pos hv]
 simp only [Int.toNat_natCast]
 by_cases h1 : r < 128
 · rw [if_pos (by omega), Lib.encodeRuneZ_one (by omega) (by omega)]
   simp [bs]
 · by_cases h2 : r < 2048
   · rw [if_neg (by omega), if_pos (by omega), Lib.encodeRuneZ_two (by omega) (by omega)]
     unfold bs
     congr 1
   · by_cases h3 : r < 65536
     · rw [if_neg (by omega), if_neg (by omega), if_pos (by omega), Lib.encodeRuneZ_three (by omega)]
       unfold bs
       congr 1
     · rw [if_neg (by omega), if_neg (by omega), if_neg (by omega), Lib.encodeRuneZ_four (by omega) (by omega)]
       unfold bs
       congr 1

end Go.Proofs.YtgohekjkbgfeeaaGreat
namespace Go.Proofs.YtgohekjkbgfeeaaGreat
open Go.RowKit
open Go.RuneMath
set_option linter.unusedVariables false

/-- A block that is an array of bytes. -/
def Arr (w : World) (b : Nat) (l : List UInt8) : Prop := w.heap[b]? = some (.cells (Lib.byteCells l).toArray 167 (0, 0))
theorem arr_cell {w : World} {b : Nat} {l : List UInt8} (h : Arr w b l) (i : Nat) (hi : i < l.length) : w.cell? ⟨b, i, none⟩ = some (.int .u8 ((l.getD i 0).toNat : Int)) := by
 rw [cell_of_row w b i _ _ _ h]
 simp [Lib.byteCells, hi]
theorem arr_free {w : World} {b : Nat} {l : List UInt8} (h : Arr w b l) (i : Nat) : w.frozen? ⟨b, i, none⟩ = false := frozen_of_row w b i _ _ h
theorem arr_set {w : World} {b : Nat} {l : List UInt8} (h : Arr w b l) (i : Nat) (c : UInt8) : Arr (w.setCell ⟨b, i, none⟩ (.int .u8 (c.toNat : Int))) b (l.set i c) := by
 have := heap_setCell_same w b i _ _ (.int .u8 (c.toNat : Int)) h
 unfold Arr
 rw [this]
 congr 2
 simp [Lib.byteCells]
theorem arr_byt {w : World} {b : Nat} {l : List UInt8} (h : Arr w b l) : Byt w (some ⟨b, 0, none⟩) l.length l.length (l.map (·.toNat)) := by
 refine ⟨by simp, Nat.le_refl _, ?_, .inr ⟨b, 0, rfl, fun i hi => ?_⟩⟩
 · intro x hx
   obtain ⟨c, _, rfl⟩ := List.mem_map.1 hx
   exact c.toNat_lt
 · rw [Nat.zero_add, arr_cell h i hi]
   simp [hi]
theorem str_bs (l : List UInt8) : str (l.map (·.toNat)) = bs l := by
 unfold str bs
 rw [List.map_map]
 congr 2
 conv => rhs; rw [← List.map_id l]
 apply List.map_congr_left
 intro c _
 simp
theorem set_pad {i : Nat} (hi : i < 20) (suf : List UInt8) (c : UInt8) : (List.replicate (20 - i) (0 : UInt8) ++ suf).set (19 - i) c = List.replicate (20 - (i + 1)) (0 : UInt8) ++ (c :: suf) := by
 have e : 20 - i = (20 - (i + 1)) + 1 := by omega
 rw [e, List.replicate_succ', List.append_assoc, List.set_append]
 rw [if_neg (by simp), show 19 - i - (List.replicate (20 - (i + 1)) (0 : UInt8)).length = 0 by simp]
 rfl
theorem dig_more {n m i : Nat} {suf : List UInt8} (hi : i < 20) (h : dig n 20 = dig m (20 - i) ++ suf) : dig n 20 = dig (m / 10) (20 - (i + 1)) ++ (UInt8.ofNat (48 + m % 10) :: suf) := by
 have e : 20 - i = (20 - (i + 1)) + 1 := by omega
 rw [h, e, dig, List.append_assoc]
 rfl
def PadR (n : Nat) (w wr : World) (i m : Nat) : Prop := ∃ suf : List UInt8, Arr wr w.heap.size (List.replicate (20 - i) 0 ++ suf) ∧ suf.length = i ∧ dig n 20 = dig m (20 - i) ++ suf ∧ Below w.heap.size w wr
theorem PadR.cell {n i m : Nat} {w wr : World} (h : PadR n w wr i m) (hi : i < 20) : ∃ x : Int, wr.cell? ⟨w.heap.size, 19 - i, none⟩ = some (.int .u8 x) := by
 obtain ⟨suf, ha, hs, _⟩ := h
 exact ⟨_, arr_cell ha (19 - i) (by rw [List.length_append, List.length_replicate, hs]; omega)⟩
theorem PadR.free {n i m : Nat} {w wr : World} (h : PadR n w wr i m) (j : Nat) : wr.frozen? ⟨w.heap.size, j, none⟩ = false := by
 obtain ⟨suf, ha, hs, _⟩ := h
 exact arr_free ha j
theorem PadR.next {n i m j : Nat} {w wr : World} {x : Int} (h : PadR n w wr i m) (hi : i < 20) (hj : j = 19 - i) (hx : x = 48 + (m % 10 : Nat)) : PadR n w (wr.setCell ⟨w.heap.size, j, none⟩ (.int .u8 x)) (i + 1) (m / 10) := by
 obtain ⟨suf, ha, hs, hd, hb⟩ := h
 have e : x = ((UInt8.ofNat (48 + m % 10)).toNat : Int) := by
  rw [digit_nat, hx]
  omega
 subst hj
 refine ⟨UInt8.ofNat (48 + m % 10) :: suf, ?_, by simp [hs], dig_more hi hd, hb.setCell (p := ⟨w.heap.size, 19 - i, none⟩) (Nat.le_refl _) _⟩
 rw [← set_pad hi, e]
 exact arr_set ha _ _
theorem PadR.start (n : Nat) (w : World) (o : Obj) (ho : o = .cells (Lib.byteCells (List.replicate 20 0)).toArray 167 (0, 0)) : PadR n w (w.alloc o) 0 n := by
 subst ho
 refine ⟨[], ?_, rfl, by simp, (Below.refl _ w).alloc (Nat.le_refl _) _⟩
 exact heap_alloc_new w _
theorem PadR.done {n m : Nat} {w wr : World} (h : PadR n w wr 20 m) : Byt wr (some ⟨w.heap.size, 0, none⟩) 20 20 ((dig n 20).map (·.toNat)) ∧ Below w.heap.size w wr := by
 obtain ⟨suf, ha, hs, hd, hb⟩ := h
 rw [show 20 - 20 = 0 from rfl, List.replicate_zero, List.nil_append] at ha
 rw [show 20 - 20 = 0 from rfl, dig, List.nil_append] at hd
 refine ⟨?_, hb⟩
 have := arr_byt ha
 rw [hs] at this
 rw [hd]
 exact this
def padS (n : Nat) : ByteArray := bs (dig n 20)
def Pads (n : Nat) (w : World) (e : Ending) (w' : World) : Prop := e = .returned (.string (padS n)) ∧ Below w.heap.size w w'
set_option maxHeartbeats 400000 in
set_option maxRecDepth 100000 in
theorem padded_any (w : World) (n : Nat) (hn : n ≤ 1099511627776) : Calls Tryz.prog 101 #[.int .i64 (n : Int)] w (Pads n w) := by
 go_enter Tryz.func101, Tryz.ntmps101
 go_wp2
 go_loopw [0, 5] (fun v0 v5 wr => ∃ (i m : Nat), i ≤ 20 ∧ v0 = .int .i64 m ∧ v5 = .int .i64 i ∧ m ≤ 1099511627776 ∧ PadR n w wr i m) (fun _ v5 _ => 20 - (intOf v5).toNat)
 case atStart =>
  refine ⟨0, n, by omega, rfl, rfl, hn, ?_⟩
  exact PadR.start n w _ rfl
 case round =>
  obtain ⟨i, m, hi, rfl, rfl, hm, hpad⟩ := hrel
  have HP := Lib.hid hpad
  clear hpad
  by_cases h20 : i < 20
  · obtain ⟨x, hc⟩ := HP.out.cell h20
    have hf := HP.out.free (19 - i)
    obtain ⟨d, hde⟩ : ∃ d, d = m % 10 := ⟨_, rfl⟩
    obtain ⟨q, hqe⟩ : ∃ q, q = m / 10 := ⟨_, rfl⟩
    have hd10 : d < 10 := by omega
    have hq10 : q ≤ 1099511627776 := by omega
    have hsub : (19 : Int) - (i : Int) = ((19 - i : Nat) : Int) := by omega
    have hmod : (m : Int) % 10 = (d : Int) := by omega
    have hdiv : (m : Int) / 10 = (q : Int) := by omega
    have hlt : 19 - i < 20 := by omega
    have HDE := Lib.hid hde
    have HQE := Lib.hid hqe
    clear hde hqe
    obtain ⟨j, hj⟩ : ∃ j, j = 19 - i := ⟨_, rfl⟩
    rw [← hj] at hsub hc hf hlt
    have HJ := Lib.hid hj
    clear hj
    go_wp2
    go_roundw
    case rel => exact ⟨i + 1, q, by omega, rfl, by go_num, hq10, by rw [HQE.out]; exact HP.out.next h20 HJ.out (by rw [← HDE.out])⟩
    case measure => simp [intOf]; omega
  · obtain rfl : i = 20 := by omega
    have hcv := run_str_at HP.out.done.1 (str_bs _).symm
    rw [show bs (dig n 20) = padS n from rfl] at hcv
    go_wp2
    go_ret
    exact ⟨rfl, HP.out.done.2⟩

/-! ### File -/
def fileV (n : Int) (k : ByteArray) : ByteArray := bs (fileS n k.data.toList)
def fileO (n : Int) (k : ByteArray) : Bool := okFile n k.data.toList
def Files (n : Int) (k : ByteArray) (w : World) (e : Ending) (w' : World) : Prop := e = .returned (.tuple #[.string (fileV n k), .bool (fileO n k)]) ∧ Below w.heap.size w w'
theorem files_no {n : Int} {k : ByteArray} {w w' : World} (h : okFile n k.data.toList = false) (hb : Below w.heap.size w w') : Files n k w (.returned (.tuple #[.string ⟨#[]⟩, .bool false])) w' := by
 refine ⟨?_, hb⟩
 unfold fileV fileO fileS
 rw [h]
 rfl
theorem file_val {n : Nat} {k : ByteArray} (h : okFile n k.data.toList = true) : padS n ++ ⟨#[46]⟩ ++ k = fileV n k := by
 unfold fileV fileS
 rw [if_pos h]
 conv => lhs; rw [← bs_self k]
 show bs (dig n 20) ++ bs [46] ++ bs k.data.toList = _
 rw [bs_append, bs_append, List.append_assoc]
 rfl
theorem files_yes {n : Nat} {k : ByteArray} {w w' : World} {s : ByteArray} (h : okFile n k.data.toList = true) (hs : s = padS n ++ ⟨#[46]⟩ ++ k) (hb : Below w.heap.size w w') : Files n k w (.returned (.tuple #[.string s, .bool true])) w' := by
 refine ⟨?_, hb⟩
 rw [hs, file_val h]
 unfold fileO
 rw [h]
theorem padS_size (n : Nat) : (padS n).size = 20 := by unfold padS; rw [bs_size, dig_len]
theorem contains_index : ∀ (l : List UInt8) (c : UInt8), decide (0 ≤ Lib.indexByte l c) = l.contains c
 | [], c => by simp [Lib.indexByte]
 | b :: l, c => by
   have ih := contains_index l c
   have hg := Lib.indexByte_ge l c
   unfold Lib.indexByte
   by_cases h : b = c
   · subst h
     simp
   · have h1 : (b == c) = false := by simpa using h
     have h2 : (c == b) = false := by simpa using fun e => h e.symm
     rw [h1, List.contains_cons, h2, Bool.false_or, ← ih]
     by_cases h3 : Lib.indexByte l c = -1
     · rw [h3]
       rfl
     · have h4 : (Lib.indexByte l c == -1) = false := by simpa using h3
       rw [h4, Bool.eq_iff_iff]
       simp
       omega
theorem ok_neg {n : Int} {l : List UInt8} (h : n < 0 ∨ 1099511627776 < n) : okFile n l = false := by
 unfold okFile
 rcases h with h | h
 · rw [decide_eq_false (show ¬ 0 ≤ n by omega)]; rfl
 · rw [decide_eq_false (show ¬ n ≤ 1099511627776 by omega)]; simp
theorem ok_right {n : Int} {l : List UInt8} (h : rightB l = false) : okFile n l = false := by
 unfold okFile
 rw [h]; simp
theorem ok_dot {n : Int} {l : List UInt8} (h : l.contains 46 = true) : okFile n l = false := by
 unfold okFile
 rw [h]; simp
theorem ok_yes {n : Int} {l : List UInt8} (h0 : 0 ≤ n) (h1 : n ≤ 1099511627776) (h2 : rightB l = true) (h3 : l.contains 46 = false) : okFile n l = true := by
 unfold okFile
 rw [h2, h3, decide_eq_true h0, decide_eq_true h1]; rfl
set_option maxHeartbeats 400000 in
set_option maxRecDepth 100000 in
theorem file_any (w : World) (n : Int) (k : ByteArray) (hk : k.size ≤ 1073741824) : Calls Tryz.prog 67 #[.int .i64 n, .string k] w (Files n k w) := by
 by_cases h0 : n < 0
 · have HF := Lib.hid (ok_neg (l := k.data.toList) (.inl h0))
   go_enter Tryz.func67, Tryz.ntmps67
   go_wp2
   go_ret2
   exact files_no HF.out (Below.refl _ _)
 · by_cases h1 : 1099511627776 < n
   · have HF := Lib.hid (ok_neg (l := k.data.toList) (.inr h1))
     go_enter Tryz.func67, Tryz.ntmps67
     go_wp2
     go_ret2
     exact files_no HF.out (Below.refl _ _)
   · obtain ⟨m, rfl⟩ : ∃ m : Nat, n = m := ⟨n.toNat, by omega⟩
     have hm : m ≤ 1099511627776 := by omega
     clear h0 h1
     have CR0 := fun W => right_any W k
     unfold Rights at CR0
     obtain ⟨r, hr⟩ : ∃ r, r = rightB k.data.toList := ⟨_, rfl⟩
     rw [← hr] at CR0
     have CR := Lib.hid CR0
     have HR := Lib.hid hr
     clear CR0 hr
     cases r
     · have HF := Lib.hid (ok_right (n := m) HR.out.symm)
       go_enter Tryz.func67, Tryz.ntmps67
       go_wp2_with fail
       refine (CR.out _).mono ?_
       rintro e w1 ⟨rfl, hb1⟩
       have HB1 := Lib.hid hb1
       clear hb1
       go_wp2
       go_ret2
       exact files_no HF.out HB1.out
     · have CC0 := fun W => Tryz.strings_Contains_one k 46 W
       rw [contains_index] at CC0
       obtain ⟨c, hc⟩ : ∃ c, c = k.data.toList.contains 46 := ⟨_, rfl⟩
       rw [← hc] at CC0
       have CC := Lib.hid CC0
       have HC := Lib.hid hc
       clear CC0 hc
       cases c
       · have HF := Lib.hid (ok_yes (n := m) (by omega) (by omega) HR.out.symm HC.out.symm)
         go_enter Tryz.func67, Tryz.ntmps67
         go_wp2_with fail
         refine (CR.out _).mono ?_
         rintro e w1 ⟨rfl, hb1⟩
         have HB1 := Lib.hid hb1
         clear hb1
         go_wp2_with fail
         refine (CC.out _).mono ?_
         rintro e w' ⟨rfl, rfl⟩
         go_wp2_with fail
         refine (padded_any _ m hm).mono ?_
         rintro e w2 ⟨rfl, hb2⟩
         have HB2 := Lib.hid hb2
         clear hb2
         obtain ⟨S, hS⟩ : ∃ S, S = padS m := ⟨_, rfl⟩
         have hz : S.size ≤ 20 := by rw [hS, padS_size]; exact Nat.le_refl _
         rw [← hS]
         have HS := Lib.hid hS
         clear hS
         go_wp2
         go_ret2
         exact files_yes HF.out (by rw [HS.out]) (step HB1.out HB2.out)
       · have HF := Lib.hid (ok_dot (n := m) HC.out.symm)
         go_enter Tryz.func67, Tryz.ntmps67
         go_wp2_with fail
         refine (CR.out _).mono ?_
         rintro e w1 ⟨rfl, hb1⟩
         have HB1 := Lib.hid hb1
         clear hb1
         go_wp2_with fail
         refine (CC.out _).mono ?_
         rintro e w' ⟨rfl, rfl⟩
         go_wp2
         go_ret2
         exact files_no HF.out HB1.out
end Go.Proofs.YtgohekjkbgfeeaaGreat
namespace Go.Proofs.YtgohekjkbgfeeaaGreat
open Go.RowKit
open Go.RuneMath
set_option linter.unusedVariables false

def cutF (l : List UInt8) : List UInt8 := l.takeWhile (· != 46)
def cutK (l : List UInt8) : List UInt8 := (l.dropWhile (· != 46)).drop 1
theorem idx_miss : ∀ (l : List UInt8), Lib.indexByte l 46 = -1 → cutF l = l ∧ cutK l = []
 | [], _ => ⟨rfl, rfl⟩
 | b :: l, h => by
   have hg := Lib.indexByte_ge l 46
   unfold Lib.indexByte at h
   by_cases hb : b = 46
   · subst hb; simp at h
   · have h1 : (b == 46) = false := by simpa using hb
     rw [h1] at h
     by_cases h2 : Lib.indexByte l 46 = -1
     · obtain ⟨e1, e2⟩ := idx_miss l h2
       unfold cutF cutK at *
       have h3 : (b != 46) = true := by simpa using hb
       rw [List.takeWhile_cons, List.dropWhile_cons, h3, if_pos rfl, if_pos rfl, e1, e2]
       exact ⟨rfl, rfl⟩
     · have h3 : (Lib.indexByte l 46 == -1) = false := by simpa using h2
       rw [h3] at h
       simp at h
       omega
theorem idx_hit : ∀ (l : List UInt8) (i : Nat), Lib.indexByte l 46 = (i : Int) → i < l.length ∧ cutF l = l.take i ∧ cutK l = l.drop (i + 1)
 | [], i, h => by simp [Lib.indexByte] at h
 | b :: l, i, h => by
   unfold Lib.indexByte at h
   by_cases hb : b = 46
   · subst hb
     simp at h
     obtain rfl : i = 0 := by omega
     exact ⟨by simp, by simp [cutF], by simp [cutK]⟩
   · have h1 : (b == 46) = false := by simpa using hb
     rw [h1] at h
     by_cases h2 : Lib.indexByte l 46 = -1
     · rw [h2] at h
       simp at h
     · have h3 : (Lib.indexByte l 46 == -1) = false := by simpa using h2
       rw [h3] at h
       simp at h
       obtain ⟨j, rfl⟩ : ∃ j, i = j + 1 := ⟨i - 1, by have := Lib.indexByte_ge l 46; omega⟩
       obtain ⟨e0, e1, e2⟩ := idx_hit l j (by omega)
       unfold cutF cutK at *
       have h4 : (b != 46) = true := by simpa using hb
       rw [List.takeWhile_cons, List.dropWhile_cons, h4, if_pos rfl, if_pos rfl, e1, e2]
       exact ⟨by simpa using e0, by rw [List.take_succ_cons], by rw [List.drop_succ_cons]⟩
theorem cut_digits : ∀ (d k : List UInt8), (∀ c ∈ d, 48 ≤ c.toNat ∧ c.toNat ≤ 57) → cutF (d ++ 46 :: k) = d ∧ cutK (d ++ 46 :: k) = k
 | [], k, _ => ⟨by simp [cutF], by simp [cutK]⟩
 | c :: d, k, h => by
   obtain ⟨e1, e2⟩ := cut_digits d k (fun x hx => h x (by simp [hx]))
   have hc : (c != 46) = true := by
    have := h c (by simp)
    simp
    intro e
    subst e
    simp at this
   unfold cutF cutK at *
   rw [List.cons_append, List.takeWhile_cons, List.dropWhile_cons, hc, if_pos rfl, if_pos rfl, e1, e2]
   exact ⟨rfl, rfl⟩
theorem cut_file (n : Nat) (k : List UInt8) : cutF (fileL n k) = dig n 20 ∧ cutK (fileL n k) = k := cut_digits _ _ (dig_all n 20)

def Cuts (s : ByteArray) (w : World) (e : Ending) (w' : World) : Prop := ∃ o : Bool, e = .returned (.tuple #[.string (bs (cutF s.data.toList)), .string (bs (cutK s.data.toList)), .bool o]) ∧ Below w.heap.size w w'
theorem cuts_mk {s F K : ByteArray} {o : Bool} {w w' : World} (hF : F = bs (cutF s.data.toList)) (hK : K = bs (cutK s.data.toList)) (hb : Below w.heap.size w w') : Cuts s w (.returned (.tuple #[.string F, .string K, .bool o])) w' := ⟨o, by rw [hF, hK], hb⟩
theorem bs_take (s : ByteArray) (i : Nat) : s.extract 0 i = bs (s.data.toList.take i) := by
 conv => lhs; rw [← bs_self (s.extract 0 i)]
 congr 1
 rw [Lib.extract_data, List.drop_zero, Nat.sub_zero]
theorem drop_data (s : ByteArray) (i : Nat) : (s.extract i s.size).data.toList = s.data.toList.drop i := by
 rw [Lib.extract_data, List.take_of_length_le (by rw [List.length_drop, ← Lib.size_eq]; exact Nat.le_refl _)]
theorem bs_drop (s : ByteArray) (i : Nat) : s.extract i s.size = bs (s.data.toList.drop i) := by
 conv => lhs; rw [← bs_self (s.extract i s.size)]
 rw [drop_data]
set_option maxHeartbeats 400000 in
set_option maxRecDepth 100000 in
theorem liteCut_any (w : World) (s : ByteArray) (hs : s.size ≤ 1073741824) : Calls Tryz.prog 146 #[.string s, .string ⟨#[46]⟩] w (Cuts s w) := by
 have CI := Lib.hid (fun W => Tryz.stringslite_Index_one s 46 W)
 rcases (show Lib.indexByte s.data.toList 46 < 0 ∨ 0 ≤ Lib.indexByte s.data.toList 46 by omega) with hneg | hpos
 · have hm1 : Lib.indexByte s.data.toList 46 = -1 := by have := Lib.indexByte_ge s.data.toList 46; omega
   obtain ⟨e1, e2⟩ := idx_miss _ hm1
   have HF : Hid (s = bs (cutF s.data.toList)) := by show _ = _; rw [e1, bs_self]
   have HK : Hid ((⟨#[]⟩ : ByteArray) = bs (cutK s.data.toList)) := by show _ = _; rw [e2]; rfl
   have HM := Lib.hid hm1
   clear hm1 e1 e2 hneg
   go_enter Tryz.func146, Tryz.ntmps146
   go_wp2_with fail
   refine (CI.out _).mono ?_
   rintro e w' ⟨rfl, rfl⟩
   rw [HM.out]
   go_wp2
   go_ret3
   exact cuts_mk HF.out HK.out (Below.refl _ _)
 · obtain ⟨i, hi⟩ : ∃ i : Nat, Lib.indexByte s.data.toList 46 = i := ⟨(Lib.indexByte s.data.toList 46).toNat, by omega⟩
   obtain ⟨hil, e1, e2⟩ := idx_hit _ _ hi
   have hsz : i < s.size := by rw [Lib.size_eq]; exact hil
   have HF : Hid (s.extract 0 i = bs (cutF s.data.toList)) := by show _ = _; rw [e1, bs_take]
   have HK : Hid (s.extract (i + 1) s.size = bs (cutK s.data.toList)) := by show _ = _; rw [e2, bs_drop]
   have HM := Lib.hid hi
   clear hi e1 e2 hil hpos
   go_enter Tryz.func146, Tryz.ntmps146
   go_wp2_with fail
   refine (CI.out _).mono ?_
   rintro e w' ⟨rfl, rfl⟩
   rw [HM.out]
   have hw1 : IntKind.i64.wrap ((i : Int) + 1) = (i : Int) + 1 := IntWalk.i64_in _ (by omega)
   go_wp2
   go_quiet (fail)
   go_wp2
   go_ret3
   exact cuts_mk HF.out HK.out (below_drewN _ _)
set_option maxHeartbeats 400000 in
theorem strCut_any (w : World) (s : ByteArray) (hs : s.size ≤ 1073741824) : Calls Tryz.prog 124 #[.string s, .string ⟨#[46]⟩] w (Cuts s w) := by
 have CI := Lib.hid (fun W => liteCut_any W s hs)
 go_enter Tryz.func124, Tryz.ntmps124
 go_wp2_with fail
 refine (CI.out _).mono ?_
 rintro e w1 ⟨o, rfl, hb1⟩
 have HB1 := Lib.hid hb1
 clear hb1
 go_wp2
 go_ret3
 exact ⟨o, rfl, HB1.out⟩
def Clones (s : ByteArray) (w : World) (e : Ending) (w' : World) : Prop := e = .returned (.string s) ∧ Below w.heap.size w w'
set_option maxHeartbeats 400000 in
theorem clone_any (w : World) (s : ByteArray) (hs : s.size ≤ 1073741824) : Calls Tryz.prog 126 #[.string s] w (Clones s w) := by
 have CI := Lib.hid (fun W => Tryz.stringslite_Clone s W (by omega))
 go_enter Tryz.func126, Tryz.ntmps126
 go_wp2_with fail
 refine (CI.out _).mono ?_
 rintro e w1 ⟨rfl, hb1⟩
 have HB1 := Lib.hid hb1
 clear hb1
 go_wp2
 go_ret
 exact ⟨rfl, HB1.out⟩

/-! ### the number in front -/
def numO (l : List UInt8) : Bool := (numR 0 (runes l)).isSome
def numV (l : List UInt8) : Nat := (numR 0 (runes l)).getD 0
def NameNums (s : ByteArray) (w : World) (e : Ending) (w' : World) : Prop := e = .returned (.tuple #[.int .i64 (numV s.data.toList : Nat), .bool (numO s.data.toList)]) ∧ Below w.heap.size w w'
theorem nameNums_no {s : ByteArray} {w w' : World} (h : numR 0 (runes s.data.toList) = none) (hb : Below w.heap.size w w') : NameNums s w (.returned (.tuple #[.int .i64 0, .bool false])) w' := by
 refine ⟨?_, hb⟩
 unfold numV numO
 rw [h]
 rfl
theorem nameNums_yes {s : ByteArray} {w w' : World} {n : Nat} (h : numR 0 (runes s.data.toList) = some n) (hb : Below w.heap.size w w') : NameNums s w (.returned (.tuple #[.int .i64 (n : Int), .bool true])) w' := by
 refine ⟨?_, hb⟩
 unfold numV numO
 rw [h]
 rfl
theorem num_bad {n r : Nat} {tl : List Nat} (h : digitR r = false) : numR n (r :: tl) = none := by
 unfold digitR at h
 rw [numR, if_neg (by simpa using h)]
theorem num_big {n r : Nat} {tl : List Nat} (h : digitR r = true) (h2 : 1099511627776 < 10 * n + (r - 48)) : numR n (r :: tl) = none := by
 unfold digitR at h
 rw [numR, if_pos (by simpa using h), if_pos h2]
theorem num_next {n r : Nat} {tl : List Nat} (h : digitR r = true) (h2 : ¬ 1099511627776 < 10 * n + (r - 48)) : numR n (r :: tl) = numR (10 * n + (r - 48)) tl := by
 unfold digitR at h
 rw [numR, if_pos (by simpa using h), if_neg h2]
set_option maxHeartbeats 400000 in
set_option maxRecDepth 100000 in
theorem number_any (w : World) (s : ByteArray) : Calls Tryz.prog 125 #[.string s] w (NameNums s w) := by
 go_enter Tryz.func125, Tryz.ntmps125
 go_wp2
 go_loopw [4] (fun v wr => ∃ pos n : Nat, ItAt wr w.heap.size s pos ∧ Below w.heap.size w wr ∧ v = .int .i64 n ∧ n ≤ 1099511627776 ∧ numR 0 (runes s.data.toList) = numR n (rs s pos)) (fun _ wr => s.size - wr.iterPos w.heap.size)
 case atStart => exact ⟨0, 0, it_start w s, (Below.refl _ w).alloc (Nat.le_refl _) _, rfl, by omega, by rw [rs_zero]⟩
 case round =>
  obtain ⟨pos, n, hit, hbw, rfl, hn, hnr⟩ := hrel
  have HI := Lib.hid hit
  have HB := Lib.hid hbw
  have HN := Lib.hid hnr
  clear hit hbw hnr
  by_cases hp : pos < s.size
  · have hnx : ∀ ty, (Instr.next (.pointer (some ⟨w.heap.size, 0, none⟩)) true ty).run Tryz.prog wr = _ := fun ty => Lib.run_next_any_at wr w.heap.size s pos ty HI.out hp
    have HW := Lib.hid (Lib.width_pos s pos)
    have hst := HN.out
    rw [rs_step hp] at hst
    have hr4 := Lib.rune_le s pos
    obtain ⟨r, hr⟩ : ∃ r, r = (Utf8.decode s pos).1 := ⟨_, rfl⟩
    obtain ⟨k, hk⟩ : ∃ k, k = (Utf8.decode s pos).2 := ⟨_, rfl⟩
    rw [← hr, ← hk] at hst
    rw [← hr] at hr4
    rw [← hk] at HW
    simp only [← hr, ← hk] at hnx
    have HT := Lib.hid hst
    clear hst hr hk
    have HB2 := Lib.hid (Lib.below_iterAt HB.out (Nat.le_refl _) s (pos + k))
    have HI2 := Lib.hid (it_next HI.out (pos + k))
    obtain ⟨d, hd⟩ : ∃ d, d = digitR r := ⟨_, rfl⟩
    have CA0 := fun W => digit_any W r
    rw [← hd] at CA0
    have CA := Lib.hid CA0
    have HK := Lib.hid hd
    clear CA0 hd
    cases d
    · have HF : Hid (numR 0 (runes s.data.toList) = none) := by
       show _ = _
       rw [HT.out, num_bad HK.out.symm]
      go_wp2_with fail
      refine (CA.out _).mono ?_
      rintro e w' ⟨rfl, rfl⟩
      go_wp2
      go_ret2
      exact nameNums_no HF.out HB2.out
    · have hr48 : 48 ≤ r ∧ r ≤ 57 := by have := HK.out; unfold digitR at this; simpa using this.symm
      obtain ⟨h48, h57⟩ := hr48
      obtain ⟨c, rfl⟩ : ∃ c, r = 48 + c := ⟨r - 48, by omega⟩
      have hc9 : c ≤ 9 := by omega
      have hsub : ((48 + c : Nat) : Int) - 48 = (c : Int) := by omega
      obtain ⟨m, hm⟩ : ∃ m, m = 10 * n + (48 + c - 48) := ⟨_, rfl⟩
      have hmz : 10 * (n : Int) + (c : Int) = (m : Int) := by omega
      have hmb : m ≤ 10995116277769 := by omega
      by_cases hbig : 1099511627776 < m
      · have HF : Hid (numR 0 (runes s.data.toList) = none) := by
         show _ = _
         rw [HT.out, num_big HK.out.symm (by rw [← hm]; exact hbig)]
        clear hm
        go_wp2_with fail
        refine (CA.out _).mono ?_
        rintro e w' ⟨rfl, rfl⟩
        go_wp2
        all_goals first
         | (exfalso; omega)
         | (go_ret2; exact nameNums_no HF.out HB2.out)
      · have HF : Hid (numR 0 (runes s.data.toList) = numR m (rs s (pos + k))) := by
         show _ = _
         rw [HT.out, num_next HK.out.symm (by rw [← hm]; exact hbig), ← hm]
        have hml : m ≤ 1099511627776 := by omega
        clear hm hbig
        go_wp2_with fail
        refine (CA.out _).mono ?_
        rintro e w' ⟨rfl, rfl⟩
        go_wp2
        all_goals first
         | (exfalso; omega)
         | (go_roundw
            case rel => exact ⟨pos + k, m, HI2.out, HB2.out, by go_num, hml, HF.out⟩
            case measure =>
             rw [it_pos HI2.out, it_pos HI.out]
             have := HW.out
             omega)
  · have hnx : ∀ ty, (Instr.next (.pointer (some ⟨w.heap.size, 0, none⟩)) true ty).run Tryz.prog wr = _ := fun ty => Lib.run_next_end_at wr w.heap.size s pos ty HI.out hp
    have HF : Hid (numR 0 (runes s.data.toList) = some n) := by
     show _ = _
     rw [HN.out, rs_end hp, numR]
    go_wp2
    go_ret2
    exact nameNums_yes HF.out HB.out

/-! ### Parse -/
def Parses (s : ByteArray) (w : World) (e : Ending) (w' : World) : Prop := e = .returned (.tuple #[.int .i64 (parseN s.data.toList : Nat), .string (bs (parseS s.data.toList)), .bool (parseK s.data.toList)]) ∧ Below w.heap.size w w'
theorem parses_no {s : ByteArray} {w w' : World} (h : parseK s.data.toList = false) (hb : Below w.heap.size w w') : Parses s w (.returned (.tuple #[.int .i64 0, .string ⟨#[]⟩, .bool false])) w' := by
 refine ⟨?_, hb⟩
 rw [(parse_no h).1, (parse_no h).2, h]
 rfl
theorem parses_yes {s K : ByteArray} {n : Nat} {w w' : World} (h : parseK s.data.toList = true ∧ parseN s.data.toList = n ∧ bs (parseS s.data.toList) = K) (hb : Below w.heap.size w w') : Parses s w (.returned (.tuple #[.int .i64 (n : Int), .string K, .bool true])) w' := by
 refine ⟨?_, hb⟩
 rw [h.2.1, h.2.2, h.1]
theorem file_ok_val {n : Nat} {k : List UInt8} (h : okFile n k = true) : fileS n k = fileL n k := by
 unfold fileS
 rw [if_pos h]
 rfl
theorem parse_all {l : List UInt8} (h : parseK l = true) : numO (cutF l) = true ∧ fileO (numV (cutF l) : Nat) (bs (cutK l)) = true ∧ fileV (numV (cutF l) : Nat) (bs (cutK l)) = bs l := by
 obtain ⟨h1, h2⟩ := parse_is h
 obtain ⟨n, hn⟩ : ∃ n, n = valD (l.take 20) := ⟨_, rfl⟩
 obtain ⟨k, hk⟩ : ∃ k, k = l.drop 21 := ⟨_, rfl⟩
 rw [← hn, ← hk] at h1 h2
 subst h2
 have e := num_dig (ok_nat h1).1
 rw [(cut_file n k).1, (cut_file n k).2]
 have ev : numV (dig n 20) = n := by unfold numV; rw [e]; rfl
 have eo : numO (dig n 20) = true := by unfold numO; rw [e]; rfl
 rw [ev, eo]
 refine ⟨rfl, h1, ?_⟩
 unfold fileV
 rw [bs_list, file_ok_val h1]
theorem parse_these {l : List UInt8} {n : Nat} {K S : ByteArray} (hS : S = fileV (n : Nat) K) (h2 : fileO (n : Nat) K = true) (h3 : S = bs l) : parseK l = true ∧ parseN l = n ∧ bs (parseS l) = K := by
 unfold fileO at h2
 have e : fileL n K.data.toList = l := by
  rw [hS] at h3
  unfold fileV at h3
  rw [file_ok_val h2] at h3
  exact bs_inj h3
 obtain ⟨a, b, c⟩ := parse_yes h2 e
 exact ⟨a, b, by rw [c, bs_self]⟩
theorem cutK_len (l : List UInt8) : (cutK l).length ≤ l.length := by
 unfold cutK
 rw [List.length_drop]
 have := List.Sublist.length_le (List.dropWhile_sublist (· != (46 : UInt8)) (l := l))
 omega
theorem no_of {b : Bool} {l : List UInt8} (h : parseK l = true → b = true) (hb : b = false) : parseK l = false := by
 cases hp : parseK l
 · rfl
 · have := h hp
   rw [hb] at this
   cases this
set_option maxHeartbeats 400000 in
set_option maxRecDepth 100000 in
theorem nameParse_any (w : World) (s : ByteArray) (hs : s.size ≤ 1073741824) : Calls Tryz.prog 98 #[.string s] w (Parses s w) := by
 have CC0 := fun W => strCut_any W s hs
 unfold Cuts at CC0
 have HKs : (cutK s.data.toList).length ≤ 1073741824 := by
  have := cutK_len s.data.toList
  rw [← Lib.size_eq] at this
  omega
 have PA := Lib.hid (parse_all (l := s.data.toList))
 obtain ⟨F, hF⟩ : ∃ F, F = bs (cutF s.data.toList) := ⟨_, rfl⟩
 obtain ⟨K, hK⟩ : ∃ K, K = bs (cutK s.data.toList) := ⟨_, rfl⟩
 have hKz : K.size ≤ 1073741824 := by rw [hK, bs_size]; exact HKs
 have CN0 := fun W => number_any W F
 unfold NameNums at CN0
 have eF : F.data.toList = cutF s.data.toList := by rw [hF]; rfl
 rw [eF] at CN0
 rw [← hF, ← hK] at CC0
 have PA2 : Hid (parseK s.data.toList = true → numO (cutF s.data.toList) = true ∧ fileO (numV (cutF s.data.toList) : Nat) K = true ∧ fileV (numV (cutF s.data.toList) : Nat) K = s) := by
  intro h
  have := PA.out h
  rw [← hK, bs_self] at this
  exact this
 clear PA HKs eF hF hK
 obtain ⟨no, hno⟩ : ∃ no, no = numO (cutF s.data.toList) := ⟨_, rfl⟩
 obtain ⟨nv, hnv⟩ : ∃ nv, nv = numV (cutF s.data.toList) := ⟨_, rfl⟩
 rw [← hno, ← hnv] at CN0 PA2
 have CC := Lib.hid CC0
 have CN := Lib.hid CN0
 have CK := Lib.hid (fun W => clone_any W K hKz)
 have CF0 := fun W => file_any W (nv : Int) K hKz
 unfold Files at CF0
 obtain ⟨S, hS⟩ : ∃ S, S = fileV (nv : Int) K := ⟨_, rfl⟩
 obtain ⟨o, ho⟩ : ∃ o, o = fileO (nv : Int) K := ⟨_, rfl⟩
 rw [← hS, ← ho] at CF0 PA2
 have HS := Lib.hid hS
 have HO := Lib.hid ho
 have CF := Lib.hid CF0
 clear CC0 CN0 CF0 hno hnv hS ho hKz
 cases no
 · have HF := Lib.hid (no_of (fun h => (PA2.out h).1) rfl)
   go_enter Tryz.func98, Tryz.ntmps98
   go_wp2_with fail
   refine (CC.out _).mono ?_
   rintro e w1 ⟨x, rfl, hb1⟩
   have HB1 := Lib.hid hb1
   clear hb1
   go_wp2_with fail
   refine (CN.out _).mono ?_
   rintro e w2 ⟨rfl, hb2⟩
   have HB2 := Lib.hid hb2
   clear hb2
   go_wp2
   go_ret3
   exact parses_no HF.out (step HB1.out HB2.out)
 · cases o
   · have HF := Lib.hid (no_of (fun h => (PA2.out h).2.1) rfl)
     go_enter Tryz.func98, Tryz.ntmps98
     go_wp2_with fail
     refine (CC.out _).mono ?_
     rintro e w1 ⟨x, rfl, hb1⟩
     have HB1 := Lib.hid hb1
     clear hb1
     go_wp2_with fail
     refine (CN.out _).mono ?_
     rintro e w2 ⟨rfl, hb2⟩
     have HB2 := Lib.hid hb2
     clear hb2
     go_wp2_with fail
     refine (CF.out _).mono ?_
     rintro e w3 ⟨rfl, hb3⟩
     have HB3 := Lib.hid hb3
     clear hb3
     go_wp2
     go_ret3
     exact parses_no HF.out (step (step HB1.out HB2.out) HB3.out)
   · by_cases hSs : S = s
     · have HF := Lib.hid (parse_these HS.out HO.out.symm (by rw [hSs, bs_self]))
       rw [hSs] at CF
       clear PA2 HS hSs
       go_enter Tryz.func98, Tryz.ntmps98
       go_wp2_with fail
       refine (CC.out _).mono ?_
       rintro e w1 ⟨x, rfl, hb1⟩
       have HB1 := Lib.hid hb1
       clear hb1
       go_wp2_with fail
       refine (CN.out _).mono ?_
       rintro e w2 ⟨rfl, hb2⟩
       have HB2 := Lib.hid hb2
       clear hb2
       go_wp2_with fail
       refine (CF.out _).mono ?_
       rintro e w3 ⟨rfl, hb3⟩
       have HB3 := Lib.hid hb3
       clear hb3
       go_wp2_with fail
       refine (CK.out _).mono ?_
       rintro e w4 ⟨rfl, hb4⟩
       have HB4 := Lib.hid hb4
       clear hb4
       go_wp2
       go_ret3
       exact parses_yes HF.out (step (step (step HB1.out HB2.out) HB3.out) HB4.out)
     · have HF : Hid (parseK s.data.toList = false) := by
        show _ = _
        cases hp : parseK s.data.toList
        · rfl
        · exact absurd (PA2.out hp).2.2 hSs
       have hne : (S.toList == s.toList) = false := by
        simp only [beq_eq_false_iff_ne, ne_eq]
        rw [Lib.toList_data, Lib.toList_data]
        intro e
        apply hSs
        rw [← bs_self S, ← bs_self s, e]
       clear hSs
       go_enter Tryz.func98, Tryz.ntmps98
       go_wp2_with fail
       refine (CC.out _).mono ?_
       rintro e w1 ⟨x, rfl, hb1⟩
       have HB1 := Lib.hid hb1
       clear hb1
       go_wp2_with fail
       refine (CN.out _).mono ?_
       rintro e w2 ⟨rfl, hb2⟩
       have HB2 := Lib.hid hb2
       clear hb2
       go_wp2_with fail
       refine (CF.out _).mono ?_
       rintro e w3 ⟨rfl, hb3⟩
       have HB3 := Lib.hid hb3
       clear hb3
       go_wp2
       go_ret3
       exact parses_no HF.out (step (step HB1.out HB2.out) HB3.out)
end Go.Proofs.YtgohekjkbgfeeaaGreat
namespace Go.Proofs.YtgohekjkbgfeeaaGreat
open Go.RowKit
open Go.RuneMath
set_option linter.unusedVariables false

set_option maxHeartbeats 2000000 in
theorem rune1_any (w : World) (r : Nat) : Calls Tryz.prog 69 #[.int .i32 (r : Int)] w fun e w' => e = .returned (.bool (okR r)) ∧ w = w' := by
 obtain ⟨b, hb⟩ : ∃ b, b = okR r := ⟨_, rfl⟩
 rw [← hb]
 have HB := Lib.hid hb
 clear hb
 go_enter Tryz.func69, Tryz.ntmps69
 go_wp2
 all_goals
  go_ret
  exact ⟨ret_bool (by rw [HB.out]; unfold okR; rw [Bool.eq_iff_iff]; simp; omega), rfl⟩
end Go.Proofs.YtgohekjkbgfeeaaGreat
namespace Go.Proofs.YtgohekjkbgfeeaaGreat
open Go.RowKit
open Go.RuneMath
set_option linter.unusedVariables false

set_option maxHeartbeats 1000000 in
theorem ref_count_any (w : World) (s : ByteArray) (hs : s.size ≤ 140737488355328) : Calls Tryz.prog 70 #[.string s] w (Counts s w) := by
 go_enter Tryz.func70, Tryz.ntmps70
 go_wp2
 go_loopw [3] (fun n wr => ∃ pos m : Nat, ItAt wr w.heap.size s pos ∧ Below w.heap.size w wr ∧ n = .int .i64 m ∧ m ≤ pos ∧ m ≤ s.size ∧ m + (rs s pos).length = countB s.data.toList) (fun _ wr => s.size - wr.iterPos w.heap.size)
 case atStart => exact ⟨0, 0, it_start w s, (Below.refl _ w).alloc (Nat.le_refl _) _, rfl, Nat.le_refl _, by omega, by rw [rs_zero]; unfold countB; omega⟩
 case round =>
  obtain ⟨pos, m, hit, hbw, rfl, hmp, hms, hcnt⟩ := hrel
  have HI := Lib.hid hit
  have HB := Lib.hid hbw
  have HC := Lib.hid hcnt
  clear hit hbw hcnt
  by_cases hp : pos < s.size
  · have hnx : ∀ ty, (Instr.next (.pointer (some ⟨w.heap.size, 0, none⟩)) true ty).run Tryz.prog wr = _ := fun ty => Lib.run_next_any_at wr w.heap.size s pos ty HI.out hp
    go_wp2
    go_roundw
    case rel =>
     have e := rs_step hp
     have hc := HC.out
     rw [e, List.length_cons] at hc
     have hl := runes_len s.data.toList
     have hw := Lib.width_pos s pos
     rw [← Lib.size_eq] at hl
     unfold countB at hc
     exact ⟨pos + (Utf8.decode s pos).2, m + 1, it_next HI.out _, Lib.below_iterAt HB.out (Nat.le_refl _) s _, by go_num, by omega, by omega, by unfold countB; omega⟩
    case measure =>
     have hw := Lib.width_pos s pos
     rw [it_pos (it_next HI.out _), it_pos HI.out]
     omega
  · have hnx : ∀ ty, (Instr.next (.pointer (some ⟨w.heap.size, 0, none⟩)) true ty).run Tryz.prog wr = _ := fun ty => Lib.run_next_end_at wr w.heap.size s pos ty HI.out hp
    go_wp2
    go_ret
    exact counts_mk (by have := HC.out; rw [rs_end hp] at this; simpa using this) HB.out

set_option maxHeartbeats 1000000 in
theorem ref_right_any (w : World) (s : ByteArray) (hs : s.size ≤ 140737488355328) : Calls Tryz.prog 37 #[.string s] w (Rights s w) := by
 go_enter Tryz.func37, Tryz.ntmps37
 go_wp2
 go_loopw [] (fun wr => ∃ (pos : Nat) (pre : List Nat), ItAt wr w.heap.size s pos ∧ Below w.heap.size w wr ∧ runes s.data.toList = pre ++ rs s pos ∧ pre.all okR = true) (fun wr => s.size - wr.iterPos w.heap.size)
 case atStart => exact ⟨0, [], it_start w s, (Below.refl _ w).alloc (Nat.le_refl _) _, by rw [rs_zero]; rfl, rfl⟩
 case round =>
  obtain ⟨pos, pre, hit, hbw, hsp, hall⟩ := hrel
  have HI := Lib.hid hit
  have HB := Lib.hid hbw
  have HS := Lib.hid hsp
  have HA := Lib.hid hall
  clear hit hbw hsp hall
  by_cases hp : pos < s.size
  · have hnx : ∀ ty, (Instr.next (.pointer (some ⟨w.heap.size, 0, none⟩)) true ty).run Tryz.prog wr = _ := fun ty => Lib.run_next_any_at wr w.heap.size s pos ty HI.out hp
    have HW := Lib.hid (Lib.width_pos s pos)
    have hst := HS.out
    rw [rs_step hp] at hst
    obtain ⟨r, hr⟩ : ∃ r, r = (Utf8.decode s pos).1 := ⟨_, rfl⟩
    obtain ⟨k, hk⟩ : ∃ k, k = (Utf8.decode s pos).2 := ⟨_, rfl⟩
    rw [← hr, ← hk] at hst
    rw [← hk] at HW
    simp only [← hr, ← hk] at hnx
    have HT := Lib.hid hst
    clear hst hr hk
    obtain ⟨b, hb⟩ : ∃ b, b = okR r := ⟨_, rfl⟩
    have CA0 := fun W => rune1_any W r
    rw [← hb] at CA0
    have CA := Lib.hid CA0
    have HK := Lib.hid hb
    clear CA0 hb
    cases b
    · have HF : Hid (false = rightB s.data.toList) := (right_bad HT.out HK.out.symm).symm
      go_wp2_with (go_at_call 69; refine (CA.out _).mono ?_; rintro e w' ⟨rfl, rfl⟩)
      go_ret
      exact rights_mk HF.out (Lib.below_iterAt HB.out (Nat.le_refl _) s _)
    · go_wp2_with (go_at_call 69; refine (CA.out _).mono ?_; rintro e w' ⟨rfl, rfl⟩)
      go_roundw
      case rel => exact ⟨pos + k, pre ++ [r], it_next HI.out _, Lib.below_iterAt HB.out (Nat.le_refl _) s _, split_snoc HT.out, all_snoc HA.out HK.out.symm⟩
      case measure =>
       rw [it_pos (it_next HI.out _), it_pos HI.out]
       have := HW.out
       omega
  · have hnx : ∀ ty, (Instr.next (.pointer (some ⟨w.heap.size, 0, none⟩)) true ty).run Tryz.prog wr = _ := fun ty => Lib.run_next_end_at wr w.heap.size s pos ty HI.out hp
    obtain ⟨c, hc⟩ : ∃ c, c = countB s.data.toList := ⟨_, rfl⟩
    have HF : Hid (rightB s.data.toList = (decide (1 ≤ c) && decide (c ≤ 40))) := by
     show _ = _
     have e := HS.out
     rw [rs_end hp, List.append_nil] at e
     unfold rightB rightR
     rw [hc]
     unfold countB
     rw [e, HA.out]
     rfl
    have CC0 := fun W => ref_count_any W s hs
    unfold Counts at CC0
    rw [← hc] at CC0
    have CC := Lib.hid CC0
    clear CC0 hc
    by_cases h1 : 1 ≤ c
    · have HG : Hid (decide (c ≤ 40) = rightB s.data.toList) := by
       show _ = _
       rw [HF.out, decide_eq_true h1]
       rfl
      go_wp2_with fail
      refine (CC.out _).mono ?_
      rintro e w1 ⟨rfl, hb1⟩
      have HN1 := Lib.hid hb1
      clear hb1
      go_wp2_with fail
      refine (CC.out _).mono ?_
      rintro e w2 ⟨rfl, hb2⟩
      have HN2 := Lib.hid hb2
      clear hb2
      go_wp2
      go_ret
      have e : decide ((c : Int) ≤ 40) = rightB s.data.toList := by
       rw [← HG.out, decide_eq_decide]
       omega
      exact rights_mk e (step (step HB.out HN1.out) HN2.out)
    · have HG : Hid (false = rightB s.data.toList) := by
       show _ = _
       rw [HF.out, decide_eq_false h1]
       rfl
      go_wp2_with fail
      refine (CC.out _).mono ?_
      rintro e w1 ⟨rfl, hb1⟩
      have HN1 := Lib.hid hb1
      clear hb1
      go_wp2
      go_ret
      exact rights_mk HG.out (step HB.out HN1.out)
end Go.Proofs.YtgohekjkbgfeeaaGreat
namespace Go.Proofs.YtgohekjkbgfeeaaGreat
open Go.RowKit
open Go.RuneMath
set_option linter.unusedVariables false

/-! ### the document's own -/
def Dots (k : ByteArray) (w : World) (e : Ending) (w' : World) : Prop := e = .returned (.bool (k.data.toList.contains 46)) ∧ w = w'
theorem dots_mk {k : ByteArray} {w : World} {b : Bool} (h : b = k.data.toList.contains 46) : Dots k w (.returned (.bool b)) w := ⟨by rw [h], rfl⟩
theorem take_more (k : ByteArray) (i : Nat) (h : i < k.size) : k.data.toList.take (i + 1) = k.data.toList.take i ++ [k[i]'h] := by
 rw [List.take_succ_eq_append_getElem (by rw [← Lib.size_eq]; exact h)]
 rfl
theorem has_dot (k : ByteArray) (i : Nat) (h : i < k.size) (e : k[i]'h = 46) : k.data.toList.contains 46 = true := by
 rw [List.contains_iff_mem, ← e]
 exact Array.getElem_mem_toList (xs := k.data) h
set_option maxHeartbeats 400000 in
theorem dot_any (w : World) (k : ByteArray) (hk : k.size ≤ 1073741824) : Calls Tryz.prog 38 #[.string k] w (Dots k w) := by
 go_enter Tryz.func38, Tryz.ntmps38
 go_wp2
 go_loop [3] (fun v => ∃ i : Nat, i ≤ k.size ∧ v = .int .i64 i ∧ (k.data.toList.take i).contains 46 = false) (fun v => k.size - (intOf v).toNat)
 case atStart => exact ⟨0, Nat.zero_le _, rfl, rfl⟩
 case round =>
  obtain ⟨i, hi, rfl, hc⟩ := hrel
  have HC := Lib.hid hc
  clear hc
  by_cases hlt : i < k.size
  · have HM := Lib.hid (take_more k i hlt)
    have HD := Lib.hid (has_dot k i hlt)
    obtain ⟨c, hce⟩ : ∃ c, c = k[i]'hlt := ⟨_, rfl⟩
    have hix : k[i]'hlt = c := hce.symm
    rw [← hce] at HM HD
    clear hce
    by_cases h46 : c = 46
    · have HF := Lib.hid (HD.out h46)
      have h46z : ((c.toNat : Int) == 46) = true := by rw [h46]; rfl
      clear HD HM
      go_wp2
      go_ret
      exact dots_mk HF.out.symm
    · have HF : Hid ((k.data.toList.take (i + 1)).contains 46 = false) := by
       show _ = _
       rw [HM.out, List.contains_eq_any_beq, List.any_append, ← List.contains_eq_any_beq, HC.out]
       simpa using fun e => h46 e.symm
      have h46z : ((c.toNat : Int) == 46) = false := by
       simp only [beq_eq_false_iff_ne, ne_eq]
       intro e
       apply h46
       apply UInt8.toNat_inj.1
       show c.toNat = 46
       omega
      clear HD HM h46
      go_wp2
      go_round
      case rel => exact ⟨i + 1, by omega, by go_num, HF.out⟩
      case measure => simp [intOf]; omega
  · have HF : Hid (k.data.toList.contains 46 = false) := by
     show _ = _
     have h := HC.out
     rw [List.take_of_length_le (by rw [← Lib.size_eq]; omega)] at h
     exact h
    go_wp2
    go_ret
    exact dots_mk HF.out.symm

def RPad (n i m : Nat) (v : ByteArray) : Prop := ∃ suf : List UInt8, v = bs suf ∧ suf.length = i ∧ dig n 20 = dig m (20 - i) ++ suf
theorem RPad.start (n : Nat) : RPad n 0 n ⟨#[]⟩ := ⟨[], rfl, rfl, by simp⟩
theorem RPad.size {n i m : Nat} {v : ByteArray} (h : RPad n i m v) : v.size = i := by
 obtain ⟨suf, rfl, hs, _⟩ := h
 rw [bs_size, hs]
theorem RPad.next {n i m : Nat} {v E : ByteArray} (h : RPad n i m v) (hi : i < 20) (hE : E = Utf8.encode (48 + ((m % 10 : Nat) : Int))) : RPad n (i + 1) (m / 10) (E ++ v) := by
 obtain ⟨suf, rfl, hs, hd⟩ := h
 refine ⟨UInt8.ofNat (48 + m % 10) :: suf, ?_, by simp [hs], dig_more hi hd⟩
 have e : (48 : Int) + ((m % 10 : Nat) : Int) = ((48 + m % 10 : Nat) : Int) := by omega
 have e2 : enc (48 + m % 10) = [UInt8.ofNat (48 + m % 10)] := by
  unfold enc Lib.encodeRune
  rw [Lib.encodeRuneZ_one (by omega) (by omega)]
  simp only [List.map_cons, List.map_nil, Int.toNat_natCast]
 rw [hE, e, encode_bs (by unfold Scal; omega), bs_append, e2]
 rfl
theorem RPad.done {n m : Nat} {v : ByteArray} (h : RPad n 20 m v) : v = padS n := by
 obtain ⟨suf, rfl, hs, hd⟩ := h
 rw [show 20 - 20 = 0 from rfl, dig, List.nil_append] at hd
 unfold padS
 rw [hd]
set_option maxHeartbeats 400000 in
set_option maxRecDepth 100000 in
theorem ref_file_any (w : World) (n : Int) (k : ByteArray) (hk : k.size ≤ 1073741824) : Calls Tryz.prog 17 #[.int .i64 n, .string k] w (Files n k w) := by
 by_cases h0 : n < 0
 · have HF := Lib.hid (ok_neg (l := k.data.toList) (.inl h0))
   go_enter Tryz.func17, Tryz.ntmps17
   go_wp2
   go_ret2
   exact files_no HF.out (Below.refl _ _)
 · by_cases h1 : 1099511627776 < n
   · have HF := Lib.hid (ok_neg (l := k.data.toList) (.inr h1))
     go_enter Tryz.func17, Tryz.ntmps17
     go_wp2
     go_ret2
     exact files_no HF.out (Below.refl _ _)
   · obtain ⟨m, rfl⟩ : ∃ m : Nat, n = m := ⟨n.toNat, by omega⟩
     have hm : m ≤ 1099511627776 := by omega
     clear h0 h1
     have CR0 := fun W => ref_right_any W k (by omega)
     unfold Rights at CR0
     obtain ⟨r, hr⟩ : ∃ r, r = rightB k.data.toList := ⟨_, rfl⟩
     rw [← hr] at CR0
     have CR := Lib.hid CR0
     have HR := Lib.hid hr
     clear CR0 hr
     cases r
     · have HF := Lib.hid (ok_right (n := m) HR.out.symm)
       go_enter Tryz.func17, Tryz.ntmps17
       go_wp2_with fail
       refine (CR.out _).mono ?_
       rintro e w1 ⟨rfl, hb1⟩
       have HB1 := Lib.hid hb1
       clear hb1
       go_wp2
       go_ret2
       exact files_no HF.out HB1.out
     · have CC0 := fun W => dot_any W k hk
       unfold Dots at CC0
       obtain ⟨c, hc⟩ : ∃ c, c = k.data.toList.contains 46 := ⟨_, rfl⟩
       rw [← hc] at CC0
       have CC := Lib.hid CC0
       have HC := Lib.hid hc
       clear CC0 hc
       cases c
       · have HF := Lib.hid (ok_yes (n := m) (by omega) (by omega) HR.out.symm HC.out.symm)
         go_enter Tryz.func17, Tryz.ntmps17
         go_wp2_with fail
         refine (CR.out _).mono ?_
         rintro e w1 ⟨rfl, hb1⟩
         have HB1 := Lib.hid hb1
         clear hb1
         go_wp2_with fail
         refine (CC.out _).mono ?_
         rintro e w' ⟨rfl, rfl⟩
         go_wp2
         go_loop [0, 6, 7] (fun v0 v6 v7 => ∃ (i q : Nat) (S : ByteArray), i ≤ 20 ∧ v0 = .int .i64 q ∧ v7 = .int .i64 i ∧ v6 = .string S ∧ q ≤ 1099511627776 ∧ RPad m i q S) (fun _ _ v7 => 20 - (intOf v7).toNat)
         case atStart => exact ⟨0, m, ⟨#[]⟩, by omega, rfl, rfl, rfl, hm, RPad.start m⟩
         case round =>
          obtain ⟨i, q, S, hi, rfl, rfl, rfl, hq, hrp⟩ := hrel
          have HP := Lib.hid hrp
          have hsz : S.size ≤ 20 := by rw [hrp.size]; exact hi
          clear hrp
          by_cases h20 : i < 20
          · obtain ⟨d, hde⟩ : ∃ d, d = q % 10 := ⟨_, rfl⟩
            obtain ⟨u, hue⟩ : ∃ u, u = q / 10 := ⟨_, rfl⟩
            have hd10 : d < 10 := by omega
            have hu10 : u ≤ 1099511627776 := by omega
            have hmod : (q : Int) % 10 = (d : Int) := by omega
            have hdiv : (q : Int) / 10 = (u : Int) := by omega
            obtain ⟨E, hE⟩ : ∃ E, E = Utf8.encode (48 + (d : Int)) := ⟨_, rfl⟩
            have hcv : ∀ W : World, (convert 21 9 (.int .i32 (48 + (d : Int)))).run Tryz.prog W = .ok (.string E) W := by
             intro W
             rw [hE]
             exact run_convert_int_string W 21 9 .i32 _ (by kernel_rfl) Tryz.underlying9
            have hEs : E.size ≤ 4 := by
             rw [hE, show (48 : Int) + (d : Int) = ((48 + d : Nat) : Int) by omega, encode_bs (by unfold Scal; omega), bs_size]
             exact enc_len _
            have HN := Lib.hid (HP.out.next (E := E) h20 (by rw [hE, hde]))
            rw [← hue] at HN
            clear hde hue hE
            go_wp2
            go_round
            case rel => exact ⟨i + 1, u, E ++ S, by omega, rfl, by go_num, rfl, hu10, HN.out⟩
            case measure => simp [intOf]; omega
          · obtain rfl : i = 20 := by omega
            go_wp2
            go_ret2
            exact files_yes HF.out (by rw [HP.out.done]) HB1.out
       · have HF := Lib.hid (ok_dot (n := m) HC.out.symm)
         go_enter Tryz.func17, Tryz.ntmps17
         go_wp2_with fail
         refine (CR.out _).mono ?_
         rintro e w1 ⟨rfl, hb1⟩
         have HB1 := Lib.hid hb1
         clear hb1
         go_wp2_with fail
         refine (CC.out _).mono ?_
         rintro e w' ⟨rfl, rfl⟩
         go_wp2
         go_ret2
         exact files_no HF.out HB1.out
end Go.Proofs.YtgohekjkbgfeeaaGreat
namespace Go.Proofs.YtgohekjkbgfeeaaGreat
open Go.RowKit
open Go.RuneMath
set_option linter.unusedVariables false

theorem parse_long {l : List UInt8} (h : parseK l = true) : 22 ≤ l.length := by
 obtain ⟨h1, h2⟩ := parse_is h
 have h3 := (ok_nat h1).2.1
 have hk : 1 ≤ (l.drop 21).length := by
  have := runes_len (l.drop 21)
  unfold rightB rightR at h3
  simp only [Bool.and_eq_true, decide_eq_true_eq] at h3
  omega
 rw [List.length_drop] at hk
 omega
theorem parse_at {l : List UInt8} {i : Nat} {c : UInt8} (h : parseK l = true) (hi : i < 20) (hc : l[i]? = some c) : 48 ≤ c.toNat ∧ c.toNat ≤ 57 ∧ valD (l.take i) ≤ 1099511627776 := by
 obtain ⟨h1, h2⟩ := parse_is h
 obtain ⟨n, hn⟩ : ∃ n, n = valD (l.take 20) := ⟨_, rfl⟩
 obtain ⟨k, hk⟩ : ∃ k, k = l.drop 21 := ⟨_, rfl⟩
 rw [← hn, ← hk] at h1 h2
 clear hn hk
 subst h2
 refine ⟨?_, ?_, valD_take_file (ok_nat h1).1 (by omega)⟩
 all_goals
  unfold fileL at hc
  rw [List.getElem?_append_left (by rw [dig_len]; exact hi)] at hc
  have := dig_all n 20 c (List.mem_of_getElem? hc)
  omega
theorem val_next (s : ByteArray) (i : Nat) (h : i < s.size) {c : UInt8} (hc : s[i]'h = c) : valD (s.data.toList.take (i + 1)) = 10 * valD (s.data.toList.take i) + (c.toNat - 48) := by
 rw [take_more s i h, valD_snoc, hc]
theorem get_opt (s : ByteArray) (i : Nat) (h : i < s.size) {c : UInt8} (hc : s[i]'h = c) : s.data.toList[i]? = some c := by
 rw [← hc]
 rw [List.getElem?_eq_getElem (by rw [← Lib.size_eq]; exact h)]
 rfl
/-- What the loop keeps. -/
def PVal (s : ByteArray) (i n : Nat) : Prop := n = valD (s.data.toList.take i)
set_option maxHeartbeats 400000 in
set_option maxRecDepth 100000 in
theorem ref_parse_any (w : World) (s : ByteArray) (hs : s.size ≤ 1073741824) : Calls Tryz.prog 31 #[.string s] w (Parses s w) := by
 by_cases h22 : s.size < 22
 · have HF : Hid (parseK s.data.toList = false) := by
    show _ = _
    cases hp : parseK s.data.toList
    · rfl
    · have := parse_long hp
      rw [← Lib.size_eq] at this
      omega
   go_enter Tryz.func31, Tryz.ntmps31
   go_wp2
   go_ret3
   exact parses_no HF.out (Below.refl _ _)
 · have h22' : 22 ≤ s.size := by omega
   clear h22
   go_enter Tryz.func31, Tryz.ntmps31
   go_wp2
   go_loop [5, 6] (fun v5 v6 => ∃ i n : Nat, i ≤ 20 ∧ v6 = .int .i64 i ∧ v5 = .int .i64 n ∧ n ≤ 10995116277769 ∧ PVal s i n) (fun _ v6 => 20 - (intOf v6).toNat)
   case atStart => exact ⟨0, 0, by omega, rfl, rfl, by omega, by unfold PVal; simp [valD]⟩
   case round =>
    obtain ⟨i, n, hi, rfl, rfl, hn, hv⟩ := hrel
    have HV := Lib.hid hv
    clear hv
    by_cases h20 : i < 20
    · have hlt : i < s.size := by omega
      obtain ⟨c, hce⟩ : ∃ c, c = s[i]'hlt := ⟨_, rfl⟩
      have hix : s[i]'hlt = c := hce.symm
      have HVN := Lib.hid (val_next s i hlt hix)
      have HGO := Lib.hid (get_opt s i hlt hix)
      have hc8 := c.toNat_lt
      clear hce
      by_cases hdig : 48 ≤ c.toNat ∧ c.toNat ≤ 57
      · obtain ⟨h48, h57⟩ := hdig
        by_cases hbig : 1099511627776 < n
        · have HF : Hid (parseK s.data.toList = false) := by
           show _ = _
           cases hp : parseK s.data.toList
           · rfl
           · have := (parse_at hp h20 HGO.out).2.2
             rw [← show n = valD (s.data.toList.take i) from HV.out] at this
             omega
          go_wp2
          all_goals first
           | (exfalso; omega)
           | (go_ret3; exact parses_no HF.out (Below.refl _ _))
        · obtain ⟨d, hd⟩ : ∃ d, d = c.toNat - 48 := ⟨_, rfl⟩
          have hd9 : d ≤ 9 := by omega
          have hsub : (c.toNat : Int) - 48 = (d : Int) := by omega
          obtain ⟨m, hm⟩ : ∃ m, m = 10 * n + d := ⟨_, rfl⟩
          have hmz : (n : Int) * 10 + (d : Int) = (m : Int) := by omega
          have hmb : m ≤ 10995116277769 := by omega
          have HN : Hid (PVal s (i + 1) m) := by
           show m = _
           rw [HVN.out, ← hd, ← show n = valD (s.data.toList.take i) from HV.out]
           exact hm
          clear hm hd
          go_wp2
          all_goals first
           | (exfalso; omega)
           | (go_round
              case rel => exact ⟨i + 1, m, by omega, by go_num, by go_num, hmb, HN.out⟩
              case measure => simp [intOf]; omega)
      · have HF : Hid (parseK s.data.toList = false) := by
         show _ = _
         cases hp : parseK s.data.toList
         · rfl
         · have h := parse_at hp h20 HGO.out
           exact absurd ⟨h.1, h.2.1⟩ hdig
        have HD := Lib.hid hdig
        clear hdig
        go_wp2
        all_goals first
         | (exfalso; have := HD.out; omega)
         | (go_ret3; exact parses_no HF.out (Below.refl _ _))
    · obtain rfl : i = 20 := by omega
      have hKz : (s.extract 21 s.size).size ≤ 1073741824 := by
       rw [bs_drop, bs_size, List.length_drop, ← Lib.size_eq]
       omega
      obtain ⟨K, hK⟩ : ∃ K, K = s.extract 21 s.size := ⟨_, rfl⟩
      rw [← hK] at hKz
      have CF0 := fun W => ref_file_any W (n : Int) K hKz
      unfold Files at CF0
      obtain ⟨S, hS⟩ : ∃ S, S = fileV (n : Int) K := ⟨_, rfl⟩
      obtain ⟨o, ho⟩ : ∃ o, o = fileO (n : Int) K := ⟨_, rfl⟩
      have PA : Hid (parseK s.data.toList = true → o = true ∧ S = s) := by
       intro h
       obtain ⟨h1, h2⟩ := parse_is h
       rw [ho, hS, hK, bs_drop, show n = valD (s.data.toList.take 20) from HV.out]
       refine ⟨h1, ?_⟩
       unfold fileV
       rw [bs_list, file_ok_val h1, h2, bs_self]
      rw [← hS, ← ho] at CF0
      rw [hK] at CF0
      have HS := Lib.hid hS
      have HO := Lib.hid ho
      have CF := Lib.hid CF0
      have HK := Lib.hid hK
      clear CF0 hS ho hKz hK
      cases o
      · have HF := Lib.hid (no_of (fun h => (PA.out h).1) rfl)
        go_wp2_with fail
        refine (CF.out _).mono ?_
        rintro e w3 ⟨rfl, hb3⟩
        have HB3 := Lib.hid hb3
        clear hb3
        go_wp2
        go_ret3
        exact parses_no HF.out HB3.out
      · by_cases hSs : S = s
        · have HF := Lib.hid (parse_these HS.out HO.out.symm (by rw [hSs, bs_self]))
          rw [HK.out] at HF
          rw [hSs] at CF
          clear PA HS hSs
          go_wp2_with fail
          refine (CF.out _).mono ?_
          rintro e w3 ⟨rfl, hb3⟩
          have HB3 := Lib.hid hb3
          clear hb3
          go_wp2
          go_quiet (fail)
          go_wp2
          go_ret3
          exact parses_yes HF.out (step HB3.out (below_drewN _ _))
        · have HF : Hid (parseK s.data.toList = false) := by
           show _ = _
           cases hp : parseK s.data.toList
           · rfl
           · exact absurd (PA.out hp).2 hSs
          have hne : (S.toList == s.toList) = false := by
           simp only [beq_eq_false_iff_ne, ne_eq]
           rw [Lib.toList_data, Lib.toList_data]
           intro e
           apply hSs
           rw [← bs_self S, ← bs_self s, e]
          clear hSs
          go_wp2_with fail
          refine (CF.out _).mono ?_
          rintro e w3 ⟨rfl, hb3⟩
          have HB3 := Lib.hid hb3
          clear hb3
          go_wp2
          go_ret3
          exact parses_no HF.out HB3.out
end Go.Proofs.YtgohekjkbgfeeaaGreat
namespace Go.Proofs.YtgohekjkbgfeeaaGreat
open Go.RowKit
open Go.RuneMath
set_option linter.unusedVariables false

def rval (r : Nat) : Value := .int .i32 (r : Int)
def rvals (l : List Nat) : List Value := l.map rval
theorem rvals_len (l : List Nat) : (rvals l).length = l.length := by simp [rvals]
theorem rvals_snoc (l : List Nat) (r : Nat) : rvals (l ++ [r]) = rvals l ++ [.int .i32 (r : Int)] := by simp [rvals, rval]
theorem info21 : (Tryz.prog.info? 21).map (fun i => (i.zero, i.size, i.bytes)) = some (some (.int .i32 0), 1, 4) := by kernel_rfl
theorem owns_base {w : World} {b b' e size n : Nat} {v : Value} {xs : List Value} (h : w.ownsRow b e size v n xs) (hb : b' ≤ b) : w.ownsRow b' e size v n xs := by
 refine ⟨h.1, ?_⟩
 rcases h.2 with h0 | ⟨g, cap, cur, hv, hg, r⟩
 · exact .inl h0
 · exact .inr ⟨g, cap, cur, hv, Nat.le_trans hb hg, r⟩
theorem owns_alloc {w : World} {b e size n : Nat} {v : Value} {xs : List Value} (h : w.ownsRow b e size v n xs) (o : Obj) : (w.alloc o).ownsRow b e size v n xs := by
 refine ⟨h.1, ?_⟩
 rcases h.2 with h0 | ⟨g, cap, cur, hv, hg, hh, r⟩
 · exact .inl h0
 · exact .inr ⟨g, cap, cur, hv, hg, by rw [Below.heap_alloc w o g (Array.getElem?_eq_some_iff.1 hh).1]; exact hh, r⟩
theorem owns_iter {w : World} {b e size n : Nat} {v : Value} {xs : List Value} (h : w.ownsRow b e size v n xs) {k : Nat} (hk : k < b) (s : ByteArray) (pos : Nat) : (w.iterAt k s pos).ownsRow b e size v n xs := by
 refine ⟨h.1, ?_⟩
 rcases h.2 with h0 | ⟨g, cap, cur, hv, hg, hh, r⟩
 · exact .inl h0
 · exact .inr ⟨g, cap, cur, hv, hg, by rw [Lib.iterAt_other w k g s pos (by omega)]; exact hh, r⟩
/-- The iterator behind an append onto a row that lies above it. -/
theorem it_grown {w w' : World} {k : Nat} {s : ByteArray} {pos : Nat} (h : ItAt w k s pos) {row : Option Nat} (hg : w.grownBy w' row) {b : Nat} (hk : k < b) (hr : ∀ j, row = some j → b ≤ j) : ItAt w' k s pos := by
 unfold ItAt at *
 rw [hg.block k (Array.getElem?_eq_some_iff.1 h).1 (fun e => by have := hr k e.symm; omega)]
 exact h
theorem it_alloc {w : World} {k : Nat} {s : ByteArray} {pos : Nat} (h : ItAt w k s pos) (o : Obj) : ItAt (w.alloc o) k s pos := by
 unfold ItAt at *
 rw [Below.heap_alloc w o k (Array.getElem?_eq_some_iff.1 h).1]
 exact h
/-- The row that a range over a string has collected so far. -/
def Coll (s : ByteArray) (w wr : World) (v : Value) (pos : Nat) : Prop := ∃ pre : List Nat, wr.ownsRow (w.heap.size + 1) 21 1 v pre.length (rvals pre) ∧ ItAt wr w.heap.size s pos ∧ Below w.heap.size w wr ∧ runes s.data.toList = pre ++ rs s pos
theorem coll_start (s : ByteArray) (w : World) : Coll s w (w.alloc (.stringIter s 0)) (.slice none 0 0) 0 :=
 ⟨[], ⟨rfl, .inl ⟨rfl, rfl⟩⟩, it_start w s, (Below.refl _ w).alloc (Nat.le_refl _) _, by rw [rs_zero]; rfl⟩
theorem coll_end {s : ByteArray} {w wr : World} {v : Value} {pos : Nat} (h : Coll s w wr v pos) (hp : ¬ pos < s.size) : wr.ownsRow w.heap.size 21 1 v (runes s.data.toList).length (rvals (runes s.data.toList)) ∧ Below w.heap.size w wr := by
 obtain ⟨pre, ho, hi, hb, he⟩ := h
 rw [rs_end hp, List.append_nil] at he
 rw [he]
 exact ⟨owns_base ho (by omega), hb⟩
theorem coll_it {s : ByteArray} {w wr : World} {v : Value} {pos : Nat} (h : Coll s w wr v pos) : ItAt wr w.heap.size s pos := by
 obtain ⟨pre, ho, hi, hb, he⟩ := h
 exact hi
/-- One more rune: the law for the walk, at any place of the code that has these operands. -/
theorem coll_append {ops : Array Oper} {rest : List Oper} {o : Oper} {a : Act} {Q : Exit → Act → World → Prop} (hgd : o.guard = none) (x y : Operand)
 (ho : o.op = .call { callee := .builtin .append, args := #[x, y], argTypes := #[124, 124] })
 (s : ByteArray) (w wr : World) (v : Value) (pos r k : Nat) (hs : s.size ≤ 1073741824) (hx : a.eval x = v) (h : Coll s w wr v pos) (hp : pos < s.size) (hr : r = (Utf8.decode s pos).1) (hk : k = (Utf8.decode s pos).2)
 (hy : a.eval y = .slice (some ⟨(wr.iterAt w.heap.size s (pos + k)).heap.size, 0, none⟩) 1 1)
 (hpost : ∀ v' w', Coll s w w' v' (pos + k) → wpList Tryz.prog ops Q rest (a.put o.dst v') w') :
 wpList Tryz.prog ops Q (o :: rest) a ((wr.iterAt w.heap.size s (pos + k)).alloc (.cells #[.int .i32 (r : Int)] 21)) := by
 obtain ⟨pre, hown, hit, hb, he⟩ := h
 obtain ⟨i0, hi, hz0, hz1, hz2⟩ := info_parts info21
 have hst := he
 rw [rs_step hp, ← hr, ← hk] at hst
 have hl := runes_len s.data.toList
 rw [hst, ← Lib.size_eq, List.length_append, List.length_cons] at hl
 have hk0 := it_lt hit
 have hown2 := owns_alloc (owns_iter hown (k := w.heap.size) (by omega) s (pos + k)) (.cells #[.int .i32 (r : Int)] 21)
 have hit2 := it_alloc (it_next hit (pos + k)) (.cells #[.int .i32 (r : Int)] 21)
 have hb2 := (Lib.below_iterAt hb (Nat.le_refl _) s (pos + k)).alloc (by rw [Lib.iterAt_size]; omega) (.cells #[.int .i32 (r : Int)] 21)
 refine wpList_append_own _ hgd x y 124 ho (w.heap.size + 1) 21 i0 (.int .i32 0) 1 4 Tryz.underlying124 hi hz0 hz1 hz2 rfl (by decide) v pre.length _ hx hown2 ⟨_, 0, none⟩ 1 1 [.int .i32 (r : Int)] hy rfl ?_ ?_ ?_ ?_ ?_ ?_
 · intro j u hj
   match j, hj with
   | 0, hj => simp at hj; subst hj; simp [Addr.add]
   | (j + 1), hj => simp at hj
 · intro u hu; simp at hu; subst hu; rfl
 · unfold maxLen; omega
 · omega
 · simp [Lib.iterAt_size]; omega
 · intro v' w' ho' hg hn
   refine hpost v' w' ⟨pre ++ [r], ?_, ?_, ?_, ?_⟩
   · rw [rvals_snoc, List.length_append]
     exact ho'
   · exact it_grown hit2 hg (b := w.heap.size + 1) (by omega) (fun j hj => (hown2.lt j hj).1)
   · exact hb2.grown hg (by simp [Lib.iterAt_size]; omega) (fun j hj => by have := (hown2.lt j hj).1; omega)
   · rw [hst]; simp
end Go.Proofs.YtgohekjkbgfeeaaGreat
namespace Go.Proofs.YtgohekjkbgfeeaaGreat
open Go.RowKit
open Go.RuneMath
set_option linter.unusedVariables false

def Runs (s : ByteArray) (w : World) (e : Ending) (w' : World) : Prop := ∃ v, e = .returned v ∧ w'.ownsRow w.heap.size 21 1 v (runes s.data.toList).length (rvals (runes s.data.toList)) ∧ Below w.heap.size w w'
set_option maxHeartbeats 400000 in
set_option maxRecDepth 100000 in
theorem runes_any (w : World) (s : ByteArray) (hs : s.size ≤ 1073741824) : Calls Tryz.prog 65 #[.string s] w (Runs s w) := by
 go_enter Tryz.func65, Tryz.ntmps65
 go_wp2
 go_loopw [3] (fun v wr => ∃ pos : Nat, Coll s w wr v pos) (fun _ wr => s.size - wr.iterPos w.heap.size)
 case atStart => exact ⟨0, coll_start s w⟩
 case round =>
  obtain ⟨pos, hc⟩ := hrel
  have HC := Lib.hid hc
  have HI := Lib.hid (coll_it hc)
  clear hc
  by_cases hp : pos < s.size
  · have hnx : ∀ ty, (Instr.next (.pointer (some ⟨w.heap.size, 0, none⟩)) true ty).run Tryz.prog wr = _ := fun ty => Lib.run_next_any_at wr w.heap.size s pos ty HI.out hp
    have HW := Lib.hid (Lib.width_pos s pos)
    have hr4 := Lib.rune_le s pos
    obtain ⟨r, hr⟩ : ∃ r, r = (Utf8.decode s pos).1 := ⟨_, rfl⟩
    obtain ⟨k, hk⟩ : ∃ k, k = (Utf8.decode s pos).2 := ⟨_, rfl⟩
    rw [← hr] at hr4
    rw [← hk] at HW
    simp only [← hr, ← hk] at hnx
    have HR := Lib.hid hr
    have HK := Lib.hid hk
    clear hr hk
    go_wp2_with (at_builtin; refine coll_append rfl (.tmp 11) (.tmp 13) rfl s w wr _ pos r k hs rfl HC.out hp HR.out HK.out rfl ?_)
    intro v' w' hc'
    have HC' := Lib.hid hc'
    clear hc'
    go_wp2
    go_roundw
    case rel => exact ⟨pos + k, HC'.out⟩
    case measure =>
     rw [it_pos (coll_it HC'.out), it_pos HI.out]
     have := HW.out
     omega
  · have hnx : ∀ ty, (Instr.next (.pointer (some ⟨w.heap.size, 0, none⟩)) true ty).run Tryz.prog wr = _ := fun ty => Lib.run_next_end_at wr w.heap.size s pos ty HI.out hp
    have HE := Lib.hid (coll_end HC.out hp)
    go_wp2
    go_ret
    exact ⟨_, rfl, HE.out⟩
end Go.Proofs.YtgohekjkbgfeeaaGreat
namespace Go.Proofs.YtgohekjkbgfeeaaGreat
open Go.RowKit
open Go.RuneMath
set_option linter.unusedVariables false

/-- A slice of runes reads as l. -/
structure R32 (w : World) (ad : Option Addr) (len : Nat) (l : List Nat) : Prop where
 length : l.length = len
 cells : len = 0 ∨ ∃ b, ad = some ⟨b, 0, none⟩ ∧ ∀ i, i < len → w.cell? ⟨b, i, none⟩ = some (.int .i32 (l.getD i 0 : Nat))
theorem R32.keep {w w' : World} {ad : Option Addr} {len : Nat} {l : List Nat} (h : R32 w ad len l) {B : Nat} (hb : Below B w w') (hB : w.heap.size ≤ B) : R32 w' ad len l := by
 refine ⟨h.length, ?_⟩
 rcases h.cells with h0 | ⟨b, e, hc⟩
 · exact .inl h0
 · refine .inr ⟨b, e, fun i hi => ?_⟩
   have := hc i hi
   rw [hb.cell (p := ⟨b, i, none⟩) (by have := World.block_lt_of_cell? w _ this; exact Nat.lt_of_lt_of_le this hB)]
   exact this
theorem R32.at {w : World} {ad : Option Addr} {len : Nat} {l : List Nat} (h : R32 w ad len l) {i : Nat} (hi : i < len) : ∃ b, ad = some ⟨b, 0, none⟩ ∧ w.cell? ⟨b, i, none⟩ = some (.int .i32 (l.getD i 0 : Nat)) := by
 rcases h.cells with h0 | ⟨b, e, hc⟩
 · omega
 · exact ⟨b, e, hc i hi⟩
theorem r32_owns {w : World} {base n : Nat} {v : Value} {l : List Nat} (h : w.ownsRow base 21 1 v n (rvals l)) : ∃ ad cap, v = .slice ad n cap ∧ n ≤ cap ∧ cap ≤ maxLen ∧ R32 w ad n l := by
 have hl := h.1
 rw [rvals_len, Nat.mul_one] at hl
 rcases h.2 with ⟨hv, hn⟩ | ⟨g, cap, cur, rfl, hg, hh, hc, hm, hsz, ht⟩
 · subst hn
   exact ⟨none, 0, hv, Nat.le_refl _, by unfold maxLen; omega, ⟨hl, .inl rfl⟩⟩
 · refine ⟨_, cap, rfl, hc, hm, ⟨hl, .inr ⟨g, rfl, fun i hi => ?_⟩⟩⟩
   rw [cell_of_row w g i _ _ _ hh]
   have h1 : (cur.toList.take (n * 1))[i]? = cur[i]? := by rw [List.getElem?_take, if_pos (by omega)]; simp
   rw [← h1, ht]
   simp [rvals, rval, show i < l.length by omega]
theorem less_at {x y : List Nat} {i : Nat} (hx : i < x.length) (hy : i < y.length) : lessR (x.drop i) (y.drop i) = if x.getD i 0 = y.getD i 0 then lessR (x.drop (i + 1)) (y.drop (i + 1)) else decide (x.getD i 0 < y.getD i 0) := by
 rw [List.drop_eq_getElem_cons hx, List.drop_eq_getElem_cons hy, lessR_cons]
 simp [hx, hy]
theorem less_out {x y : List Nat} {i : Nat} (hx : i ≤ x.length) (hy : i ≤ y.length) (h : ¬ (i < x.length ∧ i < y.length)) : lessR (x.drop i) (y.drop i) = decide (x.length < y.length) := by
 by_cases h1 : i < y.length
 · have : x.length ≤ i := by omega
   rw [List.drop_eq_nil_of_le this, nil_less (by intro e; have := congrArg List.length e; rw [List.length_drop] at this; simp at this; omega)]
   simp; omega
 · rw [List.drop_eq_nil_of_le (by omega : y.length ≤ i), less_nil]
   simp; omega
/-- What the loop keeps. -/
def LRel (w wr : World) (x y : List Nat) (L : Bool) (i : Nat) : Prop := lessR (x.drop i) (y.drop i) = L ∧ Below w.heap.size w wr
set_option maxHeartbeats 400000 in
set_option maxRecDepth 100000 in
theorem ref_less_any (w : World) (a b : ByteArray) (ha : a.size ≤ 1073741824) (hb : b.size ≤ 1073741824) : Calls Tryz.prog 32 #[.string a, .string b] w (Lesses a b w) := by
 have CA := Lib.hid (fun W => runes_any W a ha)
 have CB := Lib.hid (fun W => runes_any W b hb)
 have hla : (runes a.data.toList).length ≤ 1073741824 := by
  have := runes_len a.data.toList
  rw [← Lib.size_eq] at this
  omega
 have hlb : (runes b.data.toList).length ≤ 1073741824 := by
  have := runes_len b.data.toList
  rw [← Lib.size_eq] at this
  omega
 obtain ⟨L, hL⟩ : ∃ L, L = lessB a.data.toList b.data.toList := ⟨_, rfl⟩
 have HL := Lib.hid hL
 unfold Runs at CA CB
 unfold lessB at hL
 obtain ⟨x, hx⟩ : ∃ x, x = runes a.data.toList := ⟨_, rfl⟩
 obtain ⟨y, hy⟩ : ∃ y, y = runes b.data.toList := ⟨_, rfl⟩
 rw [← hx, ← hy] at hL
 rw [← hx] at CA hla
 rw [← hy] at CB hlb
 obtain ⟨m, hm⟩ : ∃ m, m = x.length := ⟨_, rfl⟩
 obtain ⟨n, hn⟩ : ∃ n, n = y.length := ⟨_, rfl⟩
 rw [← hm] at CA hla
 rw [← hn] at CB hlb
 have HLX := Lib.hid hL
 have HM := Lib.hid hm
 have HN := Lib.hid hn
 clear hL hx hy hm hn ha hb
 go_enter Tryz.func32, Tryz.ntmps32
 go_wp2_with fail
 refine (CA.out _).mono ?_
 rintro e w1 ⟨v1, rfl, ho1, hb1⟩
 obtain ⟨ad1, cap1, rfl, hc1, hm1, hr1⟩ := r32_owns ho1
 have HB1 := Lib.hid hb1
 have HR1 := Lib.hid hr1
 clear ho1 hb1 hr1
 go_wp2_with fail
 refine (CB.out _).mono ?_
 rintro e w2 ⟨v2, rfl, ho2, hb2⟩
 obtain ⟨ad2, cap2, rfl, hc2, hm2, hr2⟩ := r32_owns ho2
 have HR1' := Lib.hid (HR1.out.keep hb2 (Nat.le_refl _))
 have HB2 := Lib.hid (step HB1.out hb2)
 have HR2 := Lib.hid hr2
 clear ho2 hb2 hr2 HR1 HB1
 go_wp2
 go_loopw [7] (fun v wr => ∃ i : Nat, i ≤ m ∧ i ≤ n ∧ v = .int .i64 i ∧ LRel w2 wr x y L i) (fun v _ => m - (intOf v).toNat)
 case atStart => exact ⟨0, by omega, by omega, rfl, by rw [List.drop_zero, List.drop_zero]; exact HLX.out.symm, Below.refl _ _⟩
 case round =>
  obtain ⟨i, him, hin, rfl, hrel⟩ := hrel
  have HP := Lib.hid hrel
  clear hrel
  by_cases hlt : i < m ∧ i < n
  · obtain ⟨h1, h2⟩ := hlt
    obtain ⟨b1, rfl, hq1⟩ := HR1'.out.at h1
    obtain ⟨b2, rfl, hq2⟩ := HR2.out.at h2
    have hz1 : wr.cell? ⟨b1, i, none⟩ = some (.int .i32 (x.getD i 0 : Nat)) := by
     rw [HP.out.2.cell (p := ⟨b1, i, none⟩) (World.block_lt_of_cell? w2 _ hq1)]
     exact hq1
    have hz2 : wr.cell? ⟨b2, i, none⟩ = some (.int .i32 (y.getD i 0 : Nat)) := by
     rw [HP.out.2.cell (p := ⟨b2, i, none⟩) (World.block_lt_of_cell? w2 _ hq2)]
     exact hq2
    have HA := Lib.hid (less_at (x := x) (y := y) (i := i) (by rw [← HM.out]; exact h1) (by rw [← HN.out]; exact h2))
    obtain ⟨p, hp⟩ : ∃ p, p = x.getD i 0 := ⟨_, rfl⟩
    obtain ⟨q, hq⟩ : ∃ q, q = y.getD i 0 := ⟨_, rfl⟩
    rw [← hp] at hz1 HA
    rw [← hq] at hz2 HA
    clear hp hq hq1 hq2
    by_cases hpq : p = q
    · have HF : Hid (lessR (x.drop (i + 1)) (y.drop (i + 1)) = L) := by
       have h := HA.out
       rw [if_pos hpq, HP.out.1] at h
       exact h.symm
      subst hpq
      clear HA
      go_wp2
      go_quiet (fail)
      go_wp2
      go_roundw
      case rel => exact ⟨i + 1, by omega, by omega, by go_num, HF.out, HP.out.2.trans ((below_drewN _ _).mono HP.out.2.size)⟩
      case measure => simp [intOf]; omega
    · have HF : Hid (decide (p < q) = lessB a.data.toList b.data.toList) := by
       have h := HA.out
       rw [if_neg hpq, HP.out.1, HL.out] at h
       exact h.symm
      have hpqz : ((p : Int) != (q : Int)) = true := by simpa using fun e => hpq (by omega)
      clear HA hpq
      go_wp2
      go_quiet (fail)
      go_wp2
      go_quiet (fail)
      go_wp2
      go_ret
      exact lesses_mk HF.out (step HB2.out (HP.out.2.trans ((step (below_drewN _ _) (below_drewN _ _)).mono HP.out.2.size)))
  · have HF : Hid (decide (m < n) = lessB a.data.toList b.data.toList) := by
     have h := less_out (x := x) (y := y) (i := i) (by rw [← HM.out]; exact him) (by rw [← HN.out]; exact hin) (by rw [← HM.out, ← HN.out]; exact hlt)
     rw [HP.out.1, HL.out, ← HM.out, ← HN.out] at h
     exact h.symm
    by_cases h1 : i < m
    · have h2 : ¬ i < n := fun h2 => hlt ⟨h1, h2⟩
      clear hlt
      go_wp2
      go_ret
      exact lesses_mk HF.out (step HB2.out HP.out.2)
    · clear hlt
      go_wp2
      go_ret
      exact lesses_mk HF.out (step HB2.out HP.out.2)
end Go.Proofs.YtgohekjkbgfeeaaGreat
namespace Go.Proofs.YtgohekjkbgfeeaaGreat
open Go.RowKit
open Go.RuneMath
open Go.SnapMath
set_option linter.unusedVariables false

def snapL : List UInt8 := [115, 110, 97, 112, 115, 104, 111, 116]
theorem snapT_data : snapT.data.toList = snapL := rfl
theorem snap_ok : rightB snapL = true ∧ snapL.contains 46 = false := ⟨by decide +kernel, by decide +kernel⟩
/-- The number of a snapshot's name. -/
def snapP (s : ByteArray) : Option Int := if parseK s.data.toList = true ∧ parseS s.data.toList = snapL then some (parseN s.data.toList : Nat) else none
/-- The name of a number. -/
def snapN (n : Int) : ByteArray := fileV n snapT
theorem snapO {n : Int} (h0 : 0 ≤ n) (h1 : n ≤ 1099511627776) : okFile n snapL = true := ok_yes h0 h1 snap_ok.1 snap_ok.2
theorem snapN_is {n : Nat} (h1 : n ≤ 1099511627776) : snapN (n : Int) = bs (fileL n snapL) := by
 unfold snapN fileV
 rw [snapT_data, file_ok_val (snapO (by omega) (by omega))]
theorem bs_data (l : List UInt8) : (bs l).data.toList = l := rfl
theorem snapP_name {n : Nat} (h1 : n ≤ 1099511627776) : snapP (snapN (n : Int)) = some (n : Int) := by
 obtain ⟨a, b, c⟩ := parse_yes (n := n) (k := snapL) (l := fileL n snapL) (snapO (by omega) (by omega)) rfl
 unfold snapP
 rw [snapN_is h1, bs_data, if_pos ⟨a, c⟩, b]
theorem snapP_is {s : ByteArray} {n : Int} (h : snapP s = some n) : (0 ≤ n ∧ n ≤ 1099511627776) ∧ s = snapN n := by
 unfold snapP at h
 split at h
 · rename_i hc
   obtain ⟨h1, h2⟩ := hc
   obtain ⟨a, b⟩ := parse_is h1
   have hk : s.data.toList.drop 21 = snapL := by
    unfold parseS at h2
    rw [if_pos h1] at h2
    exact h2
   have hn : parseN s.data.toList = valD (s.data.toList.take 20) := by
    unfold parseN
    rw [if_pos h1]
   rw [hk] at a b
   rw [hn] at h
   have e := Option.some.inj h
   have hle := (ok_nat a).1
   subst e
   refine ⟨⟨by omega, by omega⟩, ?_⟩
   rw [snapN_is hle, b, bs_self]
 · cases h
theorem less_file {m n : Nat} (hm : m ≤ 1099511627776) (hn : n ≤ 1099511627776) (k : List UInt8) : lessB (fileL m k) (fileL n k) = decide (m < n) := by
 have h1 : m < 10 ^ 20 := Nat.lt_of_le_of_lt hm lim20
 have h2 : n < 10 ^ 20 := Nat.lt_of_le_of_lt hn lim20
 have r : ∀ a : Nat, runes (fileL a k) = (dig a 20).map (·.toNat) ++ runes (46 :: k) := fun a => runes_low _ (low_dig a 20) _
 unfold lessB
 rw [r m, r n, less_app _ _ (by rw [List.length_map, List.length_map, dig_len, dig_len])]
 split
 · rename_i he
   have : dig m 20 = dig n 20 := (List.map_inj_right (fun _ _ h => UInt8.toNat_inj.1 h)).1 he
   have e := dig_inj h1 h2 this
   rw [less_irr, e]
   simp
 · exact less_dig 20 m n h1 h2
theorem names_are {ns : List ByteArray} (hs : ∀ s ∈ ns, s.size ≤ 1073741824) : NamesAre ns snapP where
 parse := fun W s hm => by
  refine (ref_parse_any W s (hs s hm)).mono ?_
  rintro e w' ⟨rfl, hb⟩
  refine ⟨hb, ?_⟩
  cases hp : snapP s with
  | some n =>
    refine .inl ⟨n, rfl, ?_⟩
    unfold snapP at hp
    split at hp
    · rename_i hc
      have e := Option.some.inj hp
      rw [hc.1, hc.2, ← e]
      rfl
    · cases hp
  | none =>
    refine .inr ⟨rfl, _, _, _, rfl, ?_⟩
    cases hk : parseK s.data.toList with
    | false => exact .inl rfl
    | true =>
      refine .inr ?_
      rw [beq_eq_false_iff_ne]
      intro e
      unfold snapP at hp
      rw [if_pos ⟨hk, by rw [ByteArray.toList_eq] at e; exact e⟩] at hp
      cases hp
 less := fun W s t a b hsm htm ha hb => by
  refine (ref_less_any W s t (hs s hsm) (hs t htm)).mono ?_
  rintro e w' ⟨rfl, hbl⟩
  obtain ⟨⟨a0, a1⟩, rfl⟩ := snapP_is ha
  obtain ⟨⟨b0, b1⟩, rfl⟩ := snapP_is hb
  obtain ⟨m, rfl⟩ : ∃ m : Nat, a = m := ⟨a.toNat, by omega⟩
  obtain ⟨n, rfl⟩ : ∃ n : Nat, b = n := ⟨b.toNat, by omega⟩
  refine ⟨?_, hbl⟩
  rw [snapN_is (by omega), snapN_is (by omega), bs_data, bs_data, less_file (by omega) (by omega)]
  congr 2
  rw [decide_eq_decide]
  omega
 inj := fun s hsm t htm a ha hb => by rw [(snapP_is ha).2, (snapP_is hb).2]
 pos := fun s hsm a ha => (snapP_is ha).1
end Go.Proofs.YtgohekjkbgfeeaaGreat
