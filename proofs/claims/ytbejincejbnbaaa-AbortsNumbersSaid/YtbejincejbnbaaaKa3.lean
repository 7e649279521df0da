/- Parts of a proof, merged: VarRoomy, VarPut, VarScan, VarGet, VarRefPut, VarBack, VarRefGet, VarCut, VarLong, Keep, Keep2, VarUse, Grow, BatBits, BatRecs, Kinds, BatSame, BatInner, CrcCommon, CrcOf. -/
import Derived.Lib.AppendStr
import Derived.Deep.RegionWith
import Derived.Below
import Derived.Deep.RegionHeld3
import Derived.OwnWalk
import Derived.BigQuiet
import Derived.Deep.QuietTactic
import Derived.Laws.ResultCell
import Derived.Deep.CutRange
import Derived.Outline
import Derived.Test.YtbejincejbnbaaaKa2
import Derived.Test.YtbejincejbnbaaaKa1
namespace Go.Proofs.Ytbejincejbnbaaa
open Go.RowKit
open Go.VarMath hiding AllB
set_option linter.unusedVariables false

/-- The call gives a slice at the head of a new block of its own, which is the bytes bs. -/
def GivesRow (w : World) (bs : List Nat) (e : Ending) (w' : World) : Prop := ∃ g cap, e = .returned (.slice (some ⟨g, 0, none⟩) bs.length cap) ∧ w'.ownsRow w.heap.size 5 1 (.slice (some ⟨g, 0, none⟩) bs.length cap) bs.length (vals bs) ∧ Below w.heap.size w w'
theorem gives_row {w w' : World} {bs : List Nat} {g cap n : Nat} (hn : bs.length = n) (h : w'.ownsRow w.heap.size 5 1 (.slice (some ⟨g, 0, none⟩) n cap) n (vals bs)) (hb : Below w.heap.size w w') : GivesRow w bs (.returned (.slice (some ⟨g, 0, none⟩) n cap)) w' := by
 subst hn; exact ⟨g, cap, rfl, h, hb⟩
set_option maxRecDepth 100000 in
theorem run_make_part (W : World) (l c : Nat) (h : l ≤ c) (hc : c ≤ 281474976710656) :
 (Instr.makeSlice 38 (.int .i64 (l : Int)) (.int .i64 (c : Int))).run Try.prog W = .ok (.slice (some ⟨W.heap.size, 0, none⟩) l c) (W.alloc (.cells (vals (List.replicate c 0)).toArray 5)) := by
 obtain ⟨i0, hi, hz0, hz1, hz2⟩ := info_parts info5
 have hr := run_make (P := Try.prog) W 38 5 i0 (.int .u8 0) Try.underlying38 hi hz0 .i64 .i64 l c (by omega) (by omega) (by rw [hz2]; omega) (by omega)
 simp only [Int.toNat_natCast] at hr
 rw [hr]
 congr 3
 have h2 : (madeCells (Value.int .u8 0).cells c).toList = vals (List.replicate c 0) := by
  have := toList_madeCells_one (.int .u8 0) c
  rw [show (Value.int .u8 0).cells = #[.int .u8 0] from rfl, this]
  simp [vals, byte]
 rw [hz1, Nat.mul_one]
 apply Array.toList_inj.1
 rw [h2]
theorem splice_front (n m : Nat) (bs : List Nat) (h : bs.length = n) : splice (vals (List.replicate (n + m) 0)) 0 (vals bs) = vals (bs ++ List.replicate m 0) := by
 subst h
 rw [splice, List.take_zero, List.nil_append, Nat.zero_add, length_vals, vals_append]
 congr 1
 simp [vals]
theorem owns_front {w w' : World} {g n m : Nat} {bs : List Nat} (hn : bs.length = n) (h : Own w' g (bs ++ List.replicate m 0)) (hg : w.heap.size ≤ g) (hm : n + m ≤ maxLen) :
 w'.ownsRow w.heap.size 5 1 (.slice (some ⟨g, 0, none⟩) n (n + m)) n (vals bs) := by
 subst hn
 refine ⟨by rw [length_vals]; omega, .inr ⟨g, _, _, rfl, hg, h, by omega, hm, by simp [vals], ?_⟩⟩
 rw [Nat.mul_one, vals_append, List.take_append_of_le_length (by rw [length_vals]; omega), List.take_of_length_le (by rw [length_vals]; omega)]
set_option maxHeartbeats 400000 in
theorem roomy_any (w : World) (ad : Option Addr) (len cap n : Nat) (bs : List Nat) (h : Row w ad len cap bs) (hL : len ≤ 140737488355328) (hn : n ≤ 16) :
 Calls Try.prog 60 #[.slice ad len cap, .int .i64 n] w (GivesRow w bs) := by
 have HB := Lib.hid h
 clear h
 have hmk := fun W => run_make_part W len (len + n) (by omega) (by omega)
 have hcast : ((len + n : Nat) : Int) = (len : Int) + (n : Int) := by omega
 rw [hcast] at hmk
 clear hcast
 have hO := own_new w (List.replicate (len + n) 0)
 have hZ : Below w.heap.size w (w.alloc (.cells (vals (List.replicate (len + n) 0)).toArray 5)) := (Below.refl _ _).alloc (Nat.le_refl _) _
 have HO := Lib.hid hO
 have HZ := Lib.hid hZ
 have HR := Lib.hid (HB.out.keep hZ (Nat.le_refl _))
 clear hO hZ
 go_enter Try.func60, Try.ntmps60
 go_wp2_with (with_reducible refine wpList_copy_splice rfl (.tmp 13) (.tmp 14) 38 38 rfl 5 Try.underlying38 size5 _ _ _ _ _ _ rfl rfl w.heap.size 0 (vals (List.replicate (len + n) 0)) 5 ?_ (vals bs) ?_ ?_ ?_ (vals_one bs) w.heap.size w ?_ (Nat.le_refl _) ?_)
 · exact HO.out
 · rw [length_vals, HB.out.len]; simp
 · intro hp
   rw [length_vals, HB.out.len] at hp
   exact HR.out.1.source hp
 · rw [length_vals, length_vals, HB.out.len]; simp
 · exact HZ.out
 · intro w2 HG2 hB2
   have R : Hid (Own w2 w.heap.size (bs ++ List.replicate n 0)) := by
    have h1 := HG2.out
    rw [splice_front _ _ _ HB.out.len] at h1
    exact h1
   clear HG2
   go_wp2
   go_ret
   exact gives_row HB.out.len (owns_front HB.out.len R.out (Nat.le_refl _) (by unfold maxLen; omega)) hB2
end Go.Proofs.Ytbejincejbnbaaa
namespace Go.Proofs.Ytbejincejbnbaaa
open Go.RowKit
open Go.VarMath hiding AllB
set_option linter.unusedVariables false

theorem low7 (v : Nat) (h : v < 18446744073709551616) : bits .and .u64 (v : Int) 127 = ((v % 128 : Nat) : Int) := by
 have := u64_and_nat v 127 h (by decide)
 rw [nat_mask7] at this
 exact this
theorem nat_or128 : ∀ x : Fin 256, x.val ||| 128 = x.val % 128 + 128 := by decide +kernel
theorem hi7 (x : Nat) (h : x < 256) : bits .or .u8 (x : Int) 128 = ((x % 128 + 128 : Nat) : Int) := by
 have := u8_or_nat x 128 h (by decide)
 rw [nat_or128 ⟨x, h⟩] at this
 exact this
/-- What stands before a round of Put's loop: of u's groups those of f more are still to come, the bytes ahead of them stand behind bs. -/
def PutAt (w : World) (bs : List Nat) (u : Nat) (v5 v6 : Value) (wr : World) : Prop :=
 ∃ (f v g cap n : Nat) (pre : List Nat), encU u = pre ++ gr f v ∧ pre.length + f = 9 ∧ v < 2 * 128 ^ f ∧ v < 18446744073709551616 ∧ AllB pre ∧ n = bs.length + pre.length ∧
   v6 = .int .u64 v ∧ v5 = .slice (some ⟨g, 0, none⟩) n cap ∧ wr.ownsRow w.heap.size 5 1 (.slice (some ⟨g, 0, none⟩) n cap) n (vals (bs ++ pre)) ∧ Below w.heap.size w wr
theorem putAt_step {w w' : World} {bs pre : List Nat} {u f v g cap n : Nat} (hu : encU u = pre ++ gr f v) (hf : pre.length + f = 9) (h2 : v < 2 * 128 ^ f) (h6 : v < 18446744073709551616) (ha : AllB pre) (hn : n = bs.length + pre.length) (hv : 127 < v)
 (hown : w'.ownsRow w.heap.size 5 1 (.slice (some ⟨g, 0, none⟩) (n + 1) cap) (n + 1) (vals (bs ++ (pre ++ [v % 128 + 128])))) (hb : Below w.heap.size w w') :
 PutAt w bs u (.slice (some ⟨g, 0, none⟩) (n + 1) cap) (.int .u64 ((v / 128 : Nat) : Int)) w' := by
 cases f with
 | zero => simp at h2; omega
 | succ f =>
   refine ⟨f, v / 128, g, cap, n + 1, pre ++ [v % 128 + 128], ?_, by simp; omega, ?_, by omega, ?_, by simp; omega, rfl, rfl, hown, hb⟩
   · rw [hu, gr_big _ _ (by omega), List.append_assoc]; rfl
   · rw [Nat.pow_succ] at h2; omega
   · exact all_append ha (fun x hx => by simp at hx; omega)
theorem putAt_start {w wr : World} {bs : List Nat} {u g cap n : Nat} (hu : u < 18446744073709551616) (hn : bs.length = n) (hown : wr.ownsRow w.heap.size 5 1 (.slice (some ⟨g, 0, none⟩) n cap) n (vals bs)) (hb : Below w.heap.size w wr) :
 PutAt w bs u (.slice (some ⟨g, 0, none⟩) n cap) (.int .u64 (u : Int)) wr :=
 ⟨9, u, g, cap, n, [], rfl, rfl, by rw [pow9]; omega, hu, (fun x hx => by cases hx), by simp [hn], rfl, rfl, by rw [List.append_nil]; exact hown, hb⟩
theorem put_end {pre bs : List Nat} {u f v : Nat} (hu : encU u = pre ++ gr f v) (hv : ¬ 127 < v) : bs ++ (pre ++ [v]) = bs ++ encU u := by
 rw [hu, gr_small _ _ (by omega)]
set_option maxHeartbeats 400000 in
theorem put_any (w : World) (ad : Option Addr) (len cap : Nat) (bs : List Nat) (n : Int) (h : Row w ad len cap bs) (hL : len ≤ 140737488355300) (h0 : -9223372036854775808 ≤ n) (h1 : n ≤ 9223372036854775807) :
 Calls Try.prog 43 #[.slice ad len cap, .int .i64 n] w (GivesRow w (bs ++ encN n)) := by
 have HB := Lib.hid h
 have hu := zig_lt h0 h1
 clear h
 go_enter Try.func43, Try.ntmps43
 go_wp2_with fail
 refine (roomy_any w ad len cap 10 bs HB.out (by omega) (by omega)).mono ?_
 rintro e w1 ⟨g, cp, rfl, hown, hb1⟩
 rw [HB.out.len] at hown ⊢
 have HO := Lib.hid hown
 have HB1 := Lib.hid hb1
 clear hown hb1
 go_wp2_with fail
 refine (unsigned_any n w1 h0 h1).mono ?_
 rintro e w' ⟨rfl, rfl⟩
 obtain ⟨u, hue⟩ : ∃ u, u = zig n := ⟨_, rfl⟩
 rw [← hue] at hu ⊢
 have HU := Lib.hid hue
 clear hue
 go_wp2
 go_loopw [5, 6] (fun v5 v6 wr => PutAt w bs u v5 v6 wr) (fun _ v6 _ => (intOf v6).toNat)
 case atStart => exact putAt_start hu HB.out.len HO.out HB1.out
 case round =>
  obtain ⟨f, v, g, cap', k, pre, hu', hf, h2, h6, ha, hn, rfl, rfl, hown, hbel⟩ := hrel
  have HU' := Lib.hid hu'
  have HF := Lib.hid hf
  have HN := Lib.hid hn
  have HO' := Lib.hid hown
  have HW := Lib.hid hbel
  have HA := Lib.hid ha
  have H2 := Lib.hid h2
  have hk : k ≤ 140737488355320 := by have := HB.out.len; omega
  clear hu' hf hn hown hbel ha h2
  have hand := low7 v h6
  obtain ⟨y, hy⟩ : ∃ y, y = v % 128 := ⟨_, rfl⟩
  rw [← hy] at hand
  have hy8 : y < 128 := by omega
  have hor := hi7 y (by omega)
  have hy2 : y % 128 + 128 = v % 128 + 128 := by omega
  rw [hy2] at hor
  have HY := Lib.hid hy
  clear hy hy2
  obtain ⟨z, hz⟩ : ∃ z, z = v % 128 + 128 := ⟨_, rfl⟩
  rw [← hz] at hor
  have hz8 : z < 256 := by omega
  have HZ := Lib.hid hz
  clear hz
  by_cases hv : 127 < v
  · have HW2 : Hid (Below w.heap.size w (wr.alloc (.cells #[.int .u8 (z : Int)] 5))) := HW.out.alloc HW.out.size _
    go_wp2_with (at_builtin; refine append_row rfl (.tmp 13) (.tmp 18) rfl w.heap.size k (bs ++ pre) [z] _ rfl (HO'.out.alloc _) (some_ne _ _ _) HW2.out.size _ _ _ rfl (row_byte wr z hz8) (by omega) w HW2.out ?_)
    intro g3 cp3 w3 ho3 hb3
    have HO3 := Lib.hid ho3
    have HB3 := Lib.hid hb3
    clear ho3 hb3
    go_wp2
    go_roundw
    case rel =>
     have h3 := HO3.out
     rw [HZ.out] at h3
     exact putAt_step HU'.out HF.out H2.out h6 HA.out HN.out hv h3 HB3.out
    case measure => simp [intOf]; omega
  · have HW2 : Hid (Below w.heap.size w (wr.alloc (.cells #[.int .u8 (v : Int)] 5))) := HW.out.alloc HW.out.size _
    have hv8 : v < 256 := by omega
    go_wp2_with (at_builtin; refine append_row rfl (.tmp 22) (.tmp 25) rfl w.heap.size k (bs ++ pre) [v] _ rfl (HO'.out.alloc _) (some_ne _ _ _) HW2.out.size _ _ _ rfl (row_byte wr v hv8) (by omega) w HW2.out ?_)
    intro g3 cp3 w3 ho3 hb3
    have HO3 := Lib.hid ho3
    have HB3 := Lib.hid hb3
    clear ho3 hb3
    go_wp2
    go_ret
    have h3 := HO3.out
    rw [put_end HU'.out hv, HU.out] at h3
    refine gives_row ?_ h3 HB3.out
    have := h3.1
    rw [length_vals] at this
    unfold encN; omega
theorem text_len (s : ByteArray) : ((s.size : Nat) : Int) = ((s.data.toList.map UInt8.toNat).length : Int) := by simp
def bytesS (s : ByteArray) : List Nat := s.data.toList.map UInt8.toNat
theorem length_bytesS (s : ByteArray) : (bytesS s).length = s.size := by simp [bytesS]
theorem strCells_vals (s : ByteArray) : Lib.strCells s = vals (bytesS s) := by simp [Lib.strCells, vals, bytesS, byte]
set_option maxHeartbeats 400000 in
theorem text_any (w : World) (ad : Option Addr) (len cap : Nat) (bs : List Nat) (s : ByteArray) (h : Row w ad len cap bs) (hL : len + s.size ≤ 140737488355300) :
 Calls Try.prog 98 #[.slice ad len cap, .string s] w (GivesRow w (bs ++ textB (bytesS s))) := by
 obtain ⟨i0, hi, hz0, hz1, hz2⟩ := info_parts info5
 have HB := Lib.hid h
 clear h
 go_enter Try.func98, Try.ntmps98
 go_wp2_with fail
 refine (put_any w ad len cap bs s.size HB.out (by omega) (by omega) (by omega)).mono ?_
 rintro e w1 ⟨g, cp, rfl, hown, hb1⟩
 have hel := enc_len (zig_lt (n := (s.size : Int)) (by omega) (by omega))
 have hl : (bs ++ encN (s.size : Int)).length ≤ len + 10 := by rw [List.length_append, HB.out.len]; unfold encN; omega
 obtain ⟨k, hk⟩ : ∃ k, k = (bs ++ encN (s.size : Int)).length := ⟨_, rfl⟩
 rw [← hk] at hown hl ⊢
 have HK := Lib.hid hk
 have HO := Lib.hid hown
 have HB1 := Lib.hid hb1
 clear hown hb1 hk hel
 go_wp2_with (at_builtin; refine Lib.wpList_append_own_string _ rfl (.tmp 8) (.tmp 9) 38 9 rfl w.heap.size 5 i0 Try.underlying38 Try.underlying9 hi hz0 hz1 hz2 _ k _ rfl HO.out s rfl (by unfold maxLen; omega) (by omega) HB1.out.size ?_)
 intro v2 w2 ho2 hgrow2 hn2
 have HB2 : Hid (Below w.heap.size w w2) := HB1.out.grown hgrow2 HB1.out.size (fun j hj => (HO.out.lt j hj).1)
 have hne : v2 ≠ .slice none 0 0 := hn2
 have HO2 : Hid (w2.ownsRow w.heap.size 5 1 v2 (k + s.size) (vals (bs ++ textB (bytesS s)))) := by
  have e : bs ++ textB (bytesS s) = (bs ++ encN (s.size : Int)) ++ bytesS s := by
   unfold textB encN
   rw [length_bytesS, zig_nat, List.append_assoc]
  rw [e, vals_append, ← strCells_vals]
  exact ho2
 clear ho2 hgrow2 hn2
 obtain ⟨g2, cp2, rfl⟩ : ∃ g cp, v2 = .slice (some ⟨g, 0, none⟩) (k + s.size) cp := by
  rcases HO2.out.2 with ⟨h, _⟩ | ⟨g, cp, cur, h, _⟩
  · exact absurd h hne
  · exact ⟨g, cp, h⟩
 clear hne
 go_wp2
 go_ret
 refine gives_row ?_ HO2.out HB2.out
 have := HO2.out.1
 rw [length_vals] at this
 omega
end Go.Proofs.Ytbejincejbnbaaa
namespace Go.Proofs.Ytbejincejbnbaaa
open Go.RowKit
open Go.VarMath hiding AllB
set_option linter.unusedVariables false

theorem take_getD {bs : List Nat} {k : Nat} (h : k < bs.length) : bs.take (k + 1) = bs.take k ++ [bs.getD k 0] := by
 rw [List.take_succ_eq_append_getElem h, List.getD_eq_getElem?_getD, List.getElem?_eq_getElem h]; rfl
theorem split_at {bs : List Nat} {k : Nat} (h : k < bs.length) : bs = bs.take k ++ bs.getD k 0 :: bs.drop (k + 1) := by
 conv => lhs; rw [← List.take_append_drop k bs]
 rw [List.drop_eq_getElem_cons h, List.getD_eq_getElem?_getD, List.getElem?_eq_getElem h]; rfl
theorem pow128 (k : Nat) : (2 : Nat) ^ (7 * k) = 128 ^ k := by rw [Nat.pow_mul]
theorem shl_step (y k : Nat) : IntKind.u64.wrap ((y : Int) * 2 ^ (7 * k)) = ((y * 128 ^ k % 18446744073709551616 : Nat) : Int) := by
 rw [wrap_u64', ← pow128]; simp
theorem or_step (u y k : Nat) (hk : k ≤ 9) (hu : u < 128 ^ k) (hy : y < 128) : bits .or .u64 (u : Int) ((y * 128 ^ k % 18446744073709551616 : Nat) : Int) = (((u + 128 ^ k * y) % 18446744073709551616 : Nat) : Int) := by
 have hb : u < 18446744073709551616 := by
  have : (128 : Nat) ^ k ≤ 128 ^ 9 := Nat.pow_le_pow_right (by omega) hk
  rw [pow9] at this; omega
 rw [u64_or_nat u _ hb (by omega), Nat.or_comm]
 have h1 : y * 128 ^ k % 18446744073709551616 % 2 ^ (7 * k) = 0 := by
  rcases k with _ | _ | _ | _ | _ | _ | _ | _ | _ | _ | k
  all_goals first | (exfalso; omega) | (simp only [Nat.reduceMul, Nat.reduceAdd, Nat.reducePow]; omega)
 rw [nat_join (7 * k) _ u h1 (by rw [pow128]; exact hu)]
 congr 1
 rcases k with _ | _ | _ | _ | _ | _ | _ | _ | _ | _ | k
 all_goals first | (exfalso; omega) | (simp only [Nat.reduceAdd, Nat.reducePow] at hu ⊢; omega)
theorem val_take {bs : List Nat} {k : Nat} (h : k < bs.length) : val (bs.take (k + 1)) = val (bs.take k) + 128 ^ k * (bs.getD k 0 % 128) := by
 rw [take_getD h, val_snoc, List.length_take, Nat.min_eq_left (by omega)]
theorem val_take_lt {bs : List Nat} {k : Nat} (h : k ≤ bs.length) : val (bs.take k) < 128 ^ k := by
 have := val_lt (bs.take k)
 rwa [List.length_take, Nat.min_eq_left h] at this
theorem val_take_mod {bs : List Nat} {k : Nat} (h : k ≤ bs.length) (hk : k ≤ 9) : val (bs.take k) % two64 = val (bs.take k) := by
 have h1 := val_take_lt h
 have h2 : (128 : Nat) ^ k ≤ 128 ^ 9 := Nat.pow_le_pow_right (by omega) hk
 rw [pow9] at h2
 exact Nat.mod_eq_of_lt (by rw [two64_val]; omega)
theorem and127 (x : Nat) (h : x < 256) : bits .and .u8 (x : Int) 127 = ((x % 128 : Nat) : Int) := by
 have := u8_and_nat x 127 h (by decide)
 rw [nat_mask7] at this
 exact this
theorem and128_hi (x : Nat) (h : x < 256) (h2 : 128 ≤ x) : bits .and .u8 (x : Int) 128 = 128 := by
 have := u8_and_nat x 128 h (by decide)
 rw [show (128 : Nat) = 2 ^ 7 from rfl, nat_bit] at this
 have e : x / 2 ^ 7 % 2 * 2 ^ 7 = 128 := by omega
 rw [e] at this
 exact this
theorem and128_lo (x : Nat) (h2 : x < 128) : bits .and .u8 (x : Int) 128 = 0 := by
 have := u8_and_nat x 128 (by omega) (by decide)
 rw [show (128 : Nat) = 2 ^ 7 from rfl, nat_bit] at this
 have e : x / 2 ^ 7 % 2 * 2 ^ 7 = 0 := by omega
 rw [e] at this
 exact this
/-- What both give. -/
def GivesGet (bs : List Nat) (w : World) (e : Ending) (w' : World) : Prop := e = .returned (.tuple #[.int .i64 (getB bs).1, .int .i64 ((getB bs).2 : Nat)]) ∧ w = w'
theorem len_take {bs : List Nat} {k : Nat} (h : k ≤ bs.length) : (bs.take k).length = k := by rw [List.length_take, Nat.min_eq_left h]
theorem hi_end {bs : List Nat} {k : Nat} (hp : AllHi (bs.take k)) (hk : bs.length ≤ k) (h10 : bs.length ≤ 10) : getB bs = (0, 0) := by
 rw [List.take_of_length_le hk] at hp
 exact getB_none (scan_all hp h10)
theorem hi_full {bs : List Nat} (hp : AllHi (bs.take 10)) (hk : 10 ≤ bs.length) : getB bs = (0, 0) := by
 apply getB_none
 have h := scan_full hp (bs.drop 10)
 rw [len_take hk, List.take_append_drop] at h
 exact h
theorem hi_scan {bs : List Nat} {k : Nat} (hp : AllHi (bs.take k)) (hk : k < bs.length) (h9 : k ≤ 9) (hx : bs.getD k 0 < 128) : scan 10 bs = some (bs.take (k + 1)) := by
 have h := scan_end hp hx (f := 10) (by rw [len_take (by omega)]; omega) (bs.drop (k + 1))
 rw [← split_at hk, ← take_getD hk] at h
 exact h
/-- The document's own way: what is read is what Put writes of it, or it is none. -/
theorem hi_get {bs : List Nat} {k : Nat} (hp : AllHi (bs.take k)) (hk : k < bs.length) (h9 : k ≤ 9) (hx : bs.getD k 0 < 128) :
 getB bs = if encU (val (bs.take (k + 1)) % two64) = bs.take (k + 1) then (zag (val (bs.take (k + 1)) % two64), k + 1) else (0, 0) := by
 rw [getB_some (hi_scan hp hk h9 hx), len_take (by omega)]
theorem hi_canon {bs : List Nat} {k : Nat} (hp : AllHi (bs.take k)) (hk : k < bs.length) (h9 : k ≤ 9) (hx : bs.getD k 0 < 128) :
 encU (val (bs.take (k + 1)) % two64) = bs.take (k + 1) ↔ (bs.getD k 0 = 0 → k = 0) ∧ (k = 9 → bs.getD k 0 ≤ 1) := by
 have h := canon hp hx (by rw [len_take (by omega)]; exact h9)
 rw [← take_getD hk, len_take (by omega)] at h
 rw [h]
 have e : bs.take k = [] ↔ k = 0 := by
  constructor
  · intro h0
    have := len_take (bs := bs) (k := k) (by omega)
    rw [h0] at this
    simpa using this.symm
  · intro h0; subst h0; rfl
 rw [e]
theorem hi_yes {bs : List Nat} {k : Nat} (hp : AllHi (bs.take k)) (hk : k < bs.length) (h9 : k ≤ 9) (hx : bs.getD k 0 < 128) (h0 : bs.getD k 0 = 0 → k = 0) (h1 : k = 9 → bs.getD k 0 ≤ 1) :
 getB bs = (zag (val (bs.take (k + 1)) % two64), k + 1) := by
 rw [hi_get hp hk h9 hx, if_pos ((hi_canon hp hk h9 hx).2 ⟨h0, h1⟩)]
theorem hi_no {bs : List Nat} {k : Nat} (hp : AllHi (bs.take k)) (hk : k < bs.length) (h9 : k ≤ 9) (hx : bs.getD k 0 < 128) (h : ¬ ((bs.getD k 0 = 0 → k = 0) ∧ (k = 9 → bs.getD k 0 ≤ 1))) :
 getB bs = (0, 0) := by
 rw [hi_get hp hk h9 hx, if_neg (fun e => h ((hi_canon hp hk h9 hx).1 e))]
/-- The tenth byte is greater than 1: there is none. -/
theorem hi_tenth {bs : List Nat} (ha : AllB bs) (hp : AllHi (bs.take 9)) (hk : 9 < bs.length) (hx : 1 < bs.getD 9 0) : getB bs = (0, 0) := by
 by_cases h : bs.getD 9 0 < 128
 · exact hi_no hp hk (by omega) h (fun h2 => by have := h2.2 rfl; omega)
 · refine hi_full ?_ (by omega)
   rw [take_getD hk]
   exact hp.snoc ⟨by omega, getD_all ha 9⟩
theorem hi_step {bs : List Nat} {k : Nat} (ha : AllB bs) (hp : AllHi (bs.take k)) (hk : k < bs.length) (hx : ¬ bs.getD k 0 < 128) : AllHi (bs.take (k + 1)) := by
 rw [take_getD hk]
 exact hp.snoc ⟨by omega, getD_all ha k⟩
theorem gives_get_no {bs : List Nat} {w : World} (h : getB bs = (0, 0)) : GivesGet bs w (.returned (.tuple #[.int .i64 0, .int .i64 0])) w := by
 unfold GivesGet; rw [h]; exact ⟨rfl, rfl⟩
theorem gives_get {bs : List Nat} {w : World} {x : Int} {k : Nat} (h : getB bs = (x, k)) {a b : Int} (ha : a = x) (hb : b = (k : Int)) : GivesGet bs w (.returned (.tuple #[.int .i64 a, .int .i64 b])) w := by
 unfold GivesGet; rw [h, ha, hb]; exact ⟨rfl, rfl⟩
end Go.Proofs.Ytbejincejbnbaaa
namespace Go.Proofs.Ytbejincejbnbaaa
open Go.RowKit
open Go.VarMath hiding AllB
set_option linter.unusedVariables false

theorem shl_step9 (y : Nat) : IntKind.u64.wrap ((y : Int) * 9223372036854775808) = ((y * 128 ^ 9 % 18446744073709551616 : Nat) : Int) := by
 rw [wrap_u64', pow9]; omega
set_option maxHeartbeats 1000000 in
theorem get_any (w : World) (ad : Option Addr) (len cap : Nat) (bs : List Nat) (h : Byt w ad len cap bs) (hL : len ≤ 140737488355328) :
 Calls Try.prog 59 #[.slice ad len cap] w (GivesGet bs w) := by
 obtain ⟨hlen, hfit, hall, hcs⟩ := h
 rcases hcs with h0 | ⟨b, off, rfl, hcell⟩
 · subst h0
   obtain rfl : bs = [] := by simpa using hlen
   clear hlen hfit hall
   go_enter Try.func59, Try.ntmps59
   go_wp2
   refine wp_loop_rounds 1 ?_
   rw [rounds_succ]
   go_wp2
   go_ret2
   exact gives_get_no getB_nil
 · have HC := Lib.hid hcell
   have HA := Lib.hid hall
   have HL := Lib.hid hlen
   clear hlen hcell hall
   go_enter Try.func59, Try.ntmps59
   go_wp2
   go_loop [4, 9] (fun v4 v9 => ∃ k : Nat, k ≤ len ∧ k ≤ 9 ∧ AllHi (bs.take k) ∧ v9 = .int .i64 k ∧ v4 = .int .u64 (val (bs.take k) % two64 : Nat)) (fun _ i => len - (intOf i).toNat)
   case atStart => exact ⟨0, by omega, by omega, AllHi.nil, rfl, rfl⟩
   case round =>
    obtain ⟨k, hk, hk9, hhi, rfl, rfl⟩ := hrel
    have HH := Lib.hid hhi
    clear hhi
    by_cases hlt : k < len
    · have hltb : k < bs.length := by rw [HL.out]; exact hlt
      have hc := HC.out k hlt
      have hx8 := getD_all HA.out k
      have hm := val_take_mod (bs := bs) (k := k) (by omega) hk9
      have hu := val_take_lt (bs := bs) (k := k) (by omega)
      have hv := val_take hltb
      obtain ⟨x, hxe⟩ : ∃ x, x = bs.getD k 0 := ⟨_, rfl⟩
      rw [← hxe] at hc hx8 hv
      obtain ⟨u, hue⟩ : ∃ u, u = val (bs.take k) := ⟨_, rfl⟩
      rw [hm, ← hue]
      rw [← hue] at hu hv
      have hand := and127 x hx8
      obtain ⟨y, hye⟩ : ∃ y, y = x % 128 := ⟨_, rfl⟩
      rw [← hye] at hand hv
      have hy8 : y < 128 := by omega
      have hsh := shl_step y k
      have hsh9 := shl_step9 y
      have hor := or_step u y k hk9 hu hy8
      rw [← hv] at hor
      obtain ⟨z, hze⟩ : ∃ z, z = y * 128 ^ k % 18446744073709551616 := ⟨_, rfl⟩
      rw [← hze] at hsh hor
      have HS9 : Hid (k = 9 → IntKind.u64.wrap ((y : Int) * 9223372036854775808) = (z : Int)) := by
       intro e
       rw [hsh9, hze, e]
      clear hsh9
      have HX := Lib.hid hxe
      clear hm hv hye hue hze hxe
      obtain ⟨v, hve⟩ : ∃ v, v = val (bs.take (k + 1)) % 18446744073709551616 := ⟨_, rfl⟩
      have hv6 : v < 18446744073709551616 := by rw [hve]; exact Nat.mod_lt _ (by decide)
      rw [← hve] at hor
      have HV : Hid (v = val (bs.take (k + 1)) % two64) := hve
      clear hve
      by_cases h9 : k = 9 ∧ 1 < x
      · obtain ⟨rfl, h1x⟩ := h9
        go_wp2
        go_ret2
        exact gives_get_no (hi_tenth HA.out HH.out hltb (by rw [← HX.out]; exact h1x))
      · have hno : k = 9 → bs.getD k 0 ≤ 1 := fun e => by rw [← HX.out]; omega
        have HNO := Lib.hid hno
        clear hno
        by_cases hx : x < 128
        · have h128 := and128_lo x hx
          have hb0 : ((0 : Int) != 0) = false := by decide
          have hxb : bs.getD k 0 < 128 := by rw [← HX.out]; exact hx
          have HXB := Lib.hid hxb
          clear hxb
          by_cases hz : x = 0 ∧ 0 < k
          · have HG : Hid (getB bs = (0, 0)) := hi_no HH.out hltb hk9 HXB.out (fun h => by have h1 := h.1 (by rw [← HX.out]; omega); omega)
            obtain ⟨rfl, hk0⟩ := hz
            go_wp2
            all_goals first
             | (exfalso; omega)
             | (go_ret2; exact gives_get_no HG.out)
          · have HG : Hid (getB bs = (zag v, k + 1)) := by
             show _ = _
             rw [HV.out]
             exact hi_yes HH.out hltb hk9 HXB.out (fun h => by rw [← HX.out] at h; omega) HNO.out
            by_cases h9k : k = 9
            · have hs9 := HS9.out h9k
              have hx1 : x ≤ 1 := by
               by_cases h : 1 < x
               · exact absurd ⟨h9k, h⟩ h9
               · omega
              have hx0b : ((x : Int) == 0) = false := by simp; omega
              have hx1b : decide ((1 : Int) < (x : Int)) = false := by simp; omega
              clear hsh
              subst h9k
              go_wp2_with (go_at_call 80; refine (signed_any v _ hv6).mono ?_; rintro e w' ⟨rfl, rfl⟩)
              go_ret2
              exact gives_get HG.out rfl rfl
            · have hk9b : ((k : Int) == 9) = false := by simp; omega
              by_cases hx0 : x = 0
              · have hk0 : k = 0 := by omega
                have hx0t : ((x : Int) == 0) = true := by simp; omega
                have hk1 : decide ((0 : Int) < (k : Int)) = false := by simp; omega
                have hk2 : decide (0 < k) = false := by simp; omega
                clear hx0 hk0
                go_wp2_with fail
                refine (signed_any v _ hv6).mono ?_
                rintro e w' ⟨rfl, rfl⟩
                go_wp2
                go_ret2
                exact gives_get HG.out rfl rfl
              · have hx0b : ((x : Int) == 0) = false := by simp; omega
                go_wp2_with fail
                refine (signed_any v _ hv6).mono ?_
                rintro e w' ⟨rfl, rfl⟩
                go_wp2
                go_ret2
                exact gives_get HG.out rfl rfl
        · have h128 := and128_hi x hx8 (by omega)
          have HS : Hid (AllHi (bs.take (k + 1))) := hi_step HA.out HH.out hltb (by rw [← HX.out]; exact hx)
          have hk8 : k < 9 := by
           by_cases h : k = 9
           · exact absurd ⟨h, by omega⟩ h9
           · omega
          have hk9b : ((k : Int) == 9) = false := by simp; omega
          go_wp2
          all_goals first
           | (exfalso; omega)
           | (go_round
              case rel => exact ⟨k + 1, by omega, by omega, HS.out, by go_num, by rw [HV.out]⟩
              case measure => simp [intOf]; omega)
    · go_wp2
      go_ret2
      exact gives_get_no (hi_end HH.out (by rw [HL.out]; omega) (by rw [HL.out]; omega))
end Go.Proofs.Ytbejincejbnbaaa
namespace Go.Proofs.Ytbejincejbnbaaa
open Go.RowKit
open Go.VarMath hiding AllB
set_option linter.unusedVariables false

theorem zigr_pos (n : Int) (h0 : 0 ≤ n) (h1 : n ≤ 9223372036854775807) (a b : Int) (ha : a = n * 2) (hb : b = 0) : bits .xor .u64 a b = ((zig n : Nat) : Int) := by
 have h2 := zig_nonneg h0
 have h4 : a = ((zig n : Nat) : Int) := by omega
 have h5 := zig_lt (n := n) (by omega) h1
 rw [hb, h4, u64_keep _ h5]
/-- The number that the document's own Put writes, whatever its spelling. -/
theorem zigr (n : Int) (h0 : -9223372036854775808 ≤ n) (h1 : n ≤ 9223372036854775807) (a b : Int) (ha : a = n * 2 % 18446744073709551616) (hb : b = n / 9223372036854775808 % 18446744073709551616) : bits .xor .u64 a b = ((zig n : Nat) : Int) := by
 by_cases h : 0 ≤ n
 · exact zigr_pos n h h1 a b (by omega) (by omega)
 · exact zig_minus n (by omega) h0 a b ha (by omega)
set_option maxHeartbeats 400000 in
theorem refPut_any (w : World) (ad : Option Addr) (len cap : Nat) (bs : List Nat) (n : Int) (h : Row w ad len cap bs) (hL : len ≤ 140737488355300) (h0 : -9223372036854775808 ≤ n) (h1 : n ≤ 9223372036854775807) :
 Calls Try.prog 32 #[.slice ad len cap, .int .i64 n] w (GivesRow w (bs ++ encN n)) := by
 have HB := Lib.hid h
 have hu := zig_lt h0 h1
 clear h
 have HZ1 : Hid (Below w.heap.size w (w.alloc (.cells #[] 5))) := (Below.refl _ _).alloc (Nat.le_refl _) _
 go_enter Try.func32, Try.ntmps32
 go_wp2_with (at_builtin; refine append_row rfl (.tmp 7) (.tmp 8) rfl w.heap.size 0 [] _ _ rfl (own_empty w _ (Nat.le_refl _)) (some_ne _ _ _) HZ1.out.size _ _ _ rfl (HB.out.keep HZ1.out (Nat.le_refl _)) (by omega) w HZ1.out ?_)
 intro g cp w1 ho1 hb1
 have HO := Lib.hid (show w1.ownsRow w.heap.size 5 1 (.slice (some ⟨g, 0, none⟩) len cp) len (vals bs) by simpa using ho1)
 have HB1 := Lib.hid hb1
 clear ho1 hb1
 have hx : bits .xor .u64 (IntKind.u64.wrap (wrap64 (n * 2))) (IntKind.u64.wrap (n / 9223372036854775808)) = ((zig n : Nat) : Int) :=
  zigr n h0 h1 _ _ (by rw [wrap_u64']; unfold wrap64; omega) (by rw [wrap_u64'])
 obtain ⟨u, hue⟩ : ∃ u, u = zig n := ⟨_, rfl⟩
 rw [← hue] at hu hx
 have HU := Lib.hid hue
 clear hue
 go_wp2
 clear hx
 go_loopw [5, 6] (fun v5 v6 wr => PutAt w bs u v5 v6 wr) (fun _ v6 _ => (intOf v6).toNat)
 case atStart => exact putAt_start hu HB.out.len HO.out HB1.out
 case round =>
  obtain ⟨f, v, g, cap', k, pre, hu', hf, h2, h6, ha, hn, rfl, rfl, hown, hbel⟩ := hrel
  have HU' := Lib.hid hu'
  have HF := Lib.hid hf
  have HN := Lib.hid hn
  have HO' := Lib.hid hown
  have HW := Lib.hid hbel
  have HA := Lib.hid ha
  have H2 := Lib.hid h2
  have hk : k ≤ 140737488355320 := by have := HB.out.len; omega
  clear hu' hf hn hown hbel ha h2
  by_cases hv : 127 < v
  · obtain ⟨y, hy⟩ : ∃ y, y = v % 256 := ⟨_, rfl⟩
    have hwr : IntKind.u8.wrap (v : Int) = (y : Int) := by rw [wrap_u8']; omega
    have hor := hi7 y (by omega)
    have hy2 : y % 128 + 128 = v % 128 + 128 := by omega
    rw [hy2] at hor
    clear hy hy2
    obtain ⟨z, hz⟩ : ∃ z, z = v % 128 + 128 := ⟨_, rfl⟩
    rw [← hz] at hor
    have hz8 : z < 256 := by omega
    have HZ := Lib.hid hz
    clear hz
    have hge : decide ((128 : Int) ≤ (v : Int)) = true := by simp; omega
    have HW2 : Hid (Below w.heap.size w (wr.alloc (.cells #[.int .u8 (z : Int)] 5))) := HW.out.alloc HW.out.size _
    go_wp2_with (at_builtin; refine append_row rfl (.tmp 19) (.tmp 23) rfl w.heap.size k (bs ++ pre) [z] _ rfl (HO'.out.alloc _) (some_ne _ _ _) HW2.out.size _ _ _ rfl (row_byte wr z hz8) (by omega) w HW2.out ?_)
    intro g3 cp3 w3 ho3 hb3
    have HO3 := Lib.hid ho3
    have HB3 := Lib.hid hb3
    clear ho3 hb3
    go_wp2
    go_roundw
    case rel =>
     have h3 := HO3.out
     rw [HZ.out] at h3
     exact putAt_step HU'.out HF.out H2.out h6 HA.out HN.out hv h3 HB3.out
    case measure => simp [intOf]; omega
  · have hge : decide ((128 : Int) ≤ (v : Int)) = false := by simp; omega
    have hv8 : v < 256 := by omega
    have HW2 : Hid (Below w.heap.size w (wr.alloc (.cells #[.int .u8 (v : Int)] 5))) := HW.out.alloc HW.out.size _
    go_wp2_with (at_builtin; refine append_row rfl (.tmp 27) (.tmp 30) rfl w.heap.size k (bs ++ pre) [v] _ rfl (HO'.out.alloc _) (some_ne _ _ _) HW2.out.size _ _ _ rfl (row_byte wr v hv8) (by omega) w HW2.out ?_)
    intro g3 cp3 w3 ho3 hb3
    have HO3 := Lib.hid ho3
    have HB3 := Lib.hid hb3
    clear ho3 hb3
    go_wp2
    go_ret
    have h3 := HO3.out
    rw [put_end HU'.out hv, HU.out] at h3
    refine gives_row ?_ h3 HB3.out
    have := h3.1
    rw [length_vals] at this
    unfold encN; omega
set_option maxHeartbeats 400000 in
theorem refText_any (w : World) (ad : Option Addr) (len cap : Nat) (bs : List Nat) (s : ByteArray) (h : Row w ad len cap bs) (hL : len + s.size ≤ 140737488355300) :
 Calls Try.prog 88 #[.slice ad len cap, .string s] w (GivesRow w (bs ++ textB (bytesS s))) := by
 obtain ⟨i0, hi, hz0, hz1, hz2⟩ := info_parts info5
 have HB := Lib.hid h
 clear h
 go_enter Try.func88, Try.ntmps88
 go_wp2_with fail
 refine (refPut_any w ad len cap bs s.size HB.out (by omega) (by omega) (by omega)).mono ?_
 rintro e w1 ⟨g, cp, rfl, hown, hb1⟩
 have hel := enc_len (zig_lt (n := (s.size : Int)) (by omega) (by omega))
 have hl : (bs ++ encN (s.size : Int)).length ≤ len + 10 := by rw [List.length_append, HB.out.len]; unfold encN; omega
 obtain ⟨k, hk⟩ : ∃ k, k = (bs ++ encN (s.size : Int)).length := ⟨_, rfl⟩
 rw [← hk] at hown hl ⊢
 have HK := Lib.hid hk
 have HO := Lib.hid hown
 have HB1 := Lib.hid hb1
 clear hown hb1 hk hel
 go_wp2_with (at_builtin; refine Lib.wpList_append_own_string _ rfl (.tmp 8) (.tmp 9) 38 9 rfl w.heap.size 5 i0 Try.underlying38 Try.underlying9 hi hz0 hz1 hz2 _ k _ rfl HO.out s rfl (by unfold maxLen; omega) (by omega) HB1.out.size ?_)
 intro v2 w2 ho2 hgrow2 hn2
 have HB2 : Hid (Below w.heap.size w w2) := HB1.out.grown hgrow2 HB1.out.size (fun j hj => (HO.out.lt j hj).1)
 have hne : v2 ≠ .slice none 0 0 := hn2
 have HO2 : Hid (w2.ownsRow w.heap.size 5 1 v2 (k + s.size) (vals (bs ++ textB (bytesS s)))) := by
  have e : bs ++ textB (bytesS s) = (bs ++ encN (s.size : Int)) ++ bytesS s := by
   unfold textB encN
   rw [length_bytesS, zig_nat, List.append_assoc]
  rw [e, vals_append, ← strCells_vals]
  exact ho2
 clear ho2 hgrow2 hn2
 obtain ⟨g2, cp2, rfl⟩ : ∃ g cp, v2 = .slice (some ⟨g, 0, none⟩) (k + s.size) cp := by
  rcases HO2.out.2 with ⟨h, _⟩ | ⟨g, cp, cur, h, _⟩
  · exact absurd h hne
  · exact ⟨g, cp, h⟩
 clear hne
 go_wp2
 go_ret
 refine gives_row ?_ HO2.out HB2.out
 have := HO2.out.1
 rw [length_vals] at this
 omega
end Go.Proofs.Ytbejincejbnbaaa
namespace Go.Proofs.Ytbejincejbnbaaa
open Go.RowKit
open Go.VarMath hiding AllB
set_option linter.unusedVariables false

theorem run_upto (ad : Option Addr) (len cap h : Nat) (hc : h ≤ cap) (w : World) :
 (Instr.slice 38 (.slice ad len cap) none (some (.int .i64 (h : Int))) none).run Try.prog w = .ok (.slice ad h cap) w := by
 rw [run_slice_h _ _ _ _ _ elem22 _ _ (by omega) (by omega), sizeElem]
 simp only [Result.andThen, sliced, Int.toNat_natCast]
 rcases ad with _ | a
 · simp
 · simp [Addr.add]
end Go.Proofs.Ytbejincejbnbaaa
namespace Go.Proofs.Ytbejincejbnbaaa
open Go.RowKit
open Go.VarMath hiding AllB
set_option linter.unusedVariables false

def GivesGetB (bs : List Nat) (w : World) (e : Ending) (w' : World) : Prop := e = .returned (.tuple #[.int .i64 (getB bs).1, .int .i64 ((getB bs).2 : Nat)]) ∧ Below w.heap.size w w'
set_option maxHeartbeats 1000000 in
set_option maxRecDepth 100000 in
theorem refGet_any (w : World) (ad : Option Addr) (len cap : Nat) (bs : List Nat) (h : Byt w ad len cap bs) (hL : len ≤ 140737488355328) :
 Calls Try.prog 52 #[.slice ad len cap] w (GivesGetB bs w) := by
 obtain ⟨hlen, hfit, hall, hcs⟩ := h
 rcases hcs with h0 | ⟨b, off, rfl, hcell⟩
 · subst h0
   obtain rfl : bs = [] := by simpa using hlen
   clear hlen hfit hall
   go_enter Try.func52, Try.ntmps52
   go_wp2
   refine wp_loop_rounds 1 ?_
   rw [rounds_succ]
   go_wp2
   go_ret2
   exact ⟨by rw [getB_nil]; rfl, Below.refl _ _⟩
 · have HC := Lib.hid hcell
   have HA := Lib.hid hall
   have HL := Lib.hid hlen
   clear hlen hcell hall
   go_enter Try.func52, Try.ntmps52
   go_wp2
   go_loop [4, 5] (fun v4 v5 => ∃ k : Nat, k ≤ len ∧ k ≤ 10 ∧ AllHi (bs.take k) ∧ v5 = .int .i64 k ∧ v4 = .int .u64 (val (bs.take k) % two64 : Nat)) (fun _ i => len - (intOf i).toNat)
   case atStart => exact ⟨0, by omega, by omega, AllHi.nil, rfl, rfl⟩
   case round =>
    obtain ⟨k, hk, hk9, hhi, rfl, rfl⟩ := hrel
    have HH := Lib.hid hhi
    clear hhi
    by_cases hlt : k < len ∧ k < 10
    · obtain ⟨hlt, hk10⟩ := hlt
      have hltb : k < bs.length := by rw [HL.out]; exact hlt
      have hc := HC.out k hlt
      have hx8 := getD_all HA.out k
      have hm := val_take_mod (bs := bs) (k := k) (by omega) (by omega)
      have hu := val_take_lt (bs := bs) (k := k) (by omega)
      have hv := val_take hltb
      obtain ⟨x, hxe⟩ : ∃ x, x = bs.getD k 0 := ⟨_, rfl⟩
      rw [← hxe] at hc hx8 hv
      obtain ⟨u, hue⟩ : ∃ u, u = val (bs.take k) := ⟨_, rfl⟩
      rw [hm, ← hue]
      rw [← hue] at hu hv
      have hand := and127 x hx8
      obtain ⟨y, hye⟩ : ∃ y, y = x % 128 := ⟨_, rfl⟩
      rw [← hye] at hand hv
      have hy8 : y < 128 := by omega
      have hsh := shl_step y k
      have hor := or_step u y k (by omega) hu hy8
      rw [← hv] at hor
      obtain ⟨z, hze⟩ : ∃ z, z = y * 128 ^ k % 18446744073709551616 := ⟨_, rfl⟩
      rw [← hze] at hsh hor
      have HX := Lib.hid hxe
      clear hm hv hye hue hze hxe
      obtain ⟨v, hve⟩ : ∃ v, v = val (bs.take (k + 1)) % 18446744073709551616 := ⟨_, rfl⟩
      have hv6 : v < 18446744073709551616 := by rw [hve]; exact Nat.mod_lt _ (by decide)
      rw [← hve] at hor
      have HV : Hid (v = val (bs.take (k + 1)) % two64) := hve
      clear hve
      by_cases hx : x < 128
      · have hzag := zag_bits v hv6 _ (zag_arg v hv6)
        have hin := zag_in hv6
        have HG := hi_get HH.out hltb (by omega) (by rw [← HX.out]; exact hx)
        rw [← HV.out] at HG
        obtain ⟨q, hq⟩ : ∃ q, q = zag v := ⟨_, rfl⟩
        rw [← hq] at hzag hin HG
        have HG := Lib.hid HG
        have HQ := Lib.hid hq
        clear hq
        have hrow : Row w (some ⟨b, off, none⟩) (k + 1) cap (bs.take (k + 1)) := cut_row (len := len) ⟨⟨HL.out, hfit, HA.out, .inr ⟨b, off, rfl, HC.out⟩⟩, fun h => by cases h⟩ (k + 1) (by omega)
        have HR := Lib.hid hrow
        clear hrow
        have hsl := run_upto (some ⟨b, off, none⟩) len cap (k + 1) (by omega)
        rw [show ((k + 1 : Nat) : Int) = (k : Int) + 1 by omega] at hsl
        obtain ⟨s1, hs1⟩ : ∃ s1, s1 = str (encU v) := ⟨_, rfl⟩
        obtain ⟨s2, hs2⟩ : ∃ s2, s2 = str (bs.take (k + 1)) := ⟨_, rfl⟩
        obtain ⟨n1, hn1⟩ : ∃ n1, n1 = (encU v).length := ⟨_, rfl⟩
        have K8 : ∀ W, Below w.heap.size w W → Calls Try.prog 32 #[.slice none 0 0, .int .i64 q] W fun e w' => ∃ g cp, e = .returned (.slice (some ⟨g, 0, none⟩) n1 cp) ∧ Hid (Below w.heap.size w w') ∧
         (convert 38 9 (.slice (some ⟨g, 0, none⟩) n1 cp)).run Try.prog w' = .ok (.string s1) w' ∧ (convert 38 9 (.slice (some ⟨b, off, none⟩) (k + 1) cap)).run Try.prog w' = .ok (.string s2) w' := by
         intro W hW
         refine (refPut_any W none 0 0 [] q ⟨Byt.nil W, fun _ => rfl⟩ (by omega) hin.1 hin.2).mono ?_
         rintro e w' ⟨g, cp, rfl, ho, hb⟩
         have he : [] ++ encN q = encU v := by rw [List.nil_append]; unfold encN; rw [HQ.out, zig_zag]
         rw [he] at ho ⊢
         rw [← hn1] at ho ⊢
         have hb2 : Below w.heap.size w w' := hW.trans (hb.mono hW.size)
         exact ⟨g, cp, rfl, hb2, run_str_at (owns_row ho (enc_all hv6)).1 hs1, run_str_at (HR.out.keep hb2 (Nat.le_refl _)).1 hs2⟩
        have HK := Lib.hid K8
        have hcv0 : (convert 38 9 (.slice (some ⟨b, off, none⟩) (k + 1) cap)).run Try.prog w = .ok (.string s2) w := run_str_at HR.out.1 hs2
        have hcv1 : (convert 38 9 (.slice (some ⟨b, off, none⟩) (k + 1) cap)).run Try.prog w.drew = .ok (.string s2) w.drew := run_str_at (HR.out.keep ((Below.refl _ _).drew) (Nat.le_refl _)).1 hs2
        have H1 := Lib.hid hs1
        have H2 := Lib.hid hs2
        clear K8 hs1 hs2 hn1
        have hwk : IntKind.i64.wrap ((k : Int) + 1) = (k : Int) + 1 := IntWalk.i64_in _ (by omega)
        by_cases heq : encU v = bs.take (k + 1)
        · have hse : (s1.toList == s2.toList) = true := by rw [H1.out, H2.out, heq, str_same]
          have HE : Hid (getB bs = (q, k + 1)) := by show _ = _; rw [HG.out, if_pos heq]
          clear heq
          go_wp2_with fail
          go_region_with (go_at_call 32; refine (HK.out _ ?_).mono ?_; exact (Below.refl _ _).drew; rintro e w1 ⟨g, cp, rfl, hb1, hca, hcb⟩)
          all_goals
           go_wp2
           go_ret2
           exact ⟨by rw [HE.out]; rfl, hb1.out⟩
        · have hse : (s1.toList == s2.toList) = false := by
           have := str_differ (enc_all hv6) HR.out.1.all heq
           rw [← H1.out, ← H2.out] at this
           exact this
          have HE : Hid (getB bs = (0, 0)) := by show _ = _; rw [HG.out, if_neg heq]
          clear heq
          go_wp2_with fail
          go_region_with (go_at_call 32; refine (HK.out _ ?_).mono ?_; exact (Below.refl _ _).drew; rintro e w1 ⟨g, cp, rfl, hb1, hca, hcb⟩)
          all_goals
           go_wp2
           go_ret2
           exact ⟨by rw [HE.out]; rfl, hb1.out⟩
      · have HS : Hid (AllHi (bs.take (k + 1))) := hi_step HA.out HH.out hltb (by rw [← HX.out]; exact hx)
        go_wp2
        go_round
        case rel => exact ⟨k + 1, by omega, by omega, HS.out, by go_num, by rw [HV.out]⟩
        case measure => simp [intOf]; omega
    · have HN : Hid (getB bs = (0, 0)) := by
       by_cases h10 : k < 10
       · exact hi_end HH.out (by rw [HL.out]; omega) (by rw [HL.out]; omega)
       · obtain rfl : k = 10 := by omega
         exact hi_full HH.out (by rw [HL.out]; omega)
      go_wp2
      all_goals first
       | (exfalso; omega)
       | (go_ret2; exact ⟨by rw [HN.out]; rfl, Below.refl _ _⟩)
end Go.Proofs.Ytbejincejbnbaaa
namespace Go.Proofs.Ytbejincejbnbaaa
open Go.RowKit
open Go.VarMath hiding AllB
set_option linter.unusedVariables false

/-- What stands before round k of Long's loop. -/
def LongAt (w : World) (bs : List Nat) (n : Int) (k : Nat) (v5 : Value) (wr : World) : Prop :=
 ∃ (g cap m : Nat), m = bs.length + k ∧ v5 = .slice (some ⟨g, 0, none⟩) m cap ∧ wr.ownsRow w.heap.size 5 1 (.slice (some ⟨g, 0, none⟩) m cap) m (vals (bs ++ (longB n).take k)) ∧ Below w.heap.size w wr
theorem longAt_step {w w' : World} {bs : List Nat} {n : Int} {k m g cap z : Nat} (hk : k < 8) (hm : m = bs.length + k) (hz : z = low64 n / 256 ^ (7 - k) % 256)
 (hown : w'.ownsRow w.heap.size 5 1 (.slice (some ⟨g, 0, none⟩) (m + 1) cap) (m + 1) (vals (bs ++ ((longB n).take k ++ [z])))) (hb : Below w.heap.size w w') :
 LongAt w bs n (k + 1) (.slice (some ⟨g, 0, none⟩) (m + 1) cap) w' := by
 refine ⟨g, cap, m + 1, by omega, rfl, ?_, hb⟩
 have h := beB_take k 8 (low64 n) hk
 unfold longB at hown ⊢
 rw [h]
 have e : 8 - 1 - k = 7 - k := by omega
 rw [e, ← hz]
 exact hown
theorem refLong_shift (n : Int) (j : Nat) (hj : j < 8) : n / 2 ^ (8 * j) % 256 = ((low64 n / 256 ^ j % 256 : Nat) : Int) := by
 unfold low64
 rcases j with _ | _ | _ | _ | _ | _ | _ | _ | j
 all_goals first | (exfalso; omega) | (simp only [Nat.reduceMul, Nat.reduceAdd, Int.reducePow, Nat.reducePow]; omega)
set_option maxHeartbeats 400000 in
theorem refLong_any (w : World) (ad : Option Addr) (len cap : Nat) (bs : List Nat) (n : Int) (h : Row w ad len cap bs) (hL : len ≤ 140737488355300) (h0 : -9223372036854775808 ≤ n) (h1 : n ≤ 9223372036854775807) :
 Calls Try.prog 87 #[.slice ad len cap, .int .i64 n] w (GivesRow w (bs ++ longB n)) := by
 have HB := Lib.hid h
 clear h
 have HZ1 : Hid (Below w.heap.size w (w.alloc (.cells #[] 5))) := (Below.refl _ _).alloc (Nat.le_refl _) _
 go_enter Try.func87, Try.ntmps87
 go_wp2_with (at_builtin; refine append_row rfl (.tmp 7) (.tmp 8) rfl w.heap.size 0 [] _ _ rfl (own_empty w _ (Nat.le_refl _)) (some_ne _ _ _) HZ1.out.size _ _ _ rfl (HB.out.keep HZ1.out (Nat.le_refl _)) (by omega) w HZ1.out ?_)
 intro g cp w1 ho1 hb1
 have HO := Lib.hid (show w1.ownsRow w.heap.size 5 1 (.slice (some ⟨g, 0, none⟩) len cp) len (vals bs) by simpa using ho1)
 have HB1 := Lib.hid hb1
 clear ho1 hb1
 go_wp2
 go_loopw [5, 6] (fun v5 v6 wr => ∃ (k : Nat) (i : Int), k ≤ 8 ∧ i = 56 - 8 * (k : Int) ∧ v6 = .int .i64 i ∧ LongAt w bs n k v5 wr) (fun _ v6 _ => (8 + intOf v6).toNat)
 case atStart => exact ⟨0, _, by omega, by omega, rfl, g, cp, len, by rw [HB.out.len]; rfl, rfl, by simpa using HO.out, HB1.out⟩
 case round =>
  obtain ⟨k, i, hk, hi, rfl, g, cap', m, hm, rfl, hown, hbel⟩ := hrel
  have HM := Lib.hid hm
  have HO' := Lib.hid hown
  have HW := Lib.hid hbel
  have hm2 : m ≤ 140737488355308 := by have := HB.out.len; omega
  clear hm hown hbel
  by_cases hlt : k < 8
  · obtain ⟨z, hz⟩ : ∃ z, z = low64 n / 256 ^ (7 - k) % 256 := ⟨_, rfl⟩
    have hz8 : z < 256 := by omega
    obtain ⟨t, ht⟩ : ∃ t, t = 8 * (7 - k) := ⟨_, rfl⟩
    have hsh : n / 2 ^ t % 256 = (z : Int) := by rw [hz, ht]; exact refLong_shift _ _ (by omega)
    have hsh2 : IntKind.u8.wrap (n / 2 ^ t) = (z : Int) := by rw [wrap_u8', hsh]
    obtain rfl : i = (t : Int) := by omega
    have HI := Lib.hid hi
    have HZ := Lib.hid hz
    have ht2 : t ≤ 56 := by omega
    clear hz hsh hi ht
    have HW2 : Hid (Below w.heap.size w (wr.alloc (.cells #[.int .u8 (z : Int)] 5))) := HW.out.alloc HW.out.size _
    go_wp2_with (at_builtin; refine append_row rfl (.tmp 14) (.tmp 20) rfl w.heap.size m (bs ++ (longB n).take k) [z] _ rfl (HO'.out.alloc _) (some_ne _ _ _) HW2.out.size _ _ _ rfl (row_byte wr z hz8) (by omega) w HW2.out ?_)
    intro g3 cp3 w3 ho3 hb3
    have HO3 := Lib.hid ho3
    have HB3 := Lib.hid hb3
    clear ho3 hb3 hsh2
    go_wp2
    go_roundw
    case rel => exact ⟨k + 1, _, by omega, by have := HI.out; omega, rfl, longAt_step hlt HM.out HZ.out HO3.out HB3.out⟩
    case measure => simp [intOf]; omega
  · obtain rfl : k = 8 := by omega
    obtain rfl : i = -8 := by omega
    clear hi
    go_wp2
    go_ret
    have h3 := HO'.out
    rw [List.take_of_length_le (by rw [length_longB]; omega)] at h3
    refine gives_row ?_ h3 HW.out
    rw [HM.out, List.length_append, length_longB]
end Go.Proofs.Ytbejincejbnbaaa
namespace Go.Proofs.Ytbejincejbnbaaa
open Go.RowKit Go.OpenShut
set_option linter.unusedVariables false

theorem run_append_keep {P : Program} (w : World) (base : Nat) (t ty e : TypeId) (i : TypeInfo) (z : Value) (size bytes : Nat) (ht : P.underlying t = some (.slice e)) (hi : P.info? e = some i) (hz : i.zero = some z)
 (hsize : i.size = size) (hby : i.bytes = bytes) (hzs : z.cells.size = size) (hsz : 0 < size)
 (g cap : Nat) (n : Nat) (xs : List Value) (hown : w.ownsRow base e size (.slice (some ⟨g, 0, none⟩) n cap) n xs)
 (a : Addr) (m c : Nat) (news : List Value) (hl : news.length = m * size) (hnews : ∀ j u, news[j]? = some u → w.cell? (a.add j) = some u) (h1 : ∀ u ∈ news, u.oneCell' = true)
 (h63 : n + m ≤ maxLen) (hbytes : (n + m) * bytes ≤ 140737488355328) (hbase : base ≤ w.heap.size) :
 ∃ v' w', (Builtin.append_ #[t, t] ty #[.slice (some ⟨g, 0, none⟩) n cap, .slice (some a) m c]).run P w = .ok v' w' ∧ w'.ownsRow base e size v' (n + m) (xs ++ news) ∧ w.grownBy w' (some g) ∧
   v' ≠ .slice none 0 0 ∧ w'.ownsRow base e size (.slice (some ⟨g, 0, none⟩) n cap) n xs := by
 obtain ⟨v', w', hr, h2, h3, h4⟩ := run_append_own (P := P) w base t ty e i z size bytes ht hi hz hsize hby hzs hsz (.slice (some ⟨g, 0, none⟩) n cap) n xs hown a m c news hl hnews h1 h63 hbytes hbase
 have hne : v' ≠ .slice none 0 0 := fun h => by have := (h4.1 h).1; cases this
 refine ⟨v', w', hr, h2, h3, hne, ?_⟩
 subst hsize
 subst hby
 rcases hown.2 with ⟨h, _⟩ | ⟨g', cap', cur, h, hbg, hg, hnc, hcm, hcs, htake⟩
 · cases h
 · cases h
   refine ⟨hown.1, .inr ?_⟩
   by_cases hroom : n + m ≤ cap
   · have hfit : n * i.size + news.length ≤ cur.size := by rw [hl, hcs, ← Nat.add_mul]; exact Nat.mul_le_mul_right _ hroom
     have hr2 := run_append_room (P := P) w t ty e i ht hi g n cap cur hg a m c news hl hnews h1 hroom hfit
     rw [hr2] at hr
     cases hr
     refine ⟨g, cap, _, rfl, hbg, setRow_heap w g cur _ e _ hg, hnc, hcm, ?_, ?_⟩
     · simp only [List.size_toArray, List.length_append, List.length_take, List.length_drop, Array.length_toList]
       omega
     · rw [htake, List.append_assoc]
       rw [← hown.1]
       exact List.take_left
   · have holds : ∀ j u, xs[j]? = some u → w.cell? ((⟨g, 0, none⟩ : Addr).add j) = some u := hown.cells (g := g) rfl
     have hr2 := run_append_grow (P := P) w t ty e i z ht hi hz ⟨g, 0, none⟩ n cap xs hown.1 holds a m c news hl hnews (by omega) (by simp only [maxLen] at h63; omega) (growslice_fits (by omega) hbytes)
     rw [hr2] at hr
     cases hr
     have hlt : g < w.heap.size := (Array.getElem?_eq_some_iff.1 hg).1
     refine ⟨g, cap, cur, rfl, hbg, ?_, hnc, hcm, hcs, htake⟩
     exact (Below.heap_alloc w.drew _ g hlt).trans hg
end Go.Proofs.Ytbejincejbnbaaa
namespace Go.Proofs.Ytbejincejbnbaaa
open Go.RowKit Go.OpenShut
set_option linter.unusedVariables false

theorem row_news {w : World} {ad : Addr} {len cap : Nat} {ys : List Nat} (hr : Row w (some ad) len cap ys) : ∀ j u, (vals ys)[j]? = some u → w.cell? (ad.add j) = some u := by
 intro j u hj
 have hjl : j < ys.length := by
  have := (List.getElem?_eq_some_iff.1 hj).1
  rwa [length_vals] at this
 obtain ⟨a', ha', hs'⟩ := hr.1.source (by have := hr.1.length; omega)
 obtain rfl := Option.some.inj ha'
 exact hs' j u hj
theorem run_keep_any (w : World) (base n : Nat) (v : Value) (xs ys : List Nat) (ty : TypeId) (hown : w.ownsRow base 5 1 v n (vals xs)) (ad : Addr) (len cap' : Nat) (hr : Row w (some ad) len cap' ys) (hlen : 0 < len) (hn : n + len ≤ 140737488355328) (hbase : base ≤ w.heap.size) :
 ∃ g' cp w', (Builtin.append_ #[38, 38] ty #[v, .slice (some ad) len cap']).run Try.prog w = .ok (.slice (some ⟨g', 0, none⟩) (n + len) cp) w' ∧ w'.ownsRow base 5 1 (.slice (some ⟨g', 0, none⟩) (n + len) cp) (n + len) (vals (xs ++ ys)) ∧
   w'.ownsRow base 5 1 v n (vals xs) ∧ w.grownBy w' v.ownBlock := by
 obtain ⟨i0, hi, hz0, hz1, hz2⟩ := info_parts info5
 have hcount : (vals ys).length = len * 1 := by rw [length_vals, hr.1.length]; simp
 rcases hown.2 with ⟨rfl, rfl⟩ | ⟨g, cap, cur, rfl, _⟩
 · obtain ⟨v', w', hrun, h2, h3, h4⟩ := run_append_own (P := Try.prog) w base 38 ty 5 i0 (.int .u8 0) 1 1 Try.underlying38 hi hz0 hz1 hz2 rfl (by decide) (.slice none 0 0) 0 (vals xs) hown ad len cap' (vals ys) hcount (row_news hr) (vals_one ys) (by unfold maxLen; omega) (by omega) hbase
   rw [← vals_append] at h2
   rcases h2.2 with ⟨h', h0⟩ | ⟨g', cp, cur, rfl, _⟩
   · omega
   · exact ⟨g', cp, w', hrun, h2, ⟨hown.1, .inl ⟨rfl, rfl⟩⟩, h3⟩
 · obtain ⟨v', w', hrun, h2, h3, h4, h5⟩ := run_append_keep (P := Try.prog) w base 38 ty 5 i0 (.int .u8 0) 1 1 Try.underlying38 hi hz0 hz1 hz2 rfl (by decide) g cap n (vals xs) hown ad len cap' (vals ys) hcount (row_news hr) (vals_one ys) (by unfold maxLen; omega) (by omega) hbase
   rw [← vals_append] at h2
   rcases h2.2 with ⟨h', _⟩ | ⟨g', cp, cur, rfl, _⟩
   · exact absurd h' h4
   · exact ⟨g', cp, w', hrun, h2, h5, h3⟩
/-- The operation, behind a guard that says yes or with none, in a region that draws its order. -/
theorem held_append {w : World} {ops : Array Oper} {o : Oper} {a : Act} {K : Act → World → Prop} {Q : Exit → Act → World → Prop} {Z : Prop} [Decidable (Region.wanted o (yielded ops a.tmps) = true)] (hw : Region.wanted o (yielded ops a.tmps) = true) (s x : Operand)
 (ho : o.op = .call { callee := .builtin .append, args := #[s, x], argTypes := #[38, 38] })
 (base n : Nat) (xs ys : List Nat) (v : Value) (hs : a.eval s = v) (hown : w.ownsRow base 5 1 v n (vals xs)) (hbase : base ≤ w.heap.size)
 (ad : Addr) (len cap' : Nat) (hx : a.eval x = .slice (some ad) len cap') (hr : Row w (some ad) len cap' ys) (hlen : 0 < len) (hn : n + len ≤ 140737488355328)
 (w0 : World) (hb0 : Below base w0 w)
 (h : ∀ g' cp w', w'.ownsRow base 5 1 (.slice (some ⟨g', 0, none⟩) (n + len) cp) (n + len) (vals (xs ++ ys)) → w'.ownsRow base 5 1 v n (vals xs) → Below base w0 w' → K (a.put o.dst (.slice (some ⟨g', 0, none⟩) (n + len) cp)) w') :
 if Region.wanted o (yielded ops a.tmps) = true then Oper.wp Try.prog o a w K Q else Z := by
 rw [if_pos hw]
 obtain ⟨g', cp, w', hrun, h2, h3, h4⟩ := run_keep_any w base n v xs ys o.type hown ad len cap' hr hlen hn hbase
 have hb : Below base w0 w' := hb0.grown h4 hbase (fun k hk => (hown.lt k hk).1)
 unfold Oper.wp execOp
 simp only [ho, resolve, invoke, builtin, Sem.run_bind, Sem.run_pure, Result.andThen_ok, List.map_toArray, List.map_cons, List.map_nil, hs, hx, hrun]
 exact h g' cp w' h2 h3 hb
end Go.Proofs.Ytbejincejbnbaaa
namespace Go.Proofs.Ytbejincejbnbaaa
open Go.RowKit
open Go.VarMath hiding AllB
set_option linter.unusedVariables false

theorem encN_all {n : Int} (h0 : -9223372036854775808 ≤ n) (h1 : n ≤ 9223372036854775807) : AllB (encN n) := enc_all (zig_lt h0 h1)
theorem encN_len {n : Int} (h0 : -9223372036854775808 ≤ n) (h1 : n ≤ 9223372036854775807) : 1 ≤ (encN n).length ∧ (encN n).length ≤ 10 := enc_len (zig_lt h0 h1)
def In64 (n : Int) : Prop := -9223372036854775808 ≤ n ∧ n ≤ 9223372036854775807
/-- A slice of int64 whose first len numbers are zs. -/
structure Nums (w : World) (ad : Option Addr) (len : Nat) (zs : List Int) : Prop where
 length : zs.length = len
 all : ∀ n ∈ zs, In64 n
 cells : len = 0 ∨ ∃ b off, ad = some ⟨b, off, none⟩ ∧ ∀ i, i < len → w.cell? ⟨b, off + i, none⟩ = some (.int .i64 (zs.getD i 0))
theorem Nums.keep {w w' : World} {ad : Option Addr} {len : Nat} {zs : List Int} (h : Nums w ad len zs) {B : Nat} (hb : Below B w w') (hB : w.heap.size ≤ B) : Nums w' ad len zs := by
 refine ⟨h.length, h.all, ?_⟩
 rcases h.cells with h0 | ⟨b, off, e, hc⟩
 · exact .inl h0
 · refine .inr ⟨b, off, e, fun i hi => ?_⟩
   have := hc i hi
   rw [hb.cell (p := ⟨b, off + i, none⟩) (by have := World.block_lt_of_cell? w _ this; exact Nat.lt_of_lt_of_le this hB)]
   exact this
theorem IsRow.nums {w : World} {a : Option Addr} {len cap : Nat} {zs : List Int} (h : IsRow .i64 w a len cap zs) : Nums w a len (zs.take len) ∧ len ≤ cap := by
 rcases h with ⟨rfl, rfl, rfl, rfl⟩ | ⟨x, rfl, hl, hm, hz, hc, hw⟩
 · exact ⟨⟨rfl, (fun x hx => by cases hx), .inl rfl⟩, Nat.le_refl _⟩
 · refine ⟨⟨by rw [List.length_take]; omega, ?_, ?_⟩, hl⟩
   · intro n hn
     have := bounds_i64 (hw n (List.mem_of_mem_take hn))
     exact ⟨by omega, by omega⟩
   · by_cases h0 : len = 0
     · exact .inl h0
     · obtain ⟨b, off, spot⟩ := x
       have h1 := hc 0 (by omega)
       have hs : spot = none := by simpa [Addr.add] using World.cell?_spot h1
       subst hs
       refine .inr ⟨b, off, rfl, fun i hi => ?_⟩
       have h2 := hc i (by omega)
       rw [add_at] at h2
       rw [h2]
       have e : (zs.take len).getD i 0 = zs.getD i 0 := by rw [List.getD_eq_getElem?_getD, List.getElem?_take, if_pos hi, ← List.getD_eq_getElem?_getD]
       rw [e]
theorem byt_upto {w : World} {ad : Option Addr} {len cap : Nat} {bs : List Nat} (h : Byt w ad len cap bs) (l : Nat) (hl : l ≤ len) : Byt w ad l cap (bs.take l) := by
 refine ⟨by rw [List.length_take, h.length]; omega, Nat.le_trans hl h.fits, take_all h.all l, ?_⟩
 rcases h.cells with h0 | ⟨b, off, e, hc⟩
 · exact .inl (by omega)
 · refine .inr ⟨b, off, e, fun i hi => ?_⟩
   rw [hc i (by omega)]
   have : (bs.take l).getD i 0 = bs.getD i 0 := by rw [List.getD_eq_getElem?_getD, List.getElem?_take, if_pos hi, ← List.getD_eq_getElem?_getD]
   rw [this]
theorem byt_from {w : World} {b off len cap : Nat} {bs : List Nat} (h : Byt w (some ⟨b, off, none⟩) len cap bs) (l : Nat) (hl : l ≤ len) : Byt w (some ⟨b, if cap = l then off else off + l, none⟩) (len - l) (cap - l) (bs.drop l) := by
 refine ⟨by rw [List.length_drop, h.length], by have := h.fits; omega, fun x hx => h.all x (List.mem_of_mem_drop hx), ?_⟩
 by_cases hm : len - l = 0
 · exact .inl hm
 · rcases h.cells with h0 | ⟨b', off', e, hc⟩
   · omega
   · cases e
     have hf := h.fits
     refine .inr ⟨b, off + l, by rw [if_neg (by omega)], fun i hi => ?_⟩
     rw [Nat.add_assoc, hc (l + i) (by omega)]
     congr 3
     rw [List.getD_eq_getElem?_getD, List.getD_eq_getElem?_getD, List.getElem?_drop]
end Go.Proofs.Ytbejincejbnbaaa
namespace Go.Proofs.Ytbejincejbnbaaa
open Go.RowKit
set_option linter.unusedVariables false

section
variable {w w' w1 w2 : World} {kt k : Nat}
theorem grow_refl (w : World) (r : Option Nat) : w.grownBy w r := ⟨rfl, rfl, rfl, Nat.le_refl _, fun _ _ _ => rfl⟩
theorem grow_trans {r : Option Nat} (h : w.grownBy w1 r) (h2 : w1.grownBy w2 r) : w.grownBy w2 r :=
 ⟨h2.os.trans h.os, h2.tape.trans h.tape, h2.output.trans h.output, Nat.le_trans h.size h2.size, fun k hk hn => (h2.block k (Nat.lt_of_lt_of_le hk h.size) hn).trans (h.block k hk hn)⟩
theorem grow_drewN {r : Option Nat} (h : w.grownBy w1 r) (n : Nat) : w.grownBy (w1.drewN n) r := grow_trans h ⟨rfl, rfl, rfl, Nat.le_refl _, fun _ _ _ => rfl⟩
theorem grow_alloc {r : Option Nat} (h : w.grownBy w1 r) (o : Obj) : w.grownBy (w1.alloc o) r := grow_trans h (World.grownBy_alloc w1 o r)
theorem grow_set (h : w.grownBy w1 (some kt)) (j : Nat) (u : Value) : w.grownBy (w1.setCell ⟨kt, j, none⟩ u) (some kt) :=
 grow_trans h ⟨rfl, rfl, rfl, by simp, fun k hk hn => by
  show (w1.heap.modify kt _)[k]? = _
  rw [Array.getElem?_modify, if_neg (fun e => hn (by rw [e]))]⟩
theorem grow_below {r : Option Nat} (h : w.grownBy w1 r) (hb : Below w1.heap.size w1 w2) : w.grownBy w2 r :=
 grow_trans h ⟨hb.os, hb.tape, hb.output, hb.size, fun k hk _ => hb.block k hk⟩
theorem grow_own {r : Option Nat} (h : w.grownBy w1 (some kt)) (h2 : w1.grownBy w2 r) (hr : ∀ k, r = some k → w.heap.size ≤ k) : w.grownBy w2 (some kt) :=
 ⟨h2.os.trans h.os, h2.tape.trans h.tape, h2.output.trans h.output, Nat.le_trans h.size h2.size, fun k hk hn => (h2.block k (Nat.lt_of_lt_of_le hk h.size) (fun e => by have := hr k e.symm; omega)).trans (h.block k hk hn)⟩
theorem grow_new {w w1 : World} {kt k j : Nat} (h : w.grownBy w1 (some kt)) (hk : w.heap.size ≤ k) (u : Value) : w.grownBy (w1.setCell ⟨k, j, none⟩ u) (some kt) :=
 ⟨h.os, h.tape, h.output, by simpa using h.size, fun i hi hn => by
  show (w1.heap.modify k _)[i]? = _
  rw [Array.getElem?_modify, if_neg (by omega)]
  exact h.block i hi hn⟩
theorem box_set {cs : Array Value} {t : TypeId} (h : w.heap[k]? = some (.cells cs t (0, 0))) (j : Nat) (u : Value) : (w.setCell ⟨k, j, none⟩ u).heap[k]? = some (.cells (cs.setIfInBounds j u) t (0, 0)) := by
 have hlt := lt_of_block h
 have h' : w.heap[k] = .cells cs t (0, 0) := by simpa [Array.getElem?_eq_getElem hlt] using h
 show (w.heap.modify k _)[k]? = _
 rw [Array.getElem?_eq_getElem (by simpa using hlt), Array.getElem_modify_self, h']
 rfl
theorem box_off {o : Obj} (h : w.heap[k]? = some o) {j i : Nat} (hj : j ≠ k) (u : Value) : (w.setCell ⟨j, i, none⟩ u).heap[k]? = some o := by
 rw [← h]
 show (w.heap.modify j _)[k]? = _
 rw [Array.getElem?_modify, if_neg hj]
end
theorem size_set (w : World) (a : Addr) (u : Value) : (w.setCell a u).heap.size = w.heap.size := by simp
theorem below_grown {W W' : World} {k B : Nat} (h : W.grownBy W' (some k)) (hk : B ≤ k) (hB : B ≤ W.heap.size) : Below B W W' :=
 ⟨h.os, h.tape, h.output, h.size, fun j hj => h.block j (Nat.lt_of_lt_of_le hj hB) (fun e => by cases e; omega)⟩
theorem results_cell_one {fn : Func} {p : Tmp} {ty : TypeId} (h : fn.results = #[.cell p ty]) (tmps : Array Value) (P : Program) (w : World) :
 (results fn tmps).run P w = ((asAddr (tmps.getD p undef)).run P w).andThen fun a w₁ => (loadVar ty a).run P w₁ := by
 simp only [results, h]
 simp [Sem.run_bind, Result.andThen]
end Go.Proofs.Ytbejincejbnbaaa
namespace Go.Proofs.Ytbejincejbnbaaa
open Go.RowKit
open Go.BatMath hiding AllB getD_lt take_all

set_option linter.unusedVariables false

section
variable {w : World} {k : Nat} {b0 b1 b2 b3 : Int} {b4 : Bool} {b5 : Int} {v : Value}
theorem BoxAt.s0 (h : BoxAt w k b0 b1 b2 b3 b4 b5 v) (n : Int) : BoxAt (w.setCell ⟨k, 0, none⟩ (.int .i64 n)) k n b1 b2 b3 b4 b5 v := box_set h 0 _
theorem BoxAt.s1 (h : BoxAt w k b0 b1 b2 b3 b4 b5 v) (n : Int) : BoxAt (w.setCell ⟨k, 1, none⟩ (.int .i64 n)) k b0 n b2 b3 b4 b5 v := box_set h 1 _
theorem BoxAt.s2 (h : BoxAt w k b0 b1 b2 b3 b4 b5 v) (n : Int) : BoxAt (w.setCell ⟨k, 2, none⟩ (.int .i64 n)) k b0 b1 n b3 b4 b5 v := box_set h 2 _
theorem BoxAt.s3 (h : BoxAt w k b0 b1 b2 b3 b4 b5 v) (n : Int) : BoxAt (w.setCell ⟨k, 3, none⟩ (.int .i64 n)) k b0 b1 b2 n b4 b5 v := box_set h 3 _
theorem BoxAt.s4 (h : BoxAt w k b0 b1 b2 b3 b4 b5 v) (n : Bool) : BoxAt (w.setCell ⟨k, 4, none⟩ (.bool n)) k b0 b1 b2 b3 n b5 v := box_set h 4 _
theorem BoxAt.s5 (h : BoxAt w k b0 b1 b2 b3 b4 b5 v) (n : Int) : BoxAt (w.setCell ⟨k, 5, none⟩ (.int .i64 n)) k b0 b1 b2 b3 b4 n v := box_set h 5 _
theorem BoxAt.s6 (h : BoxAt w k b0 b1 b2 b3 b4 b5 v) (u : Value) : BoxAt (w.setCell ⟨k, 6, none⟩ u) k b0 b1 b2 b3 b4 b5 u := box_set h 6 _
theorem BoxAt.off (h : BoxAt w k b0 b1 b2 b3 b4 b5 v) {j i : Nat} (hj : j ≠ k) (u : Value) : BoxAt (w.setCell ⟨j, i, none⟩ u) k b0 b1 b2 b3 b4 b5 v := box_off h hj u
theorem BoxAt.drew (h : BoxAt w k b0 b1 b2 b3 b4 b5 v) : BoxAt w.drew k b0 b1 b2 b3 b4 b5 v := h
end
/-- 'x[k:]', k a number that is written in the text. -/
theorem from_lit {w : World} {b off len cap : Nat} {bs : List Nat} (h : Byt w (some ⟨b, off, none⟩) len cap bs) (k : Nat) (z : Int) (hz : z = (k : Int)) (hk : k ≤ len) :
 ∃ o c, (∀ W, (Instr.slice 38 (.slice (some ⟨b, off, none⟩) len cap) (some (.int .i64 z)) none none).run Try.prog W = .ok (.slice (some ⟨b, o, none⟩) (len - k) c) W) ∧ Byt w (some ⟨b, o, none⟩) (len - k) c (bs.drop k) := by
 subst hz
 exact ⟨_, _, fun W => run_from b off len cap k hk W, byt_from h k hk⟩
theorem Byt.get {w : World} {ad : Option Addr} {len cap : Nat} {bs : List Nat} (h : Byt w ad len cap bs) (hp : 0 < len) : ∃ b off, ad = some ⟨b, off, none⟩ ∧ ∀ i, i < len → w.cell? ⟨b, off + i, none⟩ = some (.int .u8 (bs.getD i 0 : Nat)) := by
 rcases h.cells with h0 | h1
 · omega
 · exact h1
end Go.Proofs.Ytbejincejbnbaaa
namespace Go.Proofs.Ytbejincejbnbaaa
open Go.RowKit
open Go.BatMath hiding AllB getD_lt take_all
set_option linter.unusedVariables false

def recVals (l : List Rc) : List Value := l.flatMap fun r => [.string r.key, .string r.val]
theorem recVals_len : ∀ l : List Rc, (recVals l).length = l.length * 2
 | [] => rfl
 | r :: l => by rw [recVals, List.flatMap_cons, List.length_append]; have := recVals_len l; unfold recVals at this; rw [this]; simp; omega
theorem recVals_app (a b : List Rc) : recVals (a ++ b) = recVals a ++ recVals b := by simp [recVals]
theorem recVals_at : ∀ (l : List Rc) (i : Nat) (r : Rc), l[i]? = some r → (recVals l)[i * 2]? = some (.string r.key) ∧ (recVals l)[i * 2 + 1]? = some (.string r.val)
 | [], i, r, h => by cases h
 | x :: l, 0, r, h => by
   cases h
   exact ⟨rfl, rfl⟩
 | x :: l, i + 1, r, h => by
   have ih := recVals_at l i r h
   have e : recVals (x :: l) = .string x.key :: .string x.val :: recVals l := rfl
   rw [e, show (i + 1) * 2 = i * 2 + 1 + 1 by omega]
   exact ih
theorem recVals_one (l : List Rc) : ∀ u ∈ recVals l, u.oneCell' = true := by
 intro u hu
 obtain ⟨r, _, h⟩ := List.mem_flatMap.1 hu
 rcases List.mem_cons.1 h with rfl | h
 · rfl
 · rcases List.mem_cons.1 h with rfl | h
   · rfl
   · cases h
def OwnRecs (w : World) (base : Nat) (v : Value) (l : List Rc) : Prop := w.ownsRow base 132 2 v l.length (recVals l)
theorem ownRecs_nil (w : World) (base : Nat) : OwnRecs w base (.slice none 0 0) [] := World.ownsRow_nil w base 132 2
theorem OwnRecs.low {w : World} {base base' : Nat} {v : Value} {l : List Rc} (h : OwnRecs w base v l) (hb : base' ≤ base) : OwnRecs w base' v l := by
 refine ⟨h.1, ?_⟩
 rcases h.2 with hn | ⟨g, cap, cur, rfl, hbg, hh, r⟩
 · exact .inl hn
 · exact .inr ⟨g, cap, cur, rfl, Nat.le_trans hb hbg, hh, r⟩
theorem OwnRecs.on {w w' : World} {base : Nat} {v : Value} {l : List Rc} (h : OwnRecs w base v l) (hb : Below w.heap.size w w') : OwnRecs w' base v l := by
 refine ⟨h.1, ?_⟩
 rcases h.2 with hn | ⟨g, cap, cur, rfl, hbg, hh, r⟩
 · exact .inl hn
 · exact .inr ⟨g, cap, cur, rfl, hbg, (hb.block g (lt_of_block hh)).trans hh, r⟩
/-- A cell of a block below the row is written. -/
theorem OwnRecs.set {w : World} {base k j : Nat} {u v : Value} {l : List Rc} (h : OwnRecs w base v l) (hk : k < base) : OwnRecs (w.setCell ⟨k, j, none⟩ u) base v l := by
 refine ⟨h.1, ?_⟩
 rcases h.2 with hn | ⟨g, cap, cur, rfl, hbg, hh, r⟩
 · exact .inl hn
 · exact .inr ⟨g, cap, cur, rfl, hbg, box_off hh (by omega) u, r⟩
theorem OwnRecs.at {w : World} {base : Nat} {v : Value} {l : List Rc} (h : OwnRecs w base v l) : ∃ ad cap, v = .slice ad l.length cap ∧ RecsAt w ad l.length cap l ∧ (∀ a, ad = some a → base ≤ a.block) := by
 rcases h.2 with ⟨hn, h0⟩ | ⟨g, cap, cur, rfl, hbg, hh, hc, _, _, ht⟩
 · have hl := List.eq_nil_of_length_eq_zero h0
   subst hl
   exact ⟨none, 0, hn, recsAt_nil w, fun a h => by cases h⟩
 · refine ⟨_, _, rfl, ⟨rfl, hc, (fun h => by cases h), .inr ⟨g, 0, rfl, lt_of_block hh, fun i r hi => ?_⟩⟩, fun a h => by cases h; exact hbg⟩
   have hil : i < l.length := (List.getElem?_eq_some_iff.1 hi).1
   obtain ⟨h1, h2⟩ := recVals_at l i r hi
   rw [← ht, List.getElem?_take, if_pos (by omega)] at h1 h2
   rw [Nat.zero_add]
   refine ⟨?_, ?_⟩
   · rw [cell_of_row w g _ _ _ _ hh]; simpa using h1
   · rw [cell_of_row w g _ _ _ _ hh]; simpa using h2
theorem infoRec : (Try.prog.info? 132).map (fun i => (i.zero, i.size, i.bytes)) = some (some (.agg #[.string ⟨#[]⟩, .string ⟨#[]⟩]), 2, 32) := by kernel_rfl
/-- What a block of records reads as, record by record. -/
def RecNews (w : World) (a : Addr) (l : List Rc) : Prop := ∀ j u, (recVals l)[j]? = some u → w.cell? (a.add j) = some u
theorem recNews_lit (w : World) (k s : ByteArray) (g : Nat) (hg : g = w.heap.size) : RecNews (w.alloc (.cells #[.string k, .string s] 132)) ⟨g, 0, none⟩ [⟨k, s⟩] := by
 subst hg
 intro j u hj
 rw [add_at, Nat.zero_add]
 have hh : (w.alloc (.cells #[.string k, .string s] 132)).heap[w.heap.size]? = some (.cells #[.string k, .string s] 132 (0, 0)) := heap_alloc_new w _
 rw [cell_of_row _ _ _ _ _ _ hh]
 simpa [recVals] using hj
theorem run_recs_append (w : World) (base : Nat) (v : Value) (l m : List Rc) (ty : Nat) (hown : OwnRecs w base v l) (ad : Addr) (cap : Nat) (hr : RecNews w ad m) (hn : l.length + m.length ≤ 1000000) (hbase : base ≤ w.heap.size) :
 ∃ v' w', (Builtin.append_ #[56, 56] ty #[v, .slice (some ad) m.length cap]).run Try.prog w = .ok v' w' ∧ OwnRecs w' base v' (l ++ m) ∧ w.grownBy w' v.ownBlock := by
 obtain ⟨i0, hi, hz0, hz1, hz2⟩ := info_parts infoRec
 obtain ⟨v', w', hrun, h2, h3, _⟩ := run_append_own (P := Try.prog) w base 56 ty 132 i0 (.agg #[.string ⟨#[]⟩, .string ⟨#[]⟩]) 2 32 Try.underlying56 hi hz0 hz1 hz2 rfl (by decide) v l.length (recVals l) hown ad m.length cap (recVals m) (recVals_len m) hr (recVals_one m) (by unfold maxLen; omega) (by omega) hbase
 refine ⟨v', w', hrun, ?_, h3⟩
 unfold OwnRecs
 rw [recVals_app, List.length_append]
 exact h2
theorem list_recs {w : World} {ops : Array Oper} {rest : List Oper} {o : Oper} {a : Act} {Q : Exit → Act → World → Prop} (hw : Region.wanted o (yielded ops a.tmps) = true) (s x : Operand)
 (ho : o.op = .call { callee := .builtin .append, args := #[s, x], argTypes := #[56, 56] })
 (base : Nat) (l m : List Rc) (v : Value) (hs : a.eval s = v) (hown : OwnRecs w base v l) (hbase : base ≤ w.heap.size)
 (ad : Addr) (n cap : Nat) (hnm : m.length = n) (hx : a.eval x = .slice (some ad) n cap) (hr : RecNews w ad m) (hn : l.length + n ≤ 1000000)
 (h : ∀ v' w', OwnRecs w' base v' (l ++ m) → w.grownBy w' v.ownBlock → wpList Try.prog ops Q rest (a.put o.dst v') w') :
 wpList Try.prog ops Q (o :: rest) a w := by
 subst hnm
 refine BigFrame.wpList_want hw fun K hK => ?_
 obtain ⟨v', w', hrun, h2, h3⟩ := run_recs_append w base v l m o.type hown ad cap hr hn hbase
 unfold Oper.wp execOp
 simp only [ho, resolve, invoke, builtin, Sem.run_bind, Sem.run_pure, Result.andThen_ok, List.map_toArray, List.map_cons, List.map_nil, hs, hx, hrun]
 exact hK _ _ (h v' w' h2 h3)
theorem BoxAt.grown {w w' : World} {k base : Nat} {b0 b1 b2 b3 : Int} {b4 : Bool} {b5 : Int} {u v : Value} {l : List Rc} (h : BoxAt w k b0 b1 b2 b3 b4 b5 u) (ho : OwnRecs w base v l) (hk : k < base) (hg : w.grownBy w' v.ownBlock) : BoxAt w' k b0 b1 b2 b3 b4 b5 u := by
 unfold BoxAt at *
 rw [hg.block k (lt_of_block h) (fun e => by have := (ho.lt k e.symm).1; omega)]
 exact h
theorem Below.recs {w0 w w' : World} {base B : Nat} {v : Value} {l : List Rc} (h : Below B w0 w) (ho : OwnRecs w base v l) (hB : B ≤ base) (hs : B ≤ w.heap.size) (hg : w.grownBy w' v.ownBlock) : Below B w0 w' :=
 h.grown hg hs (fun k hk => by have := (ho.lt k hk).1; omega)
/-- A cell of another block than the records' is written. -/
theorem RecsAt.put {w : World} {base j len cap : Nat} {ad : Option Addr} {l : List Rc} {u : Value} (h : RecsAt w ad len cap l) (hb : ∀ a, ad = some a → base < a.block) : RecsAt (w.setCell ⟨base, j, none⟩ u) ad len cap l := by
 refine ⟨h.length, h.fits, h.room, ?_⟩
 rcases h.cells with h0 | ⟨b, off, e, hlt, hc⟩
 · exact .inl h0
 · have hne : b ≠ base := by have := hb _ e; simp only at this; omega
   have hx : ∀ i, (w.setCell ⟨base, j, none⟩ u).cell? ⟨b, i, none⟩ = w.cell? ⟨b, i, none⟩ := fun i => World.cell?_of_block (a := ⟨b, i, none⟩) (by
    show (w.heap.modify base _)[b]? = _
    rw [Array.getElem?_modify, if_neg (Ne.symm hne)])
   refine .inr ⟨b, off, e, by simpa using hlt, fun i r hi => ?_⟩
   rw [hx, hx]
   exact hc i r hi
end Go.Proofs.Ytbejincejbnbaaa
namespace Go.Proofs.Ytbejincejbnbaaa
open Go.RowKit
open Go.SeqMath
open Go.BatMath hiding AllB getD_lt take_all
set_option linter.unusedVariables false

theorem RowAt.set {α : Type} {K : Kind α} {w : World} {k j len cap : Nat} {ad : Option Addr} {l : List α} {u : Value} (h : RowAt K w ad len cap l) (hb : len = 0 ∨ ∀ a, ad = some a → a.block ≠ k) : RowAt K (w.setCell ⟨k, j, none⟩ u) ad len cap l := by
 refine ⟨h.length, h.fits, h.room, ?_⟩
 rcases h.cells with h0 | ⟨b, off, e, hlt, hc⟩
 · exact .inl h0
 · rcases hb with h0 | hb
   · exact .inl h0
   have hne : b ≠ k := hb _ e
   refine .inr ⟨b, off, e, by simpa using hlt, fun i x hi m v hm => ?_⟩
   rw [World.cell?_of_block (a := ⟨b, off + (i * K.size + m), none⟩) (w := w) (by
    show (w.heap.modify k _)[b]? = _
    rw [Array.getElem?_modify, if_neg (Ne.symm hne)])]
   exact hc i x hi m v hm
def recK : Kind Rc := ⟨fun r => [.string r.key, .string r.val], 2, 132, 56⟩
theorem recK_ok : recK.Ok 32 where
 und := Try.underlying56
 info := by
  obtain ⟨i, hi, hz, hs, hb⟩ := info_parts infoRec
  exact ⟨i, _, hi, hz, hs, hb, rfl⟩
 len := fun _ => rfl
 pos := by decide
 one := fun r u hu => by
  simp only [recK, List.mem_cons, List.not_mem_nil, or_false] at hu
  rcases hu with rfl | rfl <;> rfl
 few := by decide
theorem recsAt_row {w : World} {ad : Option Addr} {len cap : Nat} {l : List Rc} : RecsAt w ad len cap l ↔ RowAt recK w ad len cap l := by
 constructor
 · intro h
   refine ⟨h.length, h.fits, h.room, ?_⟩
   rcases h.cells with h0 | ⟨b, off, e, hlt, hc⟩
   · exact .inl h0
   · refine .inr ⟨b, off, e, hlt, fun i x hi j u hj => ?_⟩
     obtain ⟨h1, h2⟩ := hc i x hi
     rcases j with _ | _ | j
     · cases hj; exact h1
     · cases hj; exact h2
     · simp [recK] at hj
 · intro h
   refine ⟨h.length, h.fits, h.room, ?_⟩
   rcases h.cells with h0 | ⟨b, off, e, hlt, hc⟩
   · exact .inl h0
   · exact .inr ⟨b, off, e, hlt, fun i x hi => ⟨hc i x hi 0 _ rfl, hc i x hi 1 _ rfl⟩⟩
end Go.Proofs.Ytbejincejbnbaaa
namespace Go.Proofs.Ytbejincejbnbaaa
open Go.RowKit
open Go.SeqMath
open Go.BatMath
set_option linter.unusedVariables false

theorem bel_drewN {B : Nat} {a w : World} (h : Below B a w) (n : Nat) : Below B a (w.drewN n) := h.trans ⟨rfl, rfl, rfl, Nat.le_refl _, fun _ _ => rfl⟩
theorem RecsAt.at {w W : World} {ad : Option Addr} {len cap : Nat} {l : List Rc} (h : RecsAt w ad len cap l) (hb : Below w.heap.size w W) (j : Nat) (hj : j < len) :
 ∃ bk off r, ad = some ⟨bk, off, none⟩ ∧ bk < w.heap.size ∧ l[j]? = some r ∧ W.cell? ⟨bk, off + j * 2, none⟩ = some (.string r.key) ∧ W.cell? ⟨bk, off + j * 2 + 1, none⟩ = some (.string r.val) := by
 have hl := h.length
 have hjl : j < l.length := by omega
 rcases h.cells with h0 | ⟨bk, off, e, hlt, hc⟩
 · omega
 · have hi : l[j]? = some (l[j]'hjl) := List.getElem?_eq_getElem hjl
   obtain ⟨h1, h2⟩ := hc j _ hi
   exact ⟨bk, off, _, e, hlt, hi, (hb.cell (p := ⟨bk, _, none⟩) hlt).trans h1, (hb.cell (p := ⟨bk, _, none⟩) hlt).trans h2⟩
end Go.Proofs.Ytbejincejbnbaaa
namespace Go.Proofs.Ytbejincejbnbaaa
open Go.RowKit
open Go.SeqMath
open Go.BatMath hiding AllB getD_lt take_all
open Go.VarMath (longB length_longB textB getB_bounds getB)
set_option linter.unusedVariables false

/-- The two boxes of the walk: the batch that is being read, and the result that is none yet. -/
structure Two (w : World) (p e s : Int) (t : Bool) (m : Int) (v : Value) (W : World) : Prop where
 bx : BoxAt W (w.heap.size + 1) 0 p e s t m v
 rs : BoxAt W w.heap.size 0 0 0 0 false 0 (.slice none 0 0)
 bel : Below w.heap.size w W
theorem Two.sz {w W : World} {p e s : Int} {t : Bool} {m : Int} {v : Value} (h : Two w p e s t m v W) : w.heap.size + 1 + 1 ≤ W.heap.size := h.bx.lt
theorem Two.drew {w W : World} {p e s : Int} {t : Bool} {m : Int} {v : Value} (h : Two w p e s t m v W) : Two w p e s t m v W.drew := ⟨h.bx, h.rs, h.bel.drew⟩
theorem Two.s1 {w W : World} {p e s : Int} {t : Bool} {m : Int} {v : Value} (h : Two w p e s t m v W) (n : Int) : Two w n e s t m v (W.setCell ⟨w.heap.size + 1, 1, none⟩ (.int .i64 n)) := ⟨h.bx.s1 n, h.rs.off (by omega) _, h.bel.setCell (Nat.le_succ _) _⟩
theorem Two.s2 {w W : World} {p e s : Int} {t : Bool} {m : Int} {v : Value} (h : Two w p e s t m v W) (n : Int) : Two w p n s t m v (W.setCell ⟨w.heap.size + 1, 2, none⟩ (.int .i64 n)) := ⟨h.bx.s2 n, h.rs.off (by omega) _, h.bel.setCell (Nat.le_succ _) _⟩
theorem Two.s3 {w W : World} {p e s : Int} {t : Bool} {m : Int} {v : Value} (h : Two w p e s t m v W) (n : Int) : Two w p e n t m v (W.setCell ⟨w.heap.size + 1, 3, none⟩ (.int .i64 n)) := ⟨h.bx.s3 n, h.rs.off (by omega) _, h.bel.setCell (Nat.le_succ _) _⟩
theorem Two.s6 {w W : World} {p e s : Int} {t : Bool} {m : Int} {v : Value} (h : Two w p e s t m v W) (n : Value) : Two w p e s t m n (W.setCell ⟨w.heap.size + 1, 6, none⟩ n) := ⟨h.bx.s6 n, h.rs.off (by omega) _, h.bel.setCell (Nat.le_succ _) _⟩
theorem Two.on {w W W' : World} {p e s : Int} {t : Bool} {m : Int} {v : Value} (h : Two w p e s t m v W) (hb : Below W.heap.size W W') : Two w p e s t m v W' := ⟨h.bx.on hb, h.rs.on hb, h.bel.trans (hb.mono h.bel.size)⟩
theorem Two.grown {w W W' : World} {p e s : Int} {t : Bool} {m : Int} {u v : Value} {l : List Rc} (h : Two w p e s t m u W) (ho : OwnRecs W (w.heap.size + 1 + 1) v l) (hg : W.grownBy W' v.ownBlock) : Two w p e s t m u W' :=
 ⟨h.bx.grown ho (by omega) hg, h.rs.grown ho (by omega) hg, Below.recs h.bel ho (by omega) h.bel.size hg⟩
/-- A cell of a block below the records' is written. -/
theorem RecsAt.set {w : World} {base j len cap : Nat} {ad : Option Addr} {l : List Rc} {u : Value} (h : RecsAt w ad len cap l) (hb : ∀ a, ad = some a → base + 1 + 1 ≤ a.block) : RecsAt (w.setCell ⟨base, j, none⟩ u) ad len cap l := by
 refine ⟨h.length, h.fits, h.room, ?_⟩
 rcases h.cells with h0 | ⟨b, off, e, hlt, hc⟩
 · exact .inl h0
 · have hne : b ≠ base := by have := hb _ e; simp only at this; omega
   have hx : ∀ i, (w.setCell ⟨base, j, none⟩ u).cell? ⟨b, i, none⟩ = w.cell? ⟨b, i, none⟩ := fun i => World.cell?_of_block (a := ⟨b, i, none⟩) (by
    show (w.heap.modify base _)[b]? = _
    rw [Array.getElem?_modify, if_neg (Ne.symm hne)])
   refine .inr ⟨b, off, e, by simpa using hlt, fun i r hi => ?_⟩
   rw [hx, hx]
   exact hc i r hi
end Go.Proofs.Ytbejincejbnbaaa
namespace Go.Proofs.Ytbejincejbnbaaa
open Go.RowKit
open Go.CrcMath hiding AllB
set_option linter.unusedVariables false

theorem xorc (c b : Nat) (hc : c < 4294967296) (hb : b < 256) : bits .xor .u32 (c : Int) (b : Int) = ((c ^^^ b : Nat) : Int) := u32_xor_nat c b hc (by omega)
theorem and1 (d : Nat) (h : d < 4294967296) : bits .and .u32 (d : Int) 1 = ((d % 2 : Nat) : Int) := by
 have := u32_and_nat d 1 h (by omega)
 rw [nat_mask1] at this
 exact this
theorem xorp (d : Nat) (h : d < 4294967296) : bits .xor .u32 ((d : Int) / 2) 2197175160 = ((d / 2 ^^^ poly : Nat) : Int) := by
 have := u32_xor_nat (d / 2) 2197175160 (by omega) (by omega)
 exact this
theorem bstep_odd (d : Nat) (h : d % 2 = 1) : bstep d = d / 2 ^^^ poly := if_pos h
theorem bstep_even (d : Nat) (h : ¬ d % 2 = 1) : bstep d = d / 2 := if_neg h
theorem u32_eq {a b : Int} (h : a = b) : Value.int .u32 a = Value.int .u32 b := by rw [h]
theorem ret_u32 {a b : Int} (h : a = b) : Ending.returned (.int .u32 a) = .returned (.int .u32 b) := by rw [h]


theorem cplc (c : Nat) (h : c < 4294967296) : bits .xor .u32 IntKind.u32.max (c : Int) = ((cpl c : Nat) : Int) := by
 have e : IntKind.u32.max = ((full : Nat) : Int) := by decide
 rw [e, u32_xor_nat full c full_lt h, cpl_eq]
theorem usig : IntKind.u32.signed = false := rfl
theorem xor00 : bits .xor .u32 IntKind.u32.max 4294967295 = 0 := by decide
theorem run_next (c : Nat) (bs : List Nat) (k : Nat) (h : k < bs.length) : run c (bs.take (k + 1)) = nxt (run c (bs.take k)) (bs.getD k 0) := by
 rw [List.take_succ_eq_append_getElem h, run_snoc, List.getD_eq_getElem?_getD, List.getElem?_eq_getElem h]; rfl
end Go.Proofs.Ytbejincejbnbaaa
namespace Go.Proofs.Ytbejincejbnbaaa
open Go.RowKit
open Go.CrcMath hiding AllB
set_option linter.unusedVariables false
set_option maxHeartbeats 400000 in
theorem next_any (c b : Nat) (w : World) (hc : c < 4294967296) (hb : b < 256) :
 Calls Try.prog 79 #[.int .u32 c, .int .u8 b] w fun e w' => e = .returned (.int .u32 (nxt c b : Nat)) ∧ w = w' := by
 have hx := xorc c b hc hb
 obtain ⟨x, hxe⟩ : ∃ x, x = c ^^^ b := ⟨_, rfl⟩
 have hxl : x < 4294967296 := by rw [hxe]; exact xor_lt hc (by omega)
 rw [← hxe] at hx
 have HX : Hid (x = c ^^^ b) := hxe
 clear hxe
 go_enter Try.func79, Try.ntmps79
 go_wp2
 go_loop [0, 10] (fun s i => ∃ k : Nat, k ≤ 8 ∧ i = .int .i64 k ∧ s = .int .u32 (bsteps k x : Nat)) (fun _ i => (8 - intOf i).toNat)
 case atStart => exact ⟨0, by omega, rfl, rfl⟩
 case round =>
  obtain ⟨k, hk, rfl, rfl⟩ := hrel
  have hl := bsteps_lt hxl k
  obtain ⟨d, hd⟩ : ∃ d, d = bsteps k x := ⟨_, rfl⟩
  rw [← hd] at hl ⊢
  have HD : Hid (d = bsteps k x) := hd
  clear hd hx
  have h1 := and1 d hl
  have h2 := xorp d hl
  by_cases hlt : k < 8
  · by_cases ho : d % 2 = 1
    · have hb1 : (((d % 2 : Nat) : Int) == 1) = true := by simp; omega
      have S : Hid (bsteps (k + 1) x = d / 2 ^^^ poly) := by show bstep (bsteps k x) = _; rw [← HD.out]; exact bstep_odd d ho
      clear ho
      go_wp2
      go_round
      case rel => exact ⟨k + 1, by omega, by go_num, by rw [S.out]⟩
      case measure => simp [intOf]; omega
    · have hb1 : (((d % 2 : Nat) : Int) == 1) = false := by simp; omega
      have S : Hid (bsteps (k + 1) x = d / 2) := by show bstep (bsteps k x) = _; rw [← HD.out]; exact bstep_even d ho
      clear ho
      go_wp2
      go_round
      case rel => exact ⟨k + 1, by omega, by go_num, by rw [S.out]; exact u32_eq (by omega)⟩
      case measure => simp [intOf]; omega
  · have E : Hid (d = nxt c b) := by
     have : k = 8 := by omega
     subst this
     show d = bsteps 8 (c ^^^ b)
     rw [HD.out, HX.out]
    go_wp2
    go_ret
    exact ⟨ret_u32 (by rw [E.out]), rfl⟩
set_option maxHeartbeats 400000 in
theorem of_any (w : World) (ad : Option Addr) (len cap : Nat) (bs : List Nat) (h : Byt w ad len cap bs) (hL : len ≤ 140737488355328) :
 Calls Try.prog 58 #[.slice ad len cap] w fun e w' => e = .returned (.int .u32 (ofB bs : Nat)) ∧ w = w' := by
 obtain ⟨hlen, hfit, hall, hcs⟩ := h
 rcases hcs with h0 | ⟨b, off, rfl, hcell⟩
 · subst h0
   obtain rfl : bs = [] := by simpa using hlen
   have E : Hid (ofB [] = 0) := by show _ = _; decide
   clear hlen hfit hall
   have hcp := xor00
   have hsg := usig
   go_enter Try.func58, Try.ntmps58
   go_wp2
   refine wp_loop_rounds 1 ?_
   rw [rounds_succ]
   go_wp2
   go_ret
   exact ⟨ret_u32 (by rw [E.out]; rfl), rfl⟩
 · have hmx : ∀ k, run full (bs.take k) < 4294967296 := fun k => run_lt _ _ full_lt (take_all hall k)
   have HM := Lib.hid hmx
   have HC := Lib.hid hcell
   have HA := Lib.hid hall
   have HL := Lib.hid hlen
   clear hmx hcell hall hlen
   go_enter Try.func58, Try.ntmps58
   go_wp2
   go_loop [3, 8] (fun s i => ∃ k : Nat, k ≤ len ∧ i = .int .i64 k ∧ s = .int .u32 (run full (bs.take k) : Nat)) (fun _ i => len - (intOf i).toNat)
   case atStart => exact ⟨0, by omega, rfl, rfl⟩
   case round =>
    obtain ⟨k, hk, rfl, rfl⟩ := hrel
    have hl := HM.out k
    obtain ⟨d, hd⟩ : ∃ d, d = run full (bs.take k) := ⟨_, rfl⟩
    rw [← hd] at hl ⊢
    have HD : Hid (d = run full (bs.take k)) := hd
    clear hd
    by_cases hlt : k < len
    · have hc := HC.out k hlt
      have hx8 := getD_all HA.out k
      obtain ⟨x, hx⟩ : ∃ x, x = bs.getD k 0 := ⟨_, rfl⟩
      rw [← hx] at hc hx8
      have S : Hid (run full (bs.take (k + 1)) = nxt d x) := by
       show _ = _
       rw [run_next _ _ _ (by rw [HL.out]; exact hlt), ← HD.out, ← hx]
      clear hx
      go_wp2_with (go_at_call 79; refine (next_any _ _ _ hl hx8).mono ?_; rintro e w' ⟨rfl, rfl⟩)
      go_round
      case rel => exact ⟨k + 1, by omega, by go_num, by rw [S.out]⟩
      case measure => simp [intOf]; omega
    · have hcp := cplc d hl
      have hsg := usig
      have E : Hid (cpl d = ofB bs) := by
       show _ = _
       rw [HD.out, List.take_of_length_le (by rw [HL.out]; omega)]; rfl
      go_wp2
      go_ret
      exact ⟨ret_u32 (by rw [E.out]), rfl⟩
end Go.Proofs.Ytbejincejbnbaaa
