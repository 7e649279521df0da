/- The contracts of the code's Put and Text. -/
import Derived.Test.YtlpmfhccfihnfaaVarRoomy
namespace Go.Proofs.Ytlpmfhccfihnfaa
open Go.RowKit
open Go.VarMath hiding AllB
set_option linter.unusedVariables false

theorem row_byte (W : World) (n : Nat) (hn : n < 256) : Row (W.alloc (.cells #[.int .u8 (n : Int)] 5)) (some ⟨W.heap.size, 0, none⟩) 1 1 [n] :=
  ⟨(own_new W [n]).byt (fun x hx => by simp at hx; omega) 1 (by simp), fun h => by cases h⟩
theorem low7 (v : Nat) (h : v < 18446744073709551616) : bits .and .u64 (v : Int) 127 = ((v % 128 : Nat) : Int) := by
  have := u64_and_nat v 127 h (by decide)
  rw [nat_mask7] at this
  exact this
theorem nat_or128 : ∀ x : Fin 256, x.val ||| 128 = x.val % 128 + 128 := by decide +kernel
theorem hi7 (x : Nat) (h : x < 256) : bits .or .u8 (x : Int) 128 = ((x % 128 + 128 : Nat) : Int) := by
  have := u8_or_nat x 128 h (by decide)
  rw [nat_or128 ⟨x, h⟩] at this
  exact this
/-- What stands before a round of Put's loop: of u's groups those of f more are still to come, the bytes ahead of them stand behind bs. -/
def PutAt (w : World) (bs : List Nat) (u : Nat) (v5 v6 : Value) (wr : World) : Prop :=
  ∃ (f v g cap n : Nat) (pre : List Nat), encU u = pre ++ gr f v ∧ pre.length + f = 9 ∧ v < 2 * 128 ^ f ∧ v < 18446744073709551616 ∧ AllB pre ∧ n = bs.length + pre.length ∧
    v6 = .int .u64 v ∧ v5 = .slice (some ⟨g, 0, none⟩) n cap ∧ wr.ownsRow w.heap.size 5 1 (.slice (some ⟨g, 0, none⟩) n cap) n (vals (bs ++ pre)) ∧ Below w.heap.size w wr
theorem putAt_step {w w' : World} {bs pre : List Nat} {u f v g cap n : Nat} (hu : encU u = pre ++ gr f v) (hf : pre.length + f = 9) (h2 : v < 2 * 128 ^ f) (h6 : v < 18446744073709551616) (ha : AllB pre) (hn : n = bs.length + pre.length) (hv : 127 < v)
    (hown : w'.ownsRow w.heap.size 5 1 (.slice (some ⟨g, 0, none⟩) (n + 1) cap) (n + 1) (vals (bs ++ (pre ++ [v % 128 + 128])))) (hb : Below w.heap.size w w') :
    PutAt w bs u (.slice (some ⟨g, 0, none⟩) (n + 1) cap) (.int .u64 ((v / 128 : Nat) : Int)) w' := by
  cases f with
  | zero => simp at h2; omega
  | succ f =>
    refine ⟨f, v / 128, g, cap, n + 1, pre ++ [v % 128 + 128], ?_, by simp; omega, ?_, by omega, ?_, by simp; omega, rfl, rfl, hown, hb⟩
    · rw [hu, gr_big _ _ (by omega), List.append_assoc]; rfl
    · rw [Nat.pow_succ] at h2; omega
    · exact all_append ha (fun x hx => by simp at hx; omega)
theorem putAt_start {w wr : World} {bs : List Nat} {u g cap n : Nat} (hu : u < 18446744073709551616) (hn : bs.length = n) (hown : wr.ownsRow w.heap.size 5 1 (.slice (some ⟨g, 0, none⟩) n cap) n (vals bs)) (hb : Below w.heap.size w wr) :
    PutAt w bs u (.slice (some ⟨g, 0, none⟩) n cap) (.int .u64 (u : Int)) wr :=
  ⟨9, u, g, cap, n, [], rfl, rfl, by rw [pow9]; omega, hu, (fun x hx => by cases hx), by simp [hn], rfl, rfl, by rw [List.append_nil]; exact hown, hb⟩
theorem put_end {pre bs : List Nat} {u f v : Nat} (hu : encU u = pre ++ gr f v) (hv : ¬ 127 < v) : bs ++ (pre ++ [v]) = bs ++ encU u := by
  rw [hu, gr_small _ _ (by omega)]
set_option maxHeartbeats 400000 in
theorem put_any (w : World) (ad : Option Addr) (len cap : Nat) (bs : List Nat) (n : Int) (h : Row w ad len cap bs) (hL : len ≤ 140737488355300) (h0 : -9223372036854775808 ≤ n) (h1 : n ≤ 9223372036854775807) :
    Calls Try.prog 83 #[.slice ad len cap, .int .i64 n] w (GivesRow w (bs ++ encN n)) := by
  have HB := Lib.hid h
  have hu := zig_lt h0 h1
  clear h
  go_enter Try.func83, Try.ntmps83
  go_wp2_with fail
  refine (roomy_any w ad len cap 10 bs HB.out (by omega) (by omega)).mono ?_
  rintro e w1 ⟨g, cp, rfl, hown, hb1⟩
  rw [HB.out.len] at hown ⊢
  have HO := Lib.hid hown
  have HB1 := Lib.hid hb1
  clear hown hb1
  go_wp2_with fail
  refine (unsigned_any n w1 h0 h1).mono ?_
  rintro e w' ⟨rfl, rfl⟩
  obtain ⟨u, hue⟩ : ∃ u, u = zig n := ⟨_, rfl⟩
  rw [← hue] at hu ⊢
  have HU := Lib.hid hue
  clear hue
  go_wp2
  go_loopw [5, 6] (fun v5 v6 wr => PutAt w bs u v5 v6 wr) (fun _ v6 _ => (intOf v6).toNat)
  case atStart => exact putAt_start hu HB.out.len HO.out HB1.out
  case round =>
    obtain ⟨f, v, g, cap', k, pre, hu', hf, h2, h6, ha, hn, rfl, rfl, hown, hbel⟩ := hrel
    have HU' := Lib.hid hu'
    have HF := Lib.hid hf
    have HN := Lib.hid hn
    have HO' := Lib.hid hown
    have HW := Lib.hid hbel
    have HA := Lib.hid ha
    have H2 := Lib.hid h2
    have hk : k ≤ 140737488355320 := by have := HB.out.len; omega
    clear hu' hf hn hown hbel ha h2
    have hand := low7 v h6
    obtain ⟨y, hy⟩ : ∃ y, y = v % 128 := ⟨_, rfl⟩
    rw [← hy] at hand
    have hy8 : y < 128 := by omega
    have hor := hi7 y (by omega)
    have hy2 : y % 128 + 128 = v % 128 + 128 := by omega
    rw [hy2] at hor
    have HY := Lib.hid hy
    clear hy hy2
    obtain ⟨z, hz⟩ : ∃ z, z = v % 128 + 128 := ⟨_, rfl⟩
    rw [← hz] at hor
    have hz8 : z < 256 := by omega
    have HZ := Lib.hid hz
    clear hz
    by_cases hv : 127 < v
    · have HW2 : Hid (Below w.heap.size w (wr.alloc (.cells #[.int .u8 (z : Int)] 5))) := HW.out.alloc HW.out.size _
      go_wp2_with (at_builtin; refine append_row rfl (.tmp 13) (.tmp 18) rfl w.heap.size k (bs ++ pre) [z] _ rfl (HO'.out.alloc _) (some_ne _ _ _) HW2.out.size _ _ _ rfl (row_byte wr z hz8) (by omega) w HW2.out ?_)
      intro g3 cp3 w3 ho3 hb3
      have HO3 := Lib.hid ho3
      have HB3 := Lib.hid hb3
      clear ho3 hb3
      go_wp2
      go_roundw
      case rel =>
        have h3 := HO3.out
        rw [HZ.out] at h3
        exact putAt_step HU'.out HF.out H2.out h6 HA.out HN.out hv h3 HB3.out
      case measure => simp [intOf]; omega
    · have HW2 : Hid (Below w.heap.size w (wr.alloc (.cells #[.int .u8 (v : Int)] 5))) := HW.out.alloc HW.out.size _
      have hv8 : v < 256 := by omega
      go_wp2_with (at_builtin; refine append_row rfl (.tmp 22) (.tmp 25) rfl w.heap.size k (bs ++ pre) [v] _ rfl (HO'.out.alloc _) (some_ne _ _ _) HW2.out.size _ _ _ rfl (row_byte wr v hv8) (by omega) w HW2.out ?_)
      intro g3 cp3 w3 ho3 hb3
      have HO3 := Lib.hid ho3
      have HB3 := Lib.hid hb3
      clear ho3 hb3
      go_wp2
      go_ret
      have h3 := HO3.out
      rw [put_end HU'.out hv, HU.out] at h3
      refine gives_row ?_ h3 HB3.out
      have := h3.1
      rw [length_vals] at this
      unfold encN; omega
theorem text_len (s : ByteArray) : ((s.size : Nat) : Int) = ((s.data.toList.map UInt8.toNat).length : Int) := by simp
def bytesS (s : ByteArray) : List Nat := s.data.toList.map UInt8.toNat
theorem length_bytesS (s : ByteArray) : (bytesS s).length = s.size := by simp [bytesS]
theorem strCells_vals (s : ByteArray) : Lib.strCells s = vals (bytesS s) := by simp [Lib.strCells, vals, bytesS, byte]
theorem bytesS_all (s : ByteArray) : AllB (bytesS s) := by
  intro x hx
  obtain ⟨c, _, rfl⟩ := List.mem_map.1 hx
  exact c.toNat_lt
set_option maxHeartbeats 400000 in
theorem text_any (w : World) (ad : Option Addr) (len cap : Nat) (bs : List Nat) (s : ByteArray) (h : Row w ad len cap bs) (hL : len + s.size ≤ 140737488355300) :
    Calls Try.prog 74 #[.slice ad len cap, .string s] w (GivesRow w (bs ++ textB (bytesS s))) := by
  obtain ⟨i0, hi, hz0, hz1, hz2⟩ := info_parts info5
  have HB := Lib.hid h
  clear h
  go_enter Try.func74, Try.ntmps74
  go_wp2_with fail
  refine (put_any w ad len cap bs s.size HB.out (by omega) (by omega) (by omega)).mono ?_
  rintro e w1 ⟨g, cp, rfl, hown, hb1⟩
  have hel := enc_len (zig_lt (n := (s.size : Int)) (by omega) (by omega))
  have hl : (bs ++ encN (s.size : Int)).length ≤ len + 10 := by rw [List.length_append, HB.out.len]; unfold encN; omega
  obtain ⟨k, hk⟩ : ∃ k, k = (bs ++ encN (s.size : Int)).length := ⟨_, rfl⟩
  rw [← hk] at hown hl ⊢
  have HK := Lib.hid hk
  have HO := Lib.hid hown
  have HB1 := Lib.hid hb1
  clear hown hb1 hk hel
  go_wp2_with (at_builtin; refine Lib.wpList_append_own_string _ rfl (.tmp 8) (.tmp 9) 34 9 rfl w.heap.size 5 i0 Try.underlying34 Try.underlying9 hi hz0 hz1 hz2 _ k _ rfl HO.out s rfl (by unfold maxLen; omega) (by omega) HB1.out.size ?_)
  intro v2 w2 ho2 hgrow2 hn2
  have HB2 : Hid (Below w.heap.size w w2) := HB1.out.grown hgrow2 HB1.out.size (fun j hj => (HO.out.lt j hj).1)
  have hne : v2 ≠ .slice none 0 0 := hn2
  have HO2 : Hid (w2.ownsRow w.heap.size 5 1 v2 (k + s.size) (vals (bs ++ textB (bytesS s)))) := by
    have e : bs ++ textB (bytesS s) = (bs ++ encN (s.size : Int)) ++ bytesS s := by
      unfold textB encN
      rw [length_bytesS, zig_nat, List.append_assoc]
    rw [e, vals_append, ← strCells_vals]
    exact ho2
  clear ho2 hgrow2 hn2
  obtain ⟨g2, cp2, rfl⟩ : ∃ g cp, v2 = .slice (some ⟨g, 0, none⟩) (k + s.size) cp := by
    rcases HO2.out.2 with ⟨h, _⟩ | ⟨g, cp, cur, h, _⟩
    · exact absurd h hne
    · exact ⟨g, cp, h⟩
  clear hne
  go_wp2
  go_ret
  refine gives_row ?_ HO2.out HB2.out
  have := HO2.out.1
  rw [length_vals] at this
  omega
end Go.Proofs.Ytlpmfhccfihnfaa
