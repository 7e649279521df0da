/- bordereaukeep's Tape: a row of numbers that are read one by one: Next, Text. What they answer is told by its bounds alone. A call turns the tape's own block, and no other one that is there. -/
import Derived.Test.YtlpmfhccfihnfaaBatRecs
import Derived.Test.YtlpmfhccfihnfaaBatSame
import Derived.Test.YtlpmfhccfihnfaaWithin
import Derived.BigQuiet
import Derived.Deep.CutRange
namespace Go.Proofs.Ytlpmfhccfihnfaa
open Go.RowKit
open Go.BatMath hiding AllB getD_lt take_all
set_option linter.unusedVariables false

/-- Block kt is a tape that stands at its i-th number. -/
structure TapeAt (w : World) (kt : Nat) (ad : Option Addr) (len cap i : Nat) : Prop where
  blk : w.heap[kt]? = some (.cells #[.slice ad len cap, .int .i64 (i : Int)] 29 (0, 0))
  le : i ≤ len
  big : len ≤ 140737488355328
  nums : ∀ j, j < len → ∃ b off n, ad = some ⟨b, off, none⟩ ∧ b < kt ∧ w.cell? ⟨b, off + j, none⟩ = some (.int .i64 n) ∧ In64 n
section
variable {w w' w1 w2 : World} {kt len cap i : Nat} {ad : Option Addr}
theorem grow_refl (w : World) (r : Option Nat) : w.grownBy w r := ⟨rfl, rfl, rfl, Nat.le_refl _, fun _ _ _ => rfl⟩
theorem grow_trans {r : Option Nat} (h : w.grownBy w1 r) (h2 : w1.grownBy w2 r) : w.grownBy w2 r :=
  ⟨h2.os.trans h.os, h2.tape.trans h.tape, h2.output.trans h.output, Nat.le_trans h.size h2.size, fun k hk hn => (h2.block k (Nat.lt_of_lt_of_le hk h.size) hn).trans (h.block k hk hn)⟩
theorem grow_drewN {r : Option Nat} (h : w.grownBy w1 r) (n : Nat) : w.grownBy (w1.drewN n) r := grow_trans h ⟨rfl, rfl, rfl, Nat.le_refl _, fun _ _ _ => rfl⟩
theorem grow_alloc {r : Option Nat} (h : w.grownBy w1 r) (o : Obj) : w.grownBy (w1.alloc o) r := grow_trans h (World.grownBy_alloc w1 o r)
theorem grow_set (h : w.grownBy w1 (some kt)) (j : Nat) (u : Value) : w.grownBy (w1.setCell ⟨kt, j, none⟩ u) (some kt) :=
  grow_trans h ⟨rfl, rfl, rfl, by simp, fun k hk hn => by
    show (w1.heap.modify kt _)[k]? = _
    rw [Array.getElem?_modify, if_neg (fun e => hn (by rw [e]))]⟩
theorem grow_below {r : Option Nat} (h : w.grownBy w1 r) (hb : Below w1.heap.size w1 w2) : w.grownBy w2 r :=
  grow_trans h ⟨hb.os, hb.tape, hb.output, hb.size, fun k hk _ => hb.block k hk⟩
theorem TapeAt.c0 (h : TapeAt w kt ad len cap i) : w.cell? ⟨kt, 0, none⟩ = some (.slice ad len cap) := by rw [cell_of_row _ _ 0 _ _ _ h.blk]; rfl
theorem TapeAt.c1 (h : TapeAt w kt ad len cap i) : w.cell? ⟨kt, 1, none⟩ = some (.int .i64 (i : Int)) := by rw [cell_of_row _ _ 1 _ _ _ h.blk]; rfl
theorem TapeAt.free (h : TapeAt w kt ad len cap i) (j : Nat) : w.frozen? ⟨kt, j, none⟩ = false := frozen_of_row w kt j _ _ h.blk
theorem TapeAt.lt (h : TapeAt w kt ad len cap i) : kt < w.heap.size := lt_of_block h.blk
theorem TapeAt.on (h : TapeAt w kt ad len cap i) (hb : Below w.heap.size w w') : TapeAt w' kt ad len cap i := by
  refine ⟨(hb.block kt h.lt).trans h.blk, h.le, h.big, fun j hj => ?_⟩
  obtain ⟨b, off, n, e, hne, hc, hn⟩ := h.nums j hj
  exact ⟨b, off, n, e, hne, (hb.cell (World.block_lt_of_cell? _ _ hc)).trans hc, hn⟩
theorem TapeAt.drewN (h : TapeAt w kt ad len cap i) (n : Nat) : TapeAt (w.drewN n) kt ad len cap i := h.on (bel_drewN (Below.refl _ _) n)
theorem TapeAt.step (h : TapeAt w kt ad len cap i) (hi : i < len) (z : Int) (hz : z = ((i + 1 : Nat) : Int)) : TapeAt (w.setCell ⟨kt, 1, none⟩ (.int .i64 z)) kt ad len cap (i + 1) := by
  subst hz
  refine ⟨box_set h.blk 1 _, hi, h.big, fun j hj => ?_⟩
  obtain ⟨b, off, n, e, hne, hc, hn⟩ := h.nums j hj
  refine ⟨b, off, n, e, hne, ?_, hn⟩
  rw [World.cell?_of_block (a := ⟨b, off + j, none⟩) (w := w)]
  · exact hc
  · show (w.heap.modify kt _)[b]? = _
    rw [Array.getElem?_modify, if_neg (by omega)]
theorem TapeAt.grow {r : Option Nat} (h : TapeAt w kt ad len cap i) (hg : w.grownBy w' r) (hr : ∀ k, r = some k → kt < k) : TapeAt w' kt ad len cap i := by
  refine ⟨(hg.block kt h.lt (fun e => by have := hr kt e.symm; omega)).trans h.blk, h.le, h.big, fun j hj => ?_⟩
  obtain ⟨b, off, n, e, hne, hc, hn⟩ := h.nums j hj
  exact ⟨b, off, n, e, hne, hg.cell hc (fun e => by have := hr b e.symm; omega), hn⟩
theorem grow_own {r : Option Nat} (h : w.grownBy w1 (some kt)) (h2 : w1.grownBy w2 r) (hr : ∀ k, r = some k → w.heap.size ≤ k) : w.grownBy w2 (some kt) :=
  ⟨h2.os.trans h.os, h2.tape.trans h.tape, h2.output.trans h.output, Nat.le_trans h.size h2.size, fun k hk hn => (h2.block k (Nat.lt_of_lt_of_le hk h.size) (fun e => by have := hr k e.symm; omega)).trans (h.block k hk hn)⟩
theorem OwnRecs.tape {base : Nat} {v : Value} {l : List Rc} (h : OwnRecs w base v l) (hg : w.grownBy w' (some kt)) (hk : kt < base) : OwnRecs w' base v l := by
  refine ⟨h.1, ?_⟩
  rcases h.2 with hn | ⟨g, cap, cur, rfl, hbg, hh, r⟩
  · exact .inl hn
  · exact .inr ⟨g, cap, cur, rfl, hbg, (hg.block g (lt_of_block hh) (fun e => by have := Option.some.inj e; omega)).trans hh, r⟩
theorem RecsAt.tape {cap2 : Nat} {a : Option Addr} {l : List Rc} {n : Nat} (h : RecsAt w a n cap2 l) (hg : w.grownBy w' (some kt)) (hk : ∀ x, a = some x → x.block ≠ kt) : RecsAt w' a n cap2 l := by
  refine ⟨h.length, h.fits, h.room, ?_⟩
  rcases h.cells with h0 | ⟨b, off, e, hlt, hc⟩
  · exact .inl h0
  · refine .inr ⟨b, off, e, Nat.lt_of_lt_of_le hlt hg.size, fun i r hi => ?_⟩
    have hne : b ≠ kt := hk _ e
    obtain ⟨c1, c2⟩ := hc i r hi
    exact ⟨hg.cell c1 (fun e => hne (Option.some.inj e)), hg.cell c2 (fun e => hne (Option.some.inj e))⟩
theorem BoxAt.tape {k : Nat} {b0 b1 b2 b3 : Int} {b4 : Bool} {b5 : Int} {v : Value} (h : BoxAt w k b0 b1 b2 b3 b4 b5 v) (hg : w.grownBy w' (some kt)) (hk : k ≠ kt) : BoxAt w' k b0 b1 b2 b3 b4 b5 v := by
  unfold BoxAt at *
  rw [hg.block k (lt_of_block h) (fun e => hk (Option.some.inj e))]
  exact h
end
/-- A number of 0 to n - 1. -/
def GivesNext (w : World) (kt : Nat) (ad : Option Addr) (len cap : Nat) (n : Int) (e : Ending) (w' : World) : Prop :=
  ∃ (v : Int) (i : Nat), e = .returned (.int .i64 v) ∧ 0 ≤ v ∧ v < n ∧ TapeAt w' kt ad len cap i ∧ w.grownBy w' (some kt)
theorem gives_next {w w' : World} {kt : Nat} {ad : Option Addr} {len cap i : Nat} {n v : Int} (h0 : 0 ≤ v) (h1 : v < n) (ht : TapeAt w' kt ad len cap i) (hg : w.grownBy w' (some kt)) : GivesNext w kt ad len cap n (.returned (.int .i64 v)) w' := ⟨v, i, rfl, h0, h1, ht, hg⟩
set_option maxRecDepth 100000 in
set_option maxHeartbeats 2000000 in
theorem tapeNext_any (w : World) (kt : Nat) (ad : Option Addr) (len cap i : Nat) (n : Int) (h : TapeAt w kt ad len cap i) (n0 : 1 ≤ n) (n1 : n ≤ 1073741824) :
    Calls Try.prog 24 #[.pointer (some ⟨kt, 0, none⟩), .int .i64 n] w (GivesNext w kt ad len cap n) := by
  have H := Lib.hid h
  have hc0 := h.c0
  have hc1 := h.c1
  have hf1 := h.free 1
  have hle := h.le
  have hbig := h.big
  have hn1 : ¬ n < 1 := by omega
  have hnd : decide (n < 1) = false := by simp; omega
  by_cases hi : i < len
  · obtain ⟨b, off, z, rfl, hne, hcell, hz⟩ := h.nums i hi
    have hblt : b < w.heap.size := World.block_lt_of_cell? _ _ hcell
    have hge : decide (len ≤ i) = false := by simp; omega
    have hge2 : decide ((len : Int) ≤ (i : Int)) = false := by simp; omega
    have HC := Lib.hid hcell
    clear h hcell
    go_enter Try.func24, Try.ntmps24
    go_wp2_with fail
    go_quiet (fail)
    go_upto_region 3 with fail
    go_cut [] from 5 (fun wx => Hid (TapeAt wx kt (some ⟨b, off, none⟩) len cap (i + 1)) ∧ Hid (w.grownBy wx (some kt)))
    case first =>
      go_wp2
      go_meet
      case rel => exact ⟨(H.out.drewN _).step hi _ (by omega), grow_set (grow_drewN (grow_refl _ _) _) 1 _⟩
    case rest =>
      obtain ⟨HT, HG⟩ := hcut
      clear hc0 hc1 hf1
      have hc0 := HT.out.c0
      have hc1 : wc.cell? ⟨kt, 1, none⟩ = some (.int .i64 ((i : Int) + 1)) := HT.out.c1
      have hcx : wc.cell? ⟨b, off + i, none⟩ = some (.int .i64 z) := (World.cell?_of_block (a := ⟨b, off + i, none⟩) (HG.out.block b hblt (fun e => by have := Option.some.inj e; omega))).trans HC.out
      have hw1 : IntKind.i64.wrap ((i : Int) + 1 - 1) = (i : Int) := by rw [IntKind.wrap_i64]; omega
      have hw2 : IntKind.i64.wrap (i : Int) = (i : Int) := by rw [IntKind.wrap_i64]; omega
      have hi2 : (i : Int) < (len : Int) := by omega
      have hnz : (n == 0) = false := by simp; omega
      have hnz2 : ¬ n = 0 := by omega
      go_wp2_with fail
      go_region_held3 (fun W => Below wc.heap.size wc W ∧ W.cell? ⟨kt, 0, none⟩ = some (.slice (some ⟨b, off, none⟩) len cap) ∧ W.cell? ⟨kt, 1, none⟩ = some (.int .i64 ((i : Int) + 1)) ∧ W.cell? ⟨b, off + i, none⟩ = some (.int .i64 z)) (first | exact ‹Below _ _ _ ∧ _› | exact ⟨(Below.refl _ _).drew, hc0, hc1, hcx⟩) (first | (go_at_call 15; refine (within_any z 1073741824 _ hz (by omega)).mono ?_; rintro e w' ⟨k, rfl, hk, rfl⟩))
      go_wp2
      go_ret
      have hv1 : (k : Int).tmod n < n := Int.tmod_lt_of_pos _ (by omega)
      have hv0 : 0 ≤ (k : Int).tmod n := Int.tmod_nonneg _ (by omega)
      exact gives_next hv0 hv1 (HT.out.on (Below.refl _ _).drew) (grow_below HG.out (Below.refl _ _).drew)
  · obtain rfl : i = len := by omega
    have hge : decide (i ≤ i) = true := by simp
    have hge2 : decide ((i : Int) ≤ (i : Int)) = true := by simp
    clear h
    go_enter Try.func24, Try.ntmps24
    go_wp2_with fail
    go_quiet (fail)
    go_wp2
    go_ret
    exact gives_next (by omega) (by omega) (H.out.drewN _) (grow_drewN (grow_refl _ _) _)
/-- A short text. -/
def GivesText (w : World) (kt : Nat) (ad : Option Addr) (len cap : Nat) (e : Ending) (w' : World) : Prop :=
  ∃ (s : ByteArray) (i : Nat), e = .returned (.string s) ∧ s.size ≤ 64 ∧ TapeAt w' kt ad len cap i ∧ w.grownBy w' (some kt)
def shorts : List ByteArray := [⟨#[]⟩, ⟨#[97]⟩, ⟨#[107, 101, 121]⟩, ⟨#[228, 184, 150]⟩, ⟨#[116, 119, 111, 32, 119, 111, 114, 100, 115]⟩, ⟨#[98, 255]⟩, ⟨#[107, 50]⟩, ⟨#[61]⟩, ⟨#[97, 10, 98]⟩]
theorem shorts_size : ∀ s ∈ shorts, s.size ≤ 64 := by decide
set_option maxRecDepth 100000 in
set_option maxHeartbeats 2000000 in
theorem tapeText_any (w : World) (kt : Nat) (ad : Option Addr) (len cap i : Nat) (h : TapeAt w kt ad len cap i) :
    Calls Try.prog 45 #[.pointer (some ⟨kt, 0, none⟩)] w (GivesText w kt ad len cap) := by
  have HT := Lib.hid (h.on ((Below.refl w.heap.size w).alloc (Nat.le_refl _) (.cells (shorts.map Value.string).toArray 9)))
  have hrow : (w.alloc (.cells (shorts.map Value.string).toArray 9)).heap[w.heap.size]? = some (.cells (shorts.map Value.string).toArray 9 (0, 0)) := heap_alloc_new w _
  have HR := Lib.hid hrow
  have hne : w.heap.size ≠ kt := by have := h.lt; omega
  clear h hrow
  go_enter Try.func45, Try.ntmps45
  go_wp2_with fail
  refine (tapeNext_any _ kt ad len cap i 9 HT.out (by omega) (by omega)).mono ?_
  rintro e w1 ⟨v, i1, rfl, v0, v1, ht1, hg1⟩
  obtain ⟨k, rfl⟩ : ∃ k : Nat, v = (k : Int) := ⟨v.toNat, by omega⟩
  have hk9 : k < 9 := by omega
  obtain ⟨s, hs⟩ : ∃ s, shorts[k]? = some s := ⟨_, List.getElem?_eq_getElem hk9⟩
  have hcell : w1.cell? ⟨w.heap.size, k, none⟩ = some (.string s) := by
    have hb := (hg1.block w.heap.size (lt_of_block HR.out) (fun e => hne (Option.some.inj e))).trans HR.out
    rw [cell_of_row _ _ _ _ _ _ hb]
    simp [hs]
  have HS : Hid (s.size ≤ 64) := shorts_size s (List.mem_of_getElem? hs)
  have HG : Hid (w.grownBy w1 (some kt)) := grow_trans (grow_alloc (grow_refl _ _) _) hg1
  have HT1 := Lib.hid ht1
  clear hs hg1 ht1
  go_wp2
  go_ret
  exact ⟨s, i1, rfl, HS.out, HT1.out, HG.out⟩
theorem int_eq {a b : Int} (h : a = b) : Value.int .i64 a = .int .i64 b := by rw [h]
/-- One to most records, short ones, in new memory. -/
def GivesRecs (w : World) (kt : Nat) (ad : Option Addr) (len cap : Nat) (most : Nat) (e : Ending) (w' : World) : Prop :=
  ∃ (l : List Rc) (v : Value) (i : Nat), e = .returned v ∧ OwnRecs w' w.heap.size v l ∧ 1 ≤ l.length ∧ l.length ≤ most ∧ (∀ r ∈ l, r.key.size ≤ 64 ∧ r.val.size ≤ 64) ∧ TapeAt w' kt ad len cap i ∧ w.grownBy w' (some kt)
/-- What stands before a round: so many are left. -/
def RecsLoop (w : World) (kt : Nat) (ad : Option Addr) (len cap : Nat) (n : Nat) (v5 v6 : Value) (wr : World) : Prop :=
  ∃ (l : List Rc) (j i : Nat) (u : Value), u = v5 ∧ v6 = .int .i64 j ∧ l.length + j = n ∧ OwnRecs wr w.heap.size u l ∧ (∀ r ∈ l, r.key.size ≤ 64 ∧ r.val.size ≤ 64) ∧ TapeAt wr kt ad len cap i ∧ w.grownBy wr (some kt)
set_option maxRecDepth 100000 in
set_option maxHeartbeats 2000000 in
theorem tapeRecs_any (w : World) (kt : Nat) (ad : Option Addr) (len cap i : Nat) (most : Nat) (h : TapeAt w kt ad len cap i) (m0 : 1 ≤ most) (m1 : most ≤ 1000) :
    Calls Try.prog 25 #[.pointer (some ⟨kt, 0, none⟩), .int .i64 (most : Int)] w (GivesRecs w kt ad len cap most) := by
  have H := Lib.hid h
  have hkt := h.lt
  clear h
  go_enter Try.func25, Try.ntmps25
  go_wp2_with fail
  refine (tapeNext_any w kt ad len cap i (most : Int) H.out (by omega) (by omega)).mono ?_
  rintro e w1 ⟨v, i1, rfl, v0, v1, ht1, hg1⟩
  obtain ⟨k, rfl⟩ : ∃ k : Nat, v = (k : Int) := ⟨v.toNat, by omega⟩
  have hkm : k < most := by omega
  have HT1 := Lib.hid ht1
  have HG1 := Lib.hid hg1
  clear ht1 hg1 v0 v1
  go_wp2_with fail
  go_loopw [5, 6] (fun v5 v6 wr => RecsLoop w kt ad len cap (k + 1) v5 v6 wr) (fun _ v6 _ => (intOf v6).toNat)
  case atStart => exact ⟨[], k + 1, i1, _, rfl, by go_num, by simp, ownRecs_nil _ _, (fun r hr => by cases hr), HT1.out, HG1.out⟩
  case round =>
    obtain ⟨l, j, i2, u, rfl, rfl, hlj, hown, hsz, ht, hg⟩ := hrel
    have HLJ := Lib.hid hlj
    have HO := Lib.hid hown
    have HS := Lib.hid hsz
    have HT := Lib.hid ht
    have HG := Lib.hid hg
    have hjb : j ≤ 1001 := by omega
    clear hlj hown hsz ht hg
    by_cases hj : 0 < j
    · go_wp2_with fail
      refine (tapeText_any wr kt ad len cap i2 HT.out).mono ?_
      rintro e w2 ⟨s1, i3, rfl, hs1, ht2, hg2⟩
      have HT2 := Lib.hid ht2
      have HG2 := Lib.hid (grow_trans HG.out hg2)
      have HO2 := Lib.hid (HO.out.tape hg2 hkt)
      clear ht2 hg2
      go_wp2_with fail
      refine (tapeText_any w2 kt ad len cap i3 HT2.out).mono ?_
      rintro e w3 ⟨s2, i4, rfl, hs2, ht3, hg3⟩
      have HT3 := Lib.hid ht3
      have HG3 := Lib.hid (grow_trans HG2.out hg3)
      have HO3 := Lib.hid (HO2.out.tape hg3 hkt)
      clear ht3 hg3
      have HGA : Hid (w.grownBy (w3.alloc (.cells #[.string s1, .string s2] 58)) (some kt)) := grow_alloc HG3.out _
      go_wp2_with (at_builtin; refine list_recs (by rfl) (.tmp 15) (.tmp 21) rfl w.heap.size l [⟨s1, s2⟩] _ rfl (HO3.out.on ((Below.refl _ _).alloc (Nat.le_refl _) _)) HGA.out.size ⟨w3.heap.size, 0, none⟩ 1 1 rfl rfl (recNews_lit w3 s1 s2 _ rfl) (by have := HLJ.out; omega) ?_)
      intro v' w4 ho4 hg4
      have hrow : ∀ k, u.ownBlock = some k → w.heap.size ≤ k := fun k hk => (HO3.out.lt k hk).1
      have HT4 := Lib.hid ((HT3.out.on ((Below.refl _ _).alloc (Nat.le_refl _) (.cells #[.string s1, .string s2] 58))).grow hg4 (fun k hk => by have := hrow k hk; omega))
      have HG4 := Lib.hid (grow_own HGA.out hg4 hrow)
      have HO4 := Lib.hid ho4
      have HLJ4 : Hid ((l ++ [(⟨s1, s2⟩ : Rc)]).length + (j - 1) = k + 1) := by show _ = _; rw [List.length_append]; have := HLJ.out; simp; omega
      have HS4 : Hid (∀ r ∈ l ++ [(⟨s1, s2⟩ : Rc)], r.key.size ≤ 64 ∧ r.val.size ≤ 64) := by
        intro r hr
        rcases List.mem_append.1 hr with hr | hr
        · exact HS.out r hr
        · rw [List.mem_singleton.1 hr]; exact ⟨hs1, hs2⟩
      clear ho4 hg4 hrow
      go_wp2
      go_roundw
      case rel => exact ⟨_, j - 1, i4, _, rfl, int_eq (by omega), HLJ4.out, HO4.out, HS4.out, HT4.out, HG4.out⟩
      case measure =>
        simp [intOf]; omega
    · obtain rfl : j = 0 := by omega
      go_wp2
      go_ret
      exact ⟨l, u, i2, rfl, HO.out, by have := HLJ.out; omega, by have := HLJ.out; omega, HS.out, HT.out, HG.out⟩
end Go.Proofs.Ytlpmfhccfihnfaa
