/- The document's own Right, Bytes, Size, Count of chapter 6. -/
import Derived.Test.YtlpmfhccfihnfaaBatWrite
namespace Go.Proofs.Ytlpmfhccfihnfaa
open Go.RowKit
open Go.SeqMath
open Go.BatMath hiding AllB getD_lt take_all
set_option linter.unusedVariables false

theorem refRight_any (w : World) (b : Bat) (ad : Option Addr) (len cap : Nat) (hr : RecsAt w ad len cap b.recs) (ht : TextsOk b.recs) (hL : len ≤ 140737488355328) (hp : b.prod ≤ 9223372036854775807) :
    Calls Try.prog 27 #[.agg #[.int .i64 b.base, .int .i64 b.prod, .int .i64 b.epoch, .int .i64 b.seq, .bool b.txn, .int .i64 b.marker, .slice ad len cap]] w (Says (rightE b) w) := by
  obtain rfl := hr.length
  have CP : Hid (∀ W, Below w.heap.size w W → Calls Try.prog 48 #[.agg #[.int .i64 b.base, .int .i64 b.prod, .int .i64 b.epoch, .int .i64 b.seq, .bool b.txn, .int .i64 b.marker, .slice ad b.recs.length cap]] W (Says (rightE b) W)) := fun W hW => plain_any W b ad cap (hr.keep hW) ht hL
  obtain ⟨ev, hev⟩ : ∃ ev, ev = rightE b := ⟨_, rfl⟩
  rw [← hev] at CP ⊢
  have CW : Hid (ev = 0 → ∀ W, Below w.heap.size w W → Calls Try.prog 30 #[.agg #[.int .i64 b.base, .int .i64 b.prod, .int .i64 b.epoch, .int .i64 b.seq, .bool b.txn, .int .i64 b.marker, .slice ad b.recs.length cap]] W (GivesRow W (bytesB b))) := by
    intro h W hW
    exact write_any W b ad _ cap (hr.keep hW) (ok_of (by rw [← hev, h])) hp
  have HLE : Hid (ev = 0 → (bytesB b).length ≤ 4096) := by
    intro h
    have := (ok_len (ok_of (b := b) (by rw [← hev, h]))).1
    omega
  clear hev hr ht hp
  obtain ⟨base, prod, epoch, seq, txn, marker, recs⟩ := b
  simp only at CP CW hL ⊢
  obtain ⟨len, hlen⟩ : ∃ len, len = recs.length := ⟨_, rfl⟩
  rw [← hlen] at CP CW hL ⊢
  clear hlen
  obtain ⟨W0, hW0⟩ : ∃ W0, W0 = (w.alloc (.cells #[.int .i64 base, .int .i64 prod, .int .i64 epoch, .int .i64 seq, .bool txn, .int .i64 marker, .slice ad len cap] 24)) := ⟨_, rfl⟩
  have hs0 : W0.heap.size = w.heap.size + 1 := by rw [hW0]; simp
  have HX := Lib.hid (show BoxAt W0 w.heap.size base prod epoch seq txn marker (.slice ad len cap) by rw [hW0]; exact boxAt_new w _ _ _ _ _ _ _)
  have HB := Lib.hid (show Below w.heap.size w W0 by rw [hW0]; exact (Below.refl _ _).alloc (Nat.le_refl _) _)
  have HW0 := Lib.hid hW0
  clear hW0
  go_enter Try.func27, Try.ntmps27
  go_wp2_with fail
  rw [← HW0.out]
  refine (CP.out W0 HB.out).mono ?_
  rintro e w1 ⟨rfl, hb⟩
  have HX1 := Lib.hid (HX.out.on hb)
  have HB1 := Lib.hid (HB.out.trans (hb.mono HB.out.size))
  clear hb
  by_cases h0 : ev = 0
  · have h1 : (ev != 0) = false := by simpa using h0
    have H0 := Lib.hid h0
    clear h0
    have hc0 := HX1.out.c0
    have hc1 := HX1.out.c1
    have hc2 := HX1.out.c2
    have hc3 := HX1.out.c3
    have hc4 := HX1.out.c4
    have hc5 := HX1.out.c5
    have hc6 := HX1.out.c6
    obtain ⟨n, hn⟩ : ∃ n, (bytesB ⟨base, prod, epoch, seq, txn, marker, recs⟩).length = n := ⟨_, rfl⟩
    have hn4 : n ≤ 4096 := by rw [← hn]; exact HLE.out H0.out
    have HN := Lib.hid hn
    clear hn
    go_wp2_with fail
    refine (CW.out H0.out w1 HB1.out).mono ?_
    rintro e w2 hg
    obtain ⟨g, c, rfl, ho, hb, hbb⟩ := gives_on hg HB1.out HN.out
    clear hg hc0 hc1 hc2 hc3 hc4 hc5 hc6
    go_wp2
    go_ret
    exact says_mk H0.out.symm hb.out
  · have h1 : (ev != 0) = true := by simpa using h0
    go_wp2
    go_ret
    exact says_mk rfl HB1.out
/-- What Bytes gives: the bytes and no error, or none and the error. -/
def GivesBytes (w : World) (ev : Int) (L : List Nat) (e : Ending) (w' : World) : Prop :=
  (ev = 0 ∧ ∃ g c, e = .returned (.tuple #[.slice (some ⟨g, 0, none⟩) L.length c, .int .i64 0]) ∧ w'.ownsRow w.heap.size 5 1 (.slice (some ⟨g, 0, none⟩) L.length c) L.length (vals L) ∧ Below w.heap.size w w') ∨
  (ev ≠ 0 ∧ e = .returned (.tuple #[.slice none 0 0, .int .i64 ev]) ∧ Below w.heap.size w w')
theorem gives_bytes {w w' : World} {ev : Int} {L : List Nat} {g c : Nat} (h : ev = 0) (h1 : w'.ownsRow w.heap.size 5 1 (.slice (some ⟨g, 0, none⟩) L.length c) L.length (vals L)) (h2 : Below w.heap.size w w') : GivesBytes w ev L (.returned (.tuple #[.slice (some ⟨g, 0, none⟩) L.length c, .int .i64 0])) w' := .inl ⟨h, g, c, rfl, h1, h2⟩
theorem gives_none {w w' : World} {ev : Int} {L : List Nat} (h : ev ≠ 0) (h2 : Below w.heap.size w w') : GivesBytes w ev L (.returned (.tuple #[.slice none 0 0, .int .i64 ev])) w' := .inr ⟨h, rfl, h2⟩
theorem refBytes_any (w : World) (b : Bat) (ad : Option Addr) (len cap : Nat) (hr : RecsAt w ad len cap b.recs) (ht : TextsOk b.recs) (hL : len ≤ 140737488355328) (hp : b.prod ≤ 9223372036854775807) :
    Calls Try.prog 12 #[.agg #[.int .i64 b.base, .int .i64 b.prod, .int .i64 b.epoch, .int .i64 b.seq, .bool b.txn, .int .i64 b.marker, .slice ad len cap]] w (GivesBytes w (rightE b) (bytesB b)) := by
  have CP : Hid (∀ W, Below w.heap.size w W → Calls Try.prog 27 #[.agg #[.int .i64 b.base, .int .i64 b.prod, .int .i64 b.epoch, .int .i64 b.seq, .bool b.txn, .int .i64 b.marker, .slice ad len cap]] W (Says (rightE b) W)) := fun W hW => refRight_any W b ad len cap (hr.keep hW) ht hL hp
  have CW : Hid (rightE b = 0 → ∀ W, Below w.heap.size w W → Calls Try.prog 30 #[.agg #[.int .i64 b.base, .int .i64 b.prod, .int .i64 b.epoch, .int .i64 b.seq, .bool b.txn, .int .i64 b.marker, .slice ad len cap]] W (GivesRow W (bytesB b))) :=
    fun h W hW => write_any W b ad len cap (hr.keep hW) (ok_of h) hp
  obtain ⟨ev, hev⟩ : ∃ ev, ev = rightE b := ⟨_, rfl⟩
  rw [← hev] at CP CW ⊢
  obtain ⟨L, hLL⟩ : ∃ L, L = bytesB b := ⟨_, rfl⟩
  rw [← hLL] at CW ⊢
  clear hev hr ht hp hLL hL
  obtain ⟨base, prod, epoch, seq, txn, marker, recs⟩ := b
  simp only at CP CW ⊢
  obtain ⟨W0, hW0⟩ : ∃ W0, W0 = (w.alloc (.cells #[.int .i64 base, .int .i64 prod, .int .i64 epoch, .int .i64 seq, .bool txn, .int .i64 marker, .slice ad len cap] 24)) := ⟨_, rfl⟩
  have hs0 : W0.heap.size = w.heap.size + 1 := by rw [hW0]; simp
  have HX := Lib.hid (show BoxAt W0 w.heap.size base prod epoch seq txn marker (.slice ad len cap) by rw [hW0]; exact boxAt_new w _ _ _ _ _ _ _)
  have HB := Lib.hid (show Below w.heap.size w W0 by rw [hW0]; exact (Below.refl _ _).alloc (Nat.le_refl _) _)
  have HW0 := Lib.hid hW0
  clear hW0
  go_enter Try.func12, Try.ntmps12
  go_wp2_with fail
  rw [← HW0.out]
  refine (CP.out W0 HB.out).mono ?_
  rintro e w1 ⟨rfl, hb⟩
  have HX1 := Lib.hid (HX.out.on hb)
  have HB1 := Lib.hid (HB.out.trans (hb.mono HB.out.size))
  clear hb
  by_cases h0 : ev = 0
  · have h1 : (ev != 0) = false := by simpa using h0
    have H0 := Lib.hid h0
    clear h0
    have hc0 := HX1.out.c0
    have hc1 := HX1.out.c1
    have hc2 := HX1.out.c2
    have hc3 := HX1.out.c3
    have hc4 := HX1.out.c4
    have hc5 := HX1.out.c5
    have hc6 := HX1.out.c6
    go_wp2_with fail
    refine (CW.out H0.out w1 HB1.out).mono ?_
    rintro e w2 hg
    obtain ⟨g, c, rfl, ho, hb, hbb⟩ := gives_on hg HB1.out rfl
    clear hg hc0 hc1 hc2 hc3 hc4 hc5 hc6
    go_wp2
    go_ret2
    exact gives_bytes H0.out ho.out hb.out
  · have h1 : (ev != 0) = true := by simpa using h0
    have H0 := Lib.hid h0
    clear h0
    go_wp2
    go_ret2
    exact gives_none H0.out HB1.out
def SaysInt (n : Int) (w : World) (e : Ending) (w' : World) : Prop := e = .returned (.int .i64 n) ∧ Below w.heap.size w w'
theorem refSize_any (w : World) (b : Bat) (ad : Option Addr) (len cap : Nat) (hr : RecsAt w ad len cap b.recs) (ht : TextsOk b.recs) (hL : len ≤ 140737488355328) (hp : b.prod ≤ 9223372036854775807) :
    Calls Try.prog 28 #[.agg #[.int .i64 b.base, .int .i64 b.prod, .int .i64 b.epoch, .int .i64 b.seq, .bool b.txn, .int .i64 b.marker, .slice ad len cap]] w (Says (sizeB b) w) := by
  have CP : Hid (∀ W, Below w.heap.size w W → Calls Try.prog 12 #[.agg #[.int .i64 b.base, .int .i64 b.prod, .int .i64 b.epoch, .int .i64 b.seq, .bool b.txn, .int .i64 b.marker, .slice ad len cap]] W (GivesBytes W (rightE b) (bytesB b))) := fun W hW => refBytes_any W b ad len cap (hr.keep hW) ht hL hp
  have HY : Hid (rightE b = 0 → ((bytesB b).length : Int) = sizeB b) := fun h => by unfold sizeB; rw [if_pos h]
  have HN : Hid (rightE b ≠ 0 → 0 = sizeB b) := fun h => by unfold sizeB; rw [if_neg h]
  obtain ⟨P, hP⟩ : ∃ P, P = sizeB b := ⟨_, rfl⟩
  rw [← hP] at HY HN ⊢
  obtain ⟨ev, hev⟩ : ∃ ev, ev = rightE b := ⟨_, rfl⟩
  rw [← hev] at HY HN CP
  obtain ⟨L, hLL⟩ : ∃ L, L = bytesB b := ⟨_, rfl⟩
  rw [← hLL] at HY CP
  clear hev hP hr ht hp hLL hL
  obtain ⟨base, prod, epoch, seq, txn, marker, recs⟩ := b
  simp only at CP ⊢
  go_enter Try.func28, Try.ntmps28
  go_wp2_with fail
  refine (CP.out _ ((Below.refl _ _).alloc (Nat.le_refl _) _)).mono ?_
  rintro e w1 hg
  rcases hg with ⟨h, g, c, rfl, _, hb⟩ | ⟨h, rfl, hb⟩
  · have H := Lib.hid h
    have HB := Lib.hid (((Below.refl w.heap.size w).alloc (Nat.le_refl _) _).trans (hb.mono (by simp)))
    clear h hb
    go_wp2
    go_ret
    exact says_mk (HY.out H.out) HB.out
  · have H := Lib.hid h
    have HB := Lib.hid (((Below.refl w.heap.size w).alloc (Nat.le_refl _) _).trans (hb.mono (by simp)))
    clear h hb
    go_wp2
    go_ret
    exact says_mk (HN.out H.out) HB.out
theorem refCount_any (w : World) (b0 b1 b2 b3 : Int) (b4 : Bool) (b5 : Int) (ad : Option Addr) (len cap : Nat) (n : Int) (hn : (if b5 ≠ 0 then 1 else (len : Int)) = n) :
    Calls Try.prog 29 #[.agg #[.int .i64 b0, .int .i64 b1, .int .i64 b2, .int .i64 b3, .bool b4, .int .i64 b5, .slice ad len cap]] w (Says n w) := by
  by_cases h : b5 = 0
  · subst h
    obtain rfl : (len : Int) = n := by rw [← hn, if_neg (by decide)]
    clear hn
    go_enter Try.func29, Try.ntmps29
    go_wp2
    go_ret
    exact says_mk rfl ((Below.refl _ _).alloc (Nat.le_refl _) _)
  · have h1 : (b5 != 0) = true := by simpa using h
    obtain rfl : 1 = n := by rw [← hn, if_pos h]
    clear hn
    go_enter Try.func29, Try.ntmps29
    go_wp2
    go_ret
    exact says_mk rfl ((Below.refl _ _).alloc (Nat.le_refl _) _)
end Go.Proofs.Ytlpmfhccfihnfaa
