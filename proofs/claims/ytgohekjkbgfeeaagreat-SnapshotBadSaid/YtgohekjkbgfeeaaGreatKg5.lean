/- Parts of a proof, merged: BatUse, BatCodeA, CrcUnseal, BatRead, BatCodeB, Within, Tape. -/
import Derived.Deep.RegionHeld3
import Derived.Deep.RegionWith
import Derived.BigQuiet
import Derived.Deep.CutRange
import Derived.Test.YtgohekjkbgfeeaaGreatKg4
import Derived.Test.YtgohekjkbgfeeaaGreatKg2
import Derived.Test.YtgohekjkbgfeeaaGreatKg1
namespace Go.Proofs.YtgohekjkbgfeeaaGreat
open Go.RowKit
open Go.SeqMath
open Go.BatMath hiding AllB getD_lt take_all
set_option linter.unusedVariables false

theorem refRight_any (w : World) (b : Bat) (ad : Option Addr) (len cap : Nat) (hr : RecsAt w ad len cap b.recs) (ht : TextsOk b.recs) (hL : len ≤ 140737488355328) (hp : b.prod ≤ 9223372036854775807) :
    Calls Tryz.prog 56 #[.agg #[.int .i64 b.base, .int .i64 b.prod, .int .i64 b.epoch, .int .i64 b.seq, .bool b.txn, .int .i64 b.marker, .slice ad len cap]] w (Says (rightE b) w) := by
  obtain rfl := hr.length
  have CP : Hid (∀ W, Below w.heap.size w W → Calls Tryz.prog 92 #[.agg #[.int .i64 b.base, .int .i64 b.prod, .int .i64 b.epoch, .int .i64 b.seq, .bool b.txn, .int .i64 b.marker, .slice ad b.recs.length cap]] W (Says (rightE b) W)) := fun W hW => plain_any W b ad cap (hr.keep hW) ht hL
  obtain ⟨ev, hev⟩ : ∃ ev, ev = rightE b := ⟨_, rfl⟩
  rw [← hev] at CP ⊢
  have CW : Hid (ev = 0 → ∀ W, Below w.heap.size w W → Calls Tryz.prog 93 #[.agg #[.int .i64 b.base, .int .i64 b.prod, .int .i64 b.epoch, .int .i64 b.seq, .bool b.txn, .int .i64 b.marker, .slice ad b.recs.length cap]] W (GivesRow W (bytesB b))) := by
    intro h W hW
    exact write_any W b ad _ cap (hr.keep hW) (ok_of (by rw [← hev, h])) hp
  have HLE : Hid (ev = 0 → (bytesB b).length ≤ 4096) := by
    intro h
    have := (ok_len (ok_of (b := b) (by rw [← hev, h]))).1
    omega
  clear hev hr ht hp
  obtain ⟨base, prod, epoch, seq, txn, marker, recs⟩ := b
  simp only at CP CW hL ⊢
  obtain ⟨len, hlen⟩ : ∃ len, len = recs.length := ⟨_, rfl⟩
  rw [← hlen] at CP CW hL ⊢
  clear hlen
  obtain ⟨W0, hW0⟩ : ∃ W0, W0 = (w.alloc (.cells #[.int .i64 base, .int .i64 prod, .int .i64 epoch, .int .i64 seq, .bool txn, .int .i64 marker, .slice ad len cap] 56)) := ⟨_, rfl⟩
  have hs0 : W0.heap.size = w.heap.size + 1 := by rw [hW0]; simp
  have HX := Lib.hid (show BoxAt W0 w.heap.size base prod epoch seq txn marker (.slice ad len cap) by rw [hW0]; exact boxAt_new w _ _ _ _ _ _ _)
  have HB := Lib.hid (show Below w.heap.size w W0 by rw [hW0]; exact (Below.refl _ _).alloc (Nat.le_refl _) _)
  have HW0 := Lib.hid hW0
  clear hW0
  go_enter Tryz.func56, Tryz.ntmps56
  go_wp2_with fail
  rw [← HW0.out]
  refine (CP.out W0 HB.out).mono ?_
  rintro e w1 ⟨rfl, hb⟩
  have HX1 := Lib.hid (HX.out.on hb)
  have HB1 := Lib.hid (HB.out.trans (hb.mono HB.out.size))
  clear hb
  by_cases h0 : ev = 0
  · have h1 : (ev != 0) = false := by simpa using h0
    have H0 := Lib.hid h0
    clear h0
    have hc0 := HX1.out.c0
    have hc1 := HX1.out.c1
    have hc2 := HX1.out.c2
    have hc3 := HX1.out.c3
    have hc4 := HX1.out.c4
    have hc5 := HX1.out.c5
    have hc6 := HX1.out.c6
    obtain ⟨n, hn⟩ : ∃ n, (bytesB ⟨base, prod, epoch, seq, txn, marker, recs⟩).length = n := ⟨_, rfl⟩
    have hn4 : n ≤ 4096 := by rw [← hn]; exact HLE.out H0.out
    have HN := Lib.hid hn
    clear hn
    go_wp2_with fail
    refine (CW.out H0.out w1 HB1.out).mono ?_
    rintro e w2 hg
    obtain ⟨g, c, rfl, ho, hb, hbb⟩ := gives_on hg HB1.out HN.out
    clear hg hc0 hc1 hc2 hc3 hc4 hc5 hc6
    go_wp2
    go_ret
    exact says_mk H0.out.symm hb.out
  · have h1 : (ev != 0) = true := by simpa using h0
    go_wp2
    go_ret
    exact says_mk rfl HB1.out
/-- What Bytes gives: the bytes and no error, or none and the error. -/
def GivesBytes (w : World) (ev : Int) (L : List Nat) (e : Ending) (w' : World) : Prop :=
  (ev = 0 ∧ ∃ g c, e = .returned (.tuple #[.slice (some ⟨g, 0, none⟩) L.length c, .int .i64 0]) ∧ w'.ownsRow w.heap.size 5 1 (.slice (some ⟨g, 0, none⟩) L.length c) L.length (vals L) ∧ Below w.heap.size w w') ∨
  (ev ≠ 0 ∧ e = .returned (.tuple #[.slice none 0 0, .int .i64 ev]) ∧ Below w.heap.size w w')
theorem gives_bytes {w w' : World} {ev : Int} {L : List Nat} {g c : Nat} (h : ev = 0) (h1 : w'.ownsRow w.heap.size 5 1 (.slice (some ⟨g, 0, none⟩) L.length c) L.length (vals L)) (h2 : Below w.heap.size w w') : GivesBytes w ev L (.returned (.tuple #[.slice (some ⟨g, 0, none⟩) L.length c, .int .i64 0])) w' := .inl ⟨h, g, c, rfl, h1, h2⟩
theorem gives_none {w w' : World} {ev : Int} {L : List Nat} (h : ev ≠ 0) (h2 : Below w.heap.size w w') : GivesBytes w ev L (.returned (.tuple #[.slice none 0 0, .int .i64 ev])) w' := .inr ⟨h, rfl, h2⟩
theorem refBytes_any (w : World) (b : Bat) (ad : Option Addr) (len cap : Nat) (hr : RecsAt w ad len cap b.recs) (ht : TextsOk b.recs) (hL : len ≤ 140737488355328) (hp : b.prod ≤ 9223372036854775807) :
    Calls Tryz.prog 118 #[.agg #[.int .i64 b.base, .int .i64 b.prod, .int .i64 b.epoch, .int .i64 b.seq, .bool b.txn, .int .i64 b.marker, .slice ad len cap]] w (GivesBytes w (rightE b) (bytesB b)) := by
  have CP : Hid (∀ W, Below w.heap.size w W → Calls Tryz.prog 56 #[.agg #[.int .i64 b.base, .int .i64 b.prod, .int .i64 b.epoch, .int .i64 b.seq, .bool b.txn, .int .i64 b.marker, .slice ad len cap]] W (Says (rightE b) W)) := fun W hW => refRight_any W b ad len cap (hr.keep hW) ht hL hp
  have CW : Hid (rightE b = 0 → ∀ W, Below w.heap.size w W → Calls Tryz.prog 93 #[.agg #[.int .i64 b.base, .int .i64 b.prod, .int .i64 b.epoch, .int .i64 b.seq, .bool b.txn, .int .i64 b.marker, .slice ad len cap]] W (GivesRow W (bytesB b))) :=
    fun h W hW => write_any W b ad len cap (hr.keep hW) (ok_of h) hp
  obtain ⟨ev, hev⟩ : ∃ ev, ev = rightE b := ⟨_, rfl⟩
  rw [← hev] at CP CW ⊢
  obtain ⟨L, hLL⟩ : ∃ L, L = bytesB b := ⟨_, rfl⟩
  rw [← hLL] at CW ⊢
  clear hev hr ht hp hLL hL
  obtain ⟨base, prod, epoch, seq, txn, marker, recs⟩ := b
  simp only at CP CW ⊢
  obtain ⟨W0, hW0⟩ : ∃ W0, W0 = (w.alloc (.cells #[.int .i64 base, .int .i64 prod, .int .i64 epoch, .int .i64 seq, .bool txn, .int .i64 marker, .slice ad len cap] 56)) := ⟨_, rfl⟩
  have hs0 : W0.heap.size = w.heap.size + 1 := by rw [hW0]; simp
  have HX := Lib.hid (show BoxAt W0 w.heap.size base prod epoch seq txn marker (.slice ad len cap) by rw [hW0]; exact boxAt_new w _ _ _ _ _ _ _)
  have HB := Lib.hid (show Below w.heap.size w W0 by rw [hW0]; exact (Below.refl _ _).alloc (Nat.le_refl _) _)
  have HW0 := Lib.hid hW0
  clear hW0
  go_enter Tryz.func118, Tryz.ntmps118
  go_wp2_with fail
  rw [← HW0.out]
  refine (CP.out W0 HB.out).mono ?_
  rintro e w1 ⟨rfl, hb⟩
  have HX1 := Lib.hid (HX.out.on hb)
  have HB1 := Lib.hid (HB.out.trans (hb.mono HB.out.size))
  clear hb
  by_cases h0 : ev = 0
  · have h1 : (ev != 0) = false := by simpa using h0
    have H0 := Lib.hid h0
    clear h0
    have hc0 := HX1.out.c0
    have hc1 := HX1.out.c1
    have hc2 := HX1.out.c2
    have hc3 := HX1.out.c3
    have hc4 := HX1.out.c4
    have hc5 := HX1.out.c5
    have hc6 := HX1.out.c6
    go_wp2_with fail
    refine (CW.out H0.out w1 HB1.out).mono ?_
    rintro e w2 hg
    obtain ⟨g, c, rfl, ho, hb, hbb⟩ := gives_on hg HB1.out rfl
    clear hg hc0 hc1 hc2 hc3 hc4 hc5 hc6
    go_wp2
    go_ret2
    exact gives_bytes H0.out ho.out hb.out
  · have h1 : (ev != 0) = true := by simpa using h0
    have H0 := Lib.hid h0
    clear h0
    go_wp2
    go_ret2
    exact gives_none H0.out HB1.out
theorem refSize_any (w : World) (b : Bat) (ad : Option Addr) (len cap : Nat) (hr : RecsAt w ad len cap b.recs) (ht : TextsOk b.recs) (hL : len ≤ 140737488355328) (hp : b.prod ≤ 9223372036854775807) :
    Calls Tryz.prog 89 #[.agg #[.int .i64 b.base, .int .i64 b.prod, .int .i64 b.epoch, .int .i64 b.seq, .bool b.txn, .int .i64 b.marker, .slice ad len cap]] w (Says (sizeB b) w) := by
  have CP : Hid (∀ W, Below w.heap.size w W → Calls Tryz.prog 118 #[.agg #[.int .i64 b.base, .int .i64 b.prod, .int .i64 b.epoch, .int .i64 b.seq, .bool b.txn, .int .i64 b.marker, .slice ad len cap]] W (GivesBytes W (rightE b) (bytesB b))) := fun W hW => refBytes_any W b ad len cap (hr.keep hW) ht hL hp
  have HY : Hid (rightE b = 0 → ((bytesB b).length : Int) = sizeB b) := fun h => by unfold sizeB; rw [if_pos h]
  have HN : Hid (rightE b ≠ 0 → 0 = sizeB b) := fun h => by unfold sizeB; rw [if_neg h]
  obtain ⟨P, hP⟩ : ∃ P, P = sizeB b := ⟨_, rfl⟩
  rw [← hP] at HY HN ⊢
  obtain ⟨ev, hev⟩ : ∃ ev, ev = rightE b := ⟨_, rfl⟩
  rw [← hev] at HY HN CP
  obtain ⟨L, hLL⟩ : ∃ L, L = bytesB b := ⟨_, rfl⟩
  rw [← hLL] at HY CP
  clear hev hP hr ht hp hLL hL
  obtain ⟨base, prod, epoch, seq, txn, marker, recs⟩ := b
  simp only at CP ⊢
  go_enter Tryz.func89, Tryz.ntmps89
  go_wp2_with fail
  refine (CP.out _ ((Below.refl _ _).alloc (Nat.le_refl _) _)).mono ?_
  rintro e w1 hg
  rcases hg with ⟨h, g, c, rfl, _, hb⟩ | ⟨h, rfl, hb⟩
  · have H := Lib.hid h
    have HB := Lib.hid (((Below.refl w.heap.size w).alloc (Nat.le_refl _) _).trans (hb.mono (by simp)))
    clear h hb
    go_wp2
    go_ret
    exact says_mk (HY.out H.out) HB.out
  · have H := Lib.hid h
    have HB := Lib.hid (((Below.refl w.heap.size w).alloc (Nat.le_refl _) _).trans (hb.mono (by simp)))
    clear h hb
    go_wp2
    go_ret
    exact says_mk (HN.out H.out) HB.out
theorem refCount_any (w : World) (b0 b1 b2 b3 : Int) (b4 : Bool) (b5 : Int) (ad : Option Addr) (len cap : Nat) (n : Int) (hn : (if b5 ≠ 0 then 1 else (len : Int)) = n) :
    Calls Tryz.prog 90 #[.agg #[.int .i64 b0, .int .i64 b1, .int .i64 b2, .int .i64 b3, .bool b4, .int .i64 b5, .slice ad len cap]] w (Says n w) := by
  by_cases h : b5 = 0
  · subst h
    obtain rfl : (len : Int) = n := by rw [← hn, if_neg (by decide)]
    clear hn
    go_enter Tryz.func90, Tryz.ntmps90
    go_wp2
    go_ret
    exact says_mk rfl ((Below.refl _ _).alloc (Nat.le_refl _) _)
  · have h1 : (b5 != 0) = true := by simpa using h
    obtain rfl : 1 = n := by rw [← hn, if_pos h]
    clear hn
    go_enter Tryz.func90, Tryz.ntmps90
    go_wp2
    go_ret
    exact says_mk rfl ((Below.refl _ _).alloc (Nat.le_refl _) _)
end Go.Proofs.YtgohekjkbgfeeaaGreat
/-! The code's own batch, chapter 6: offset, unowned, owned, rightMarker, rightData: which errors a batch has. -/
namespace Go.Proofs.YtgohekjkbgfeeaaGreat
open Go.RowKit
open Go.SeqMath
open Go.BatMath
set_option linter.unusedVariables false

theorem batOffset_any (n : Int) (w : World) (r : Bool) (hr : (decide (0 ≤ n) && decide (n ≤ 1099511627776)) = r) :
    Calls Tryz.prog 77 #[.int .i64 n] w fun e w' => e = .returned (.bool r) ∧ w = w' := by
  by_cases h0 : 0 ≤ n
  · by_cases h1 : n ≤ 1099511627776
    · obtain rfl : r = true := by rw [← hr]; simp [h0, h1]
      clear hr
      go_enter Tryz.func77, Tryz.ntmps77
      go_wp2
      go_ret
      exact ⟨rfl, rfl⟩
    · obtain rfl : r = false := by rw [← hr]; simp [h1]
      have h1' : 1099511627776 < n := by omega
      clear hr
      go_enter Tryz.func77, Tryz.ntmps77
      go_wp2
      go_ret
      exact ⟨rfl, rfl⟩
  · obtain rfl : r = false := by rw [← hr]; simp [h0]
    have h0' : n < 0 := by omega
    clear hr
    go_enter Tryz.func77, Tryz.ntmps77
    go_wp2
    go_ret
    exact ⟨rfl, rfl⟩
theorem batOwned_any (w : World) (b0 b1 b2 b3 : Int) (b4 : Bool) (b5 : Int) (v : Value) (r : Bool) (hr : (decide (0 ≤ b1) && (decide (0 ≤ b2) && decide (b2 ≤ 32767))) = r) :
    Calls Tryz.prog 110 #[.agg #[.int .i64 b0, .int .i64 b1, .int .i64 b2, .int .i64 b3, .bool b4, .int .i64 b5, v]] w fun e w' => e = .returned (.bool r) ∧ Below w.heap.size w w' := by
  by_cases h0 : 0 ≤ b1
  · by_cases h1 : 0 ≤ b2
    · by_cases h2 : b2 ≤ 32767
      · obtain rfl : r = true := by rw [← hr]; simp [h0, h1, h2]
        clear hr
        go_enter Tryz.func110, Tryz.ntmps110
        go_wp2
        go_ret
        exact ⟨rfl, (Below.refl _ _).alloc (Nat.le_refl _) _⟩
      · obtain rfl : r = false := by rw [← hr]; simp [h2]
        have h2' : 32767 < b2 := by omega
        clear hr
        go_enter Tryz.func110, Tryz.ntmps110
        go_wp2
        go_ret
        exact ⟨rfl, (Below.refl _ _).alloc (Nat.le_refl _) _⟩
    · obtain rfl : r = false := by rw [← hr]; simp [h1]
      have h1' : b2 < 0 := by omega
      clear hr
      go_enter Tryz.func110, Tryz.ntmps110
      go_wp2
      go_ret
      exact ⟨rfl, (Below.refl _ _).alloc (Nat.le_refl _) _⟩
  · obtain rfl : r = false := by rw [← hr]; simp [h0]
    have h0' : b1 < 0 := by omega
    clear hr
    go_enter Tryz.func110, Tryz.ntmps110
    go_wp2
    go_ret
    exact ⟨rfl, (Below.refl _ _).alloc (Nat.le_refl _) _⟩
theorem batUnowned_any (w : World) (b0 b1 b2 b3 : Int) (b4 : Bool) (b5 : Int) (v : Value) (r : Bool) (hr : (decide (b1 = -1) && (decide (b2 = -1) && (decide (b3 = -1) && !b4))) = r) :
    Calls Tryz.prog 109 #[.agg #[.int .i64 b0, .int .i64 b1, .int .i64 b2, .int .i64 b3, .bool b4, .int .i64 b5, v]] w fun e w' => e = .returned (.bool r) ∧ Below w.heap.size w w' := by
  cases h1 : (b1 == -1)
  · obtain rfl : r = false := by rw [← hr]; have : ¬ b1 = -1 := by simpa using h1
                                 simp [this]
    clear hr
    go_enter Tryz.func109, Tryz.ntmps109
    go_wp2
    go_ret
    exact ⟨rfl, (Below.refl _ _).alloc (Nat.le_refl _) _⟩
  · cases h2 : (b2 == -1)
    · obtain rfl : r = false := by rw [← hr]; have : ¬ b2 = -1 := by simpa using h2
                                   simp [this]
      clear hr
      go_enter Tryz.func109, Tryz.ntmps109
      go_wp2
      go_ret
      exact ⟨rfl, (Below.refl _ _).alloc (Nat.le_refl _) _⟩
    · cases h3 : (b3 == -1)
      · obtain rfl : r = false := by rw [← hr]; have : ¬ b3 = -1 := by simpa using h3
                                     simp [this]
        clear hr
        go_enter Tryz.func109, Tryz.ntmps109
        go_wp2
        go_ret
        exact ⟨rfl, (Below.refl _ _).alloc (Nat.le_refl _) _⟩
      · have q1 : b1 = -1 := by simpa using h1
        have q2 : b2 = -1 := by simpa using h2
        have q3 : b3 = -1 := by simpa using h3
        cases b4
        · obtain rfl : r = true := by rw [← hr]; simp [q1, q2, q3]
          clear hr q1 q2 q3
          go_enter Tryz.func109, Tryz.ntmps109
          go_wp2
          go_ret
          exact ⟨rfl, (Below.refl _ _).alloc (Nat.le_refl _) _⟩
        · obtain rfl : r = false := by rw [← hr]; simp
          clear hr q1 q2 q3
          go_enter Tryz.func109, Tryz.ntmps109
          go_wp2
          go_ret
          exact ⟨rfl, (Below.refl _ _).alloc (Nat.le_refl _) _⟩
def rmE (b : Bat) : Int := if (b.marker = 1 ∨ b.marker = 2) ∧ headB b = true ∧ b.seq = -1 ∧ b.txn = true ∧ b.recs = [] then 0 else 12
theorem rm_no {b : Bat} (h : ¬ ((b.marker = 1 ∨ b.marker = 2) ∧ headB b = true ∧ b.seq = -1 ∧ b.txn = true ∧ b.recs = [])) : rmE b = 12 := by unfold rmE; rw [if_neg h]
theorem rm_yes {b : Bat} (h : (b.marker = 1 ∨ b.marker = 2) ∧ headB b = true ∧ b.seq = -1 ∧ b.txn = true ∧ b.recs = []) : rmE b = 0 := by unfold rmE; rw [if_pos h]
set_option maxRecDepth 100000 in
theorem rightMarker_any (w : World) (b : Bat) (ad : Option Addr) (len cap : Nat) (hl : b.recs.length = len) :
    Calls Tryz.prog 79 #[.agg #[.int .i64 b.base, .int .i64 b.prod, .int .i64 b.epoch, .int .i64 b.seq, .bool b.txn, .int .i64 b.marker, .slice ad len cap]] w (Says (rmE b) w) := by
  have hne : (b.recs = []) = (len = 0) := by rw [← hl]; exact propext List.length_eq_zero_iff.symm
  have e12 := @rm_no b
  have e0 := @rm_yes b
  rw [hne] at e12 e0
  have hh : (decide (0 ≤ b.prod) && (decide (0 ≤ b.epoch) && decide (b.epoch ≤ 32767))) = headB b := rfl
  obtain ⟨hd, hdd⟩ : ∃ hd, hd = headB b := ⟨_, rfl⟩
  obtain ⟨ev, hev⟩ : ∃ ev, ev = rmE b := ⟨_, rfl⟩
  rw [← hev] at e12 e0 ⊢
  rw [← hdd] at e12 e0 hh
  clear hev hdd hne hl
  obtain ⟨base, prod, epoch, seq, txn, marker, recs⟩ := b
  simp only at e12 e0 hh ⊢
  have HH := Lib.hid hh
  have E12 := Lib.hid e12
  have E0 := Lib.hid e0
  clear hh e12 e0
  by_cases hm : marker = 1 ∨ marker = 2
  · cases hd
    · rcases hm with rfl | rfl
      all_goals
        go_enter Tryz.func79, Tryz.ntmps79
        go_wp2_with (go_at_call 110; refine (batOwned_any _ _ _ _ _ _ _ _ false HH.out).mono ?_; rintro e w1 ⟨rfl, hb⟩; obtain ⟨hc, hf⟩ := bcell hb; have HB := Lib.hid hb; clear hb)
        go_ret
        exact says_mk (E12.out (by rintro ⟨_, h, _⟩; cases h)).symm (((Below.refl _ _).alloc (Nat.le_refl _) _).trans (HB.out.mono (by simp)))
    · cases h3 : (seq == -1)
      · have h3' : ¬ seq = -1 := by simpa using h3
        have h3n : (seq != -1) = true := by simpa using h3
        have H3 := Lib.hid h3'
        clear h3'
        rcases hm with rfl | rfl
        all_goals
          go_enter Tryz.func79, Tryz.ntmps79
          go_wp2_with (go_at_call 110; refine (batOwned_any _ _ _ _ _ _ _ _ true HH.out).mono ?_; rintro e w1 ⟨rfl, hb⟩; obtain ⟨hc, hf⟩ := bcell hb; have HB := Lib.hid hb; clear hb)
          go_ret
          exact says_mk (E12.out (by rintro ⟨_, _, h, _⟩; exact H3.out h)).symm (((Below.refl _ _).alloc (Nat.le_refl _) _).trans (HB.out.mono (by simp)))
      · have h3' : seq = -1 := by simpa using h3
        have h3n : (seq != -1) = false := by simpa using h3
        have H3 := Lib.hid h3'
        clear h3'
        cases txn
        · rcases hm with rfl | rfl
          all_goals
            go_enter Tryz.func79, Tryz.ntmps79
            go_wp2_with (go_at_call 110; refine (batOwned_any _ _ _ _ _ _ _ _ true HH.out).mono ?_; rintro e w1 ⟨rfl, hb⟩; obtain ⟨hc, hf⟩ := bcell hb; have HB := Lib.hid hb; clear hb)
            go_ret
            exact says_mk (E12.out (by rintro ⟨_, _, _, h, _⟩; cases h)).symm (((Below.refl _ _).alloc (Nat.le_refl _) _).trans (HB.out.mono (by simp)))
        · by_cases hl : 0 < len
          · rcases hm with rfl | rfl
            all_goals
              go_enter Tryz.func79, Tryz.ntmps79
              go_wp2_with (go_at_call 110; refine (batOwned_any _ _ _ _ _ _ _ _ true HH.out).mono ?_; rintro e w1 ⟨rfl, hb⟩; obtain ⟨hc, hf⟩ := bcell hb; have HB := Lib.hid hb; clear hb)
              go_ret
              exact says_mk (E12.out (by rintro ⟨_, _, _, _, h⟩; omega)).symm (((Below.refl _ _).alloc (Nat.le_refl _) _).trans (HB.out.mono (by simp)))
          · obtain rfl : len = 0 := by omega
            clear hl
            rcases hm with rfl | rfl
            all_goals
              go_enter Tryz.func79, Tryz.ntmps79
              go_wp2_with (go_at_call 110; refine (batOwned_any _ _ _ _ _ _ _ _ true HH.out).mono ?_; rintro e w1 ⟨rfl, hb⟩; obtain ⟨hc, hf⟩ := bcell hb; have HB := Lib.hid hb; clear hb)
              go_ret
              exact says_mk (E0.out ⟨by decide, trivial, H3.out, trivial, trivial⟩).symm (((Below.refl _ _).alloc (Nat.le_refl _) _).trans (HB.out.mono (by simp)))
  · have hm1 : (marker != 1) = true := by simp; omega
    have hm2 : (marker != 2) = true := by simp; omega
    have HM := Lib.hid hm
    clear hm
    go_enter Tryz.func79, Tryz.ntmps79
    go_wp2
    go_ret
    exact says_mk (E12.out (by rintro ⟨h, _⟩; exact HM.out h)).symm ((Below.refl _ _).alloc (Nat.le_refl _) _)
end Go.Proofs.YtgohekjkbgfeeaaGreat

/-! The code's own batch, chapter 6: rightData: which errors data have. -/
namespace Go.Proofs.YtgohekjkbgfeeaaGreat
open Go.RowKit
open Go.SeqMath
open Go.BatMath
set_option linter.unusedVariables false

noncomputable def rdE (b : Bat) : Int :=
  if (noneB b = true ∨ headB b = true ∧ rightB b.seq = true) ∧ b.recs ≠ [] then
    open Classical in if 16 < b.recs.length ∨ ∃ r ∈ b.recs, longRec r then 13 else 0
  else 12
theorem rd_none {b : Bat} (h : ¬ ((noneB b = true ∨ headB b = true ∧ rightB b.seq = true) ∧ b.recs ≠ [])) : rdE b = 12 := by unfold rdE; rw [if_neg h]
theorem rd_long {b : Bat} (h : (noneB b = true ∨ headB b = true ∧ rightB b.seq = true) ∧ b.recs ≠ []) (hl : 16 < b.recs.length ∨ ∃ r ∈ b.recs, longRec r) : rdE b = 13 := by unfold rdE; rw [if_pos h, if_pos hl]
theorem rd_fine {b : Bat} (h : (noneB b = true ∨ headB b = true ∧ rightB b.seq = true) ∧ b.recs ≠ []) (hl : ¬ (16 < b.recs.length ∨ ∃ r ∈ b.recs, longRec r)) : rdE b = 0 := by unfold rdE; rw [if_pos h, if_neg hl]
set_option maxRecDepth 100000 in
set_option maxHeartbeats 2000000 in
theorem rightData_any (w : World) (b : Bat) (ad : Option Addr) (len cap : Nat) (hr : RecsAt w ad len cap b.recs) (ht : TextsOk b.recs) (hL : len ≤ 140737488355328) :
    Calls Tryz.prog 78 #[.agg #[.int .i64 b.base, .int .i64 b.prod, .int .i64 b.epoch, .int .i64 b.seq, .bool b.txn, .int .i64 b.marker, .slice ad len cap]] w (Says (rdE b) w) := by
  have hne : (b.recs ≠ []) = (0 < b.recs.length) := propext List.length_pos_iff.symm
  have e12 := @rd_none b
  have e13 := @rd_long b
  have e0 := @rd_fine b
  rw [hne] at e12 e13 e0
  obtain ⟨ev, hev⟩ : ∃ ev, ev = rdE b := ⟨_, rfl⟩
  rw [← hev] at e12 e13 e0 ⊢
  have hh : (decide (0 ≤ b.prod) && (decide (0 ≤ b.epoch) && decide (b.epoch ≤ 32767))) = headB b := rfl
  have hnn : (decide (b.prod = -1) && (decide (b.epoch = -1) && (decide (b.seq = -1) && !b.txn))) = noneB b := rfl
  obtain ⟨hd, hdd⟩ : ∃ hd, hd = headB b := ⟨_, rfl⟩
  obtain ⟨nn, hnd⟩ : ∃ nn, nn = noneB b := ⟨_, rfl⟩
  rw [← hdd] at e12 e13 e0 hh
  rw [← hnd] at e12 e13 e0 hnn
  clear hev hdd hnd hne
  obtain ⟨base, prod, epoch, seq, txn, marker, recs⟩ := b
  simp only at e12 e13 e0 hh hr ht hnn ⊢
  obtain ⟨rt, hrt⟩ : ∃ rt, rightB seq = rt := ⟨_, rfl⟩
  rw [hrt] at e12 e13 e0
  have hlen := hr.length
  rw [hlen] at e12 e13 e0
  have HH := Lib.hid hh
  have HRT := Lib.hid hrt
  have HN := Lib.hid hnn
  have E12 := Lib.hid e12
  have E13 := Lib.hid e13
  have E0 := Lib.hid e0
  have HR := Lib.hid hr
  have HT := Lib.hid ht
  have HLEN := Lib.hid hlen
  clear hh hrt hnn e12 e13 e0 hr ht hlen
  go_enter Tryz.func78, Tryz.ntmps78
  go_upto_region 1 with fail
  go_cut [17] from 5 (fun s17 wx => s17 = .bool (!(nn || (hd && rt))) ∧ Hid (BoxAt wx w.heap.size base prod epoch seq txn marker (.slice ad len cap)) ∧ Hid (Below w.heap.size w wx))
  case first =>
    have HB0 : Hid (Below w.heap.size w (w.alloc (.cells #[.int .i64 base, .int .i64 prod, .int .i64 epoch, .int .i64 seq, .bool txn, .int .i64 marker, .slice ad len cap] 56))) := (Below.refl _ _).alloc (Nat.le_refl _) _
    have HX0 := Lib.hid (boxAt_new w base prod epoch seq txn marker (.slice ad len cap))
    cases nn
    · cases hd
      · go_wp2_with (first | (go_at_call 109; refine (batUnowned_any _ _ _ _ _ _ _ _ false HN.out).mono ?_; rintro e w1 ⟨rfl, hb⟩; have HB1 := Lib.hid (HB0.out.trans (hb.mono HB0.out.size)); have HX1 := Lib.hid (HX0.out.on hb); clear hb; have hc0 := HX1.out.c0; have hc1 := HX1.out.c1; have hc2 := HX1.out.c2; have hc3 := HX1.out.c3; have hc4 := HX1.out.c4; have hc5 := HX1.out.c5; have hc6 := HX1.out.c6) | (go_at_call 110; refine (batOwned_any _ _ _ _ _ _ _ _ false HH.out).mono ?_; rintro e w2 ⟨rfl, hb⟩; have HB2 := Lib.hid (HB1.out.trans (hb.mono HB1.out.size)); have HX2 := Lib.hid (HX1.out.on hb); clear hb))
        go_meet
        case rel => exact ⟨by simp, HX2, HB2⟩
      · cases rt
        all_goals
          go_wp2_with (first | (go_at_call 109; refine (batUnowned_any _ _ _ _ _ _ _ _ false HN.out).mono ?_; rintro e w1 ⟨rfl, hb⟩; have HB1 := Lib.hid (HB0.out.trans (hb.mono HB0.out.size)); have HX1 := Lib.hid (HX0.out.on hb); clear hb; have hc0 := HX1.out.c0; have hc1 := HX1.out.c1; have hc2 := HX1.out.c2; have hc3 := HX1.out.c3; have hc4 := HX1.out.c4; have hc5 := HX1.out.c5; have hc6 := HX1.out.c6) | (go_at_call 110; refine (batOwned_any _ _ _ _ _ _ _ _ true HH.out).mono ?_; rintro e w2 ⟨rfl, hb⟩; have HB2 := Lib.hid (HB1.out.trans (hb.mono HB1.out.size)); have HX2 := Lib.hid (HX1.out.on hb); clear hb hc0 hc1 hc2 hc3 hc4 hc5 hc6; have hc3 := HX2.out.c3) | (go_at_call 111; refine (seq_right _ _ _ HRT.out).mono ?_; rintro e w' ⟨rfl, rfl⟩))
          go_meet
          case rel => exact ⟨by simp, HX2, HB2⟩
    · go_wp2_with (first | (go_at_call 109; refine (batUnowned_any _ _ _ _ _ _ _ _ true HN.out).mono ?_; rintro e w1 ⟨rfl, hb⟩; have HB1 := Lib.hid (HB0.out.trans (hb.mono HB0.out.size)); have HX1 := Lib.hid (HX0.out.on hb); clear hb))
      go_meet
      case rel => exact ⟨by simp, HX1, HB1⟩
  case rest =>
    obtain ⟨rfl, HBX, HBW⟩ := hcut
    obtain ⟨cnd, hcn⟩ : ∃ cnd, cnd = (nn || (hd && rt)) := ⟨_, rfl⟩
    rw [← hcn]
    cases cnd
    · have HC := Lib.hid hcn.symm
      clear hcn
      go_wp2
      go_ret
      refine says_mk (E12.out ?_).symm HBW.out
      rintro ⟨q1, q2⟩
      have hx := HC.out
      rcases q1 with q1 | ⟨q1, q3⟩
      · rw [q1] at hx; simp at hx
      · rw [q1, q3] at hx; simp at hx
    · have hcn2 : nn = true ∨ hd = true ∧ rt = true := by simpa using hcn.symm
      have HC0 := Lib.hid hcn2
      clear hcn hcn2
      have hc6 := HBX.out.c6
      by_cases hlen : len = 0
      · subst hlen
        go_wp2
        go_ret
        exact says_mk (E12.out (by rintro ⟨_, h⟩; omega)).symm HBW.out
      have hl0 : ((len : Int) == 0) = false := by simp; omega
      have HC : Hid ((nn = true ∨ hd = true ∧ rt = true) ∧ 0 < len) := ⟨HC0.out, by omega⟩
      by_cases h16 : 16 < len
      · go_wp2
        go_ret
        exact says_mk (E13.out HC.out (.inl h16)).symm HBW.out
      · have h16' : len ≤ 16 := by omega
        go_wp2_with fail
        go_loopw [29] (fun v29 wr => PlainAt w recs v29 wr) (fun v29 _ => len - (intOf v29).toNat)
        case atStart => exact plainAt_start w _ recs HBW.out
        case round =>
          obtain ⟨j, hj, rfl, hno, hbel⟩ := hrel
          have HNO := Lib.hid hno
          have HBEL := Lib.hid hbel
          rw [HLEN.out] at hj
          clear hno hbel
          by_cases hlt : j < len
          · obtain ⟨r, hrj⟩ : ∃ r, recs[j]? = some r := by
              have hjl : j < recs.length := by rw [HLEN.out]; exact hlt
              exact ⟨_, List.getElem?_eq_getElem hjl⟩
            obtain ⟨bk, off, rfl, hbk, hcell⟩ : ∃ bk off, ad = some ⟨bk, off, none⟩ ∧ bk < w.heap.size ∧ ∀ i r, recs[i]? = some r → wr.cell? ⟨bk, off + i * 2, none⟩ = some (.string r.key) ∧ wr.cell? ⟨bk, off + i * 2 + 1, none⟩ = some (.string r.val) := by
              rcases HR.out.cells with h | ⟨bk, off, e, hlt, hc⟩
              · omega
              · exact ⟨bk, off, e, hlt, fun i r hi => ⟨(HBEL.out.cell (p := ⟨bk, _, none⟩) hlt).trans (hc i r hi).1, (HBEL.out.cell (p := ⟨bk, _, none⟩) hlt).trans (hc i r hi).2⟩⟩
            obtain ⟨hk, hv⟩ := hcell j r hrj
            obtain ⟨hs1, hs2⟩ := HT.out r (List.mem_of_getElem? hrj)
            obtain ⟨ks, vs⟩ := r
            simp only at hk hv hs1 hs2
            have HRJ := Lib.hid hrj
            have HMEM : Hid ((⟨ks, vs⟩ : Rc) ∈ recs) := List.mem_of_getElem? hrj
            clear hcell hrj
            by_cases hk64 : 64 < ks.size
            · go_wp2
              go_ret
              exact says_mk (E13.out HC.out (.inr ⟨⟨ks, vs⟩, HMEM.out, .inl hk64⟩)).symm (HBEL.out.alloc HBEL.out.size _)
            · have hk64' : ks.size ≤ 64 := by omega
              by_cases hv64 : 64 < vs.size
              · go_wp2
                go_ret
                exact says_mk (E13.out HC.out (.inr ⟨⟨ks, vs⟩, HMEM.out, .inr hv64⟩)).symm (HBEL.out.alloc HBEL.out.size _)
              · have hv64' : vs.size ≤ 64 := by omega
                have HNO2 : Hid (∀ i r, i < j + 1 → recs[i]? = some r → ¬ longRec r) := by
                  intro i r hi hir
                  by_cases e : i = j
                  · subst e
                    rw [HRJ.out] at hir
                    cases hir
                    rintro (h | h)
                    · exact hk64 h
                    · exact hv64 h
                  · exact HNO.out i r (by omega) hir
                have HLE : Hid (j + 1 ≤ recs.length) := by show _ ≤ _; rw [HLEN.out]; exact hlt
                go_wp2
                go_roundw
                case rel => (repeat apply Exists.intro); exact ⟨⟨j + 1, HLE.out, by go_num, HNO2.out, HBEL.out.alloc HBEL.out.size _⟩, rfl⟩
                case measure => simp [intOf]; omega
          · obtain rfl : j = len := by omega
            go_wp2
            go_ret
            refine says_mk (E0.out HC.out ?_).symm HBEL.out
            rintro (h | h)
            · omega
            · exact not_long (by rw [HLEN.out]; exact HNO.out) h
end Go.Proofs.YtgohekjkbgfeeaaGreat

/-! The code's own batch, chapter 6: split, record, length, kind, Count. -/
namespace Go.Proofs.YtgohekjkbgfeeaaGreat
open Go.RowKit
open Go.SeqMath
open Go.BatMath hiding AllB getD_lt take_all
open Go.VarMath (longB length_longB textB beB length_beB beB_take)
set_option linter.unusedVariables false

/-- What stands before round i of split's loop. -/
def SplitAt (w : World) (K u i : Nat) (wr : World) : Prop := Own wr w.heap.size ((beB K u).take i ++ List.replicate (K - i) 0) ∧ Below w.heap.size w wr
theorem SplitAt.free {w wr : World} {K u i : Nat} (h : SplitAt w K u i wr) (j : Nat) : wr.frozen? ⟨w.heap.size, j, none⟩ = false := h.1.free j
theorem SplitAt.cell {w wr : World} {K u i : Nat} (h : SplitAt w K u i wr) (hi : i < K) : ∃ x, wr.cell? ⟨w.heap.size, i, none⟩ = some x := ⟨_, h.1.cell i (by simp [length_beB]; omega)⟩
theorem SplitAt.next {w wr : World} {K u i z : Nat} (h : SplitAt w K u i wr) (hi : i < K) (hz : z = u / 256 ^ (K - 1 - i) % 256) : SplitAt w K u (i + 1) (wr.setCell ⟨w.heap.size, i, none⟩ (.int .u8 (z : Int))) := by
  refine ⟨?_, h.2.setCell (Nat.le_refl _) _⟩
  have hs := h.1.set i z
  have e : ((beB K u).take i ++ List.replicate (K - i) 0).set i z = (beB K u).take (i + 1) ++ List.replicate (K - (i + 1)) 0 := by
    rw [beB_take i K u hi, ← hz]
    have hl : ((beB K u).take i).length = i := by rw [List.length_take, length_beB]; omega
    obtain ⟨m, hm⟩ : ∃ m, K - i = m + 1 := ⟨K - i - 1, by omega⟩
    rw [hm, show K - (i + 1) = m by omega, List.set_append_right _ _ (by omega), hl, Nat.sub_self, List.replicate_succ, List.set_cons_zero, List.append_assoc]
    rfl
  rw [e] at hs
  exact hs
theorem SplitAt.done {w wr : World} {K u : Nat} (h : SplitAt w K u K wr) (hK : K ≤ 100) : GivesRow w (beB K u) (.returned (.slice (some ⟨w.heap.size, 0, none⟩) K K)) wr := by
  have h1 := h.1
  rw [List.take_of_length_le (by rw [length_beB]; exact Nat.le_refl _), Nat.sub_self] at h1
  exact gives_row (length_beB K u) (owns_front (m := 0) (length_beB K u) h1 (Nat.le_refl _) (by unfold maxLen; omega)) h.2
set_option maxRecDepth 100000 in
theorem record_any (w : World) (ks vs : ByteArray) (h1 : ks.size ≤ 4096) (h2 : vs.size ≤ 4096) :
    Calls Tryz.prog 112 #[.agg #[.string ks, .string vs]] w (GivesRow w (recB ⟨ks, vs⟩)) := by
  have l1 := BatMath.text_len (s := bl ks) (by rw [bl_len]; omega)
  have l2 := BatMath.text_len (s := bl vs) (by rw [bl_len]; omega)
  rw [bl_len] at l1 l2
  obtain ⟨n1, hn1⟩ : ∃ n1, n1 = (textB (bl ks)).length := ⟨_, rfl⟩
  obtain ⟨n2, hn2⟩ : ∃ n2, n2 = (textB (bl vs)).length := ⟨_, rfl⟩
  rw [← hn1] at l1
  rw [← hn2] at l2
  have HN1 : Hid (([] ++ textB (bl ks)).length = n1) := by show _ = _; rw [List.nil_append, hn1]
  have HN2 : Hid ((([] ++ textB (bl ks)) ++ textB (bl vs)).length = n1 + n2) := by show _ = _; rw [List.length_append, HN1.out, hn2]
  have HA1 : Hid (AllB ([] ++ textB (bl ks))) := by show AllB _; rw [List.nil_append]; exact text_all (bl_all _) (by rw [bl_len]; omega)
  clear hn1 hn2
  obtain ⟨wx, hwx⟩ : ∃ wx, wx = w.alloc (.cells #[.string ks, .string vs] 153) := ⟨_, rfl⟩
  have hd0 : wx.cell? ⟨w.heap.size, 0, none⟩ = some (.string ks) := by rw [hwx, World.cell?, heap_alloc_new]; rfl
  have hd1 : wx.cell? ⟨w.heap.size, 1, none⟩ = some (.string vs) := by rw [hwx, World.cell?, heap_alloc_new]; rfl
  have HWX := Lib.hid hwx
  have HBX : Hid (Below w.heap.size w wx) := by show Below _ _ _; rw [hwx]; exact (Below.refl _ _).alloc (Nat.le_refl _) _
  have CT : Hid (∀ W, Below wx.heap.size wx W → Calls Tryz.prog 143 #[.slice none 0 0, .string ks] W (GivesRow W ([] ++ textB (bl ks)))) := by
    intro W hW
    exact text_any W none 0 0 [] ks ⟨Byt.nil W, fun _ => rfl⟩ (by omega)
  clear hwx
  go_enter Tryz.func112, Tryz.ntmps112
  go_upto_region 1 with fail
  rw [← HWX.out]
  go_region_held3 (fun W => Below wx.heap.size wx W ∧ W.cell? ⟨w.heap.size, 0, none⟩ = some (.string ks) ∧ W.cell? ⟨w.heap.size, 1, none⟩ = some (.string vs)) (first | exact keep_two hb6.out hd0 hd1 | exact keep_two hb5.out hd0 hd1 | exact keep_two ((Below.refl _ wx).drew) hd0 hd1) (first | (go_at_call 143; refine (text_any _ _ _ _ _ vs (owns_row ho5.out HA1.out) (by omega)).mono ?_; rintro e w6 hg; obtain ⟨g6, k6, rfl, ho6, hb6, hbb6⟩ := gives_on (w := wx) (n := n1 + n2) hg hb5.out HN2.out) | (go_at_call 143; refine (CT.out _ ?_).mono ?_; exact (And.left ‹Below wx.heap.size wx _ ∧ _›); rintro e w5 hg; obtain ⟨g5, k5, rfl, ho5, hb5, hbb5⟩ := gives_on (w := wx) (n := n1) hg (And.left ‹Below wx.heap.size wx _ ∧ _›) HN1.out))
  go_wp2
  go_ret
  exact gives_row (by rw [recB, ← HN2.out]; rfl) (by rw [recB]; exact owns_low ho6.out HBX.out.size) (HBX.out.trans (hb6.out.mono HBX.out.size))
/-- What stands before round j of length's loop. -/
def LenAt (w : World) (l : List Rc) (v3 v9 : Value) (wr : World) : Prop := ∃ j : Nat, j ≤ l.length ∧ v9 = .int .i64 j ∧ v3 = .int .i64 ((36 + (recsB (l.take j)).length : Nat) : Int) ∧ Below w.heap.size w wr
theorem lenAt_start {w W : World} {l : List Rc} (h : Below w.heap.size w W) : LenAt w l (.int .i64 36) (.int .i64 0) W := ⟨0, Nat.zero_le _, rfl, by simp [recsB], h⟩
set_option maxRecDepth 100000 in
set_option maxHeartbeats 1000000 in
theorem length_any (w : World) (b : Bat) (ad : Option Addr) (len cap : Nat) (hr : RecsAt w ad len cap b.recs) (ht : ∀ r ∈ b.recs, r.key.size ≤ 64 ∧ r.val.size ≤ 64) (hL : len ≤ 255) :
    Calls Tryz.prog 80 #[.agg #[.int .i64 b.base, .int .i64 b.prod, .int .i64 b.epoch, .int .i64 b.seq, .bool b.txn, .int .i64 b.marker, .slice ad len cap]] w (Says ((bytesB b).length : Int) w) := by
  have hbl := bytes_len b
  have hlr := hr.length
  have HR := Lib.hid hr
  have HT := Lib.hid ht
  have HLR := Lib.hid hlr
  have HBL := Lib.hid hbl
  clear hr ht hlr hbl
  obtain ⟨N, hN⟩ : ∃ N, N = (bytesB b).length := ⟨_, rfl⟩
  rw [← hN] at HBL ⊢
  clear hN
  obtain ⟨base, prod, epoch, seq, txn, marker, recs⟩ := b
  simp only at HR HT HLR HBL ⊢
  have HX := Lib.hid (boxAt_new w base prod epoch seq txn marker (.slice ad len cap))
  have HB : Hid (Below w.heap.size w (w.alloc (.cells #[.int .i64 base, .int .i64 prod, .int .i64 epoch, .int .i64 seq, .bool txn, .int .i64 marker, .slice ad len cap] 56))) := (Below.refl _ _).alloc (Nat.le_refl _) _
  go_enter Tryz.func80, Tryz.ntmps80
  go_wp2_with fail
  go_loopw [3, 9] (fun v3 v9 wr => LenAt w recs v3 v9 wr) (fun _ v9 _ => len - (intOf v9).toNat)
  case atStart => exact lenAt_start HB.out
  case round =>
    obtain ⟨j, hj, rfl, rfl, hbel⟩ := hrel
    have HBEL := Lib.hid hbel
    clear hbel
    rw [HLR.out] at hj
    have hsm : (recsB (recs.take j)).length ≤ 37740 := by
      have h1 := (recs_len (take_texts HT.out j)).2
      have h2 : (recs.take j).length ≤ 255 := by rw [List.length_take]; have := HLR.out; omega
      omega
    obtain ⟨m, hm⟩ : ∃ m, m = 36 + (recsB (recs.take j)).length := ⟨_, rfl⟩
    rw [← hm]
    have hm1 : m ≤ 40000 := by omega
    clear hsm
    by_cases hlt : j < len
    · obtain ⟨r, hrj⟩ : ∃ r, recs[j]? = some r := by
        have hjl : j < recs.length := by rw [HLR.out]; exact hlt
        exact ⟨_, List.getElem?_eq_getElem hjl⟩
      obtain ⟨bk, off, rfl, hbk, hcell⟩ : ∃ bk off, ad = some ⟨bk, off, none⟩ ∧ bk < w.heap.size ∧ ∀ i r, recs[i]? = some r → wr.cell? ⟨bk, off + i * 2, none⟩ = some (.string r.key) ∧ wr.cell? ⟨bk, off + i * 2 + 1, none⟩ = some (.string r.val) := by
        rcases HR.out.cells with h | ⟨bk, off, e, hlt, hc⟩
        · omega
        · exact ⟨bk, off, e, hlt, fun i r hi => ⟨(HBEL.out.cell (p := ⟨bk, _, none⟩) hlt).trans (hc i r hi).1, (HBEL.out.cell (p := ⟨bk, _, none⟩) hlt).trans (hc i r hi).2⟩⟩
      obtain ⟨hk, hv⟩ := hcell j r hrj
      obtain ⟨hs1, hs2⟩ := HT.out r (List.mem_of_getElem? hrj)
      have hsn := take_recs hrj
      have hrl := rec_len ⟨hs1, hs2⟩
      obtain ⟨q, hq⟩ : ∃ q, q = (recB r).length := ⟨_, rfl⟩
      have HM2 : Hid (36 + (recsB (recs.take (j + 1))).length = m + q) := by show _ = _; rw [hsn, List.length_append, hq, hm]; omega
      rw [← hq] at hrl
      have HQ := Lib.hid hq
      obtain ⟨ks, vs⟩ := r
      simp only at hk hv hs1 hs2
      have HLE : Hid (j + 1 ≤ recs.length) := by show _ ≤ _; rw [HLR.out]; exact hlt
      have HBA : Hid (Below w.heap.size w (wr.alloc (.cells #[.string ks, .string vs] 153))) := HBEL.out.alloc HBEL.out.size _
      clear hcell hrj hsn hq hm
      go_wp2_with fail
      refine (record_any _ ks vs (by omega) (by omega)).mono ?_
      rintro e w2 hg
      obtain ⟨g2, c2, rfl, _, hb2, _⟩ := gives_on hg HBA.out HQ.out.symm
      clear hg
      go_wp2
      go_roundw
      case rel => exact ⟨j + 1, HLE.out, by go_num, by rw [HM2.out]; go_num, hb2.out⟩
      case measure => simp [intOf]; omega
    · obtain rfl : j = len := by omega
      have hrl : recs.take j = recs := by rw [List.take_of_length_le (by rw [HLR.out]; exact Nat.le_refl _)]
      have HMN : Hid (m = N) := by show _ = _; rw [hm, HBL.out, hrl]
      clear hrl hm
      go_wp2
      go_ret
      exact says_mk (by rw [HMN.out]) HBEL.out
theorem batCount_any (w : World) (b0 b1 b2 b3 : Int) (b4 : Bool) (b5 : Int) (ad : Option Addr) (len cap : Nat) (n : Int) (hn : (if b5 ≠ 0 then 1 else (len : Int)) = n) :
    Calls Tryz.prog 114 #[.agg #[.int .i64 b0, .int .i64 b1, .int .i64 b2, .int .i64 b3, .bool b4, .int .i64 b5, .slice ad len cap]] w (Says n w) := by
  by_cases h : b5 = 0
  · subst h
    obtain rfl : (len : Int) = n := by rw [← hn, if_neg (by decide)]
    clear hn
    go_enter Tryz.func114, Tryz.ntmps114
    go_wp2
    go_ret
    exact says_mk rfl ((Below.refl _ _).alloc (Nat.le_refl _) _)
  · have h1 : (b5 != 0) = true := by simpa using h
    obtain rfl : 1 = n := by rw [← hn, if_pos h]
    clear hn
    go_enter Tryz.func114, Tryz.ntmps114
    go_wp2
    go_ret
    exact says_mk rfl ((Below.refl _ _).alloc (Nat.le_refl _) _)
end Go.Proofs.YtgohekjkbgfeeaaGreat

/-! The code's own batch, chapter 6: Right, Size. -/
namespace Go.Proofs.YtgohekjkbgfeeaaGreat
open Go.RowKit
open Go.SeqMath
open Go.BatMath hiding AllB getD_lt take_all
set_option linter.unusedVariables false

theorem right_low {b : Bat} (h : ¬ (0 ≤ b.base ∧ b.base ≤ 1099511627776)) : rightE b = 18 := by
  unfold rightE; rw [if_pos (by omega)]
theorem right_rd {b : Bat} (h : 0 ≤ b.base ∧ b.base ≤ 1099511627776) (hm : b.marker = 0) : rightE b = rdE b := by
  unfold rightE rdE; rw [if_neg (by omega), if_neg (by simpa using hm)]
theorem right_rm {b : Bat} (h : 0 ≤ b.base ∧ b.base ≤ 1099511627776) (hm : b.marker ≠ 0) : rightE b = rmE b := by
  unfold rightE rmE; rw [if_neg (by omega), if_pos hm]
set_option maxRecDepth 100000 in
theorem batRight_any (w : World) (b : Bat) (ad : Option Addr) (len cap : Nat) (hr : RecsAt w ad len cap b.recs) (ht : TextsOk b.recs) (hL : len ≤ 140737488355328) :
    Calls Tryz.prog 44 #[.agg #[.int .i64 b.base, .int .i64 b.prod, .int .i64 b.epoch, .int .i64 b.seq, .bool b.txn, .int .i64 b.marker, .slice ad len cap]] w (Says (rightE b) w) := by
  have e18 := @right_low b
  have eD := @right_rd b
  have eM := @right_rm b
  have hlr := hr.length
  have CD : Hid (∀ W, Below w.heap.size w W → Calls Tryz.prog 78 #[.agg #[.int .i64 b.base, .int .i64 b.prod, .int .i64 b.epoch, .int .i64 b.seq, .bool b.txn, .int .i64 b.marker, .slice ad len cap]] W (Says (rdE b) W)) := fun W hW => rightData_any W b ad len cap (hr.keep hW) ht hL
  have CM : Hid (∀ W, Below w.heap.size w W → Calls Tryz.prog 79 #[.agg #[.int .i64 b.base, .int .i64 b.prod, .int .i64 b.epoch, .int .i64 b.seq, .bool b.txn, .int .i64 b.marker, .slice ad len cap]] W (Says (rmE b) W)) := fun W hW => rightMarker_any W b ad len cap hlr
  have CL : Hid (rightE b = 0 → ∀ W, Below w.heap.size w W → Calls Tryz.prog 80 #[.agg #[.int .i64 b.base, .int .i64 b.prod, .int .i64 b.epoch, .int .i64 b.seq, .bool b.txn, .int .i64 b.marker, .slice ad len cap]] W (Says ((bytesB b).length : Int) W)) := by
    intro h W hW
    have ho := ok_of h
    exact length_any W b ad len cap (hr.keep hW) ho.texts (by have := ho.recs; omega)
  have HLE : Hid (rightE b = 0 → (bytesB b).length ≤ 4096) := by
    intro h
    have := (ok_len (ok_of h)).1
    omega
  obtain ⟨N, hN⟩ : ∃ N, N = (bytesB b).length := ⟨_, rfl⟩
  rw [← hN] at CL HLE
  obtain ⟨ev, hev⟩ : ∃ ev, ev = rightE b := ⟨_, rfl⟩
  rw [← hev] at e18 eD eM CL HLE ⊢
  obtain ⟨dv, hdv⟩ : ∃ dv, dv = rdE b := ⟨_, rfl⟩
  rw [← hdv] at eD CD
  obtain ⟨mv, hmv⟩ : ∃ mv, mv = rmE b := ⟨_, rfl⟩
  rw [← hmv] at eM CM
  clear hev hdv hmv hN hr ht hL hlr
  obtain ⟨base, prod, epoch, seq, txn, marker, recs⟩ := b
  simp only at CD CM CL e18 eD eM ⊢
  obtain ⟨W0, hW0⟩ : ∃ W0, W0 = (w.alloc (.cells #[.int .i64 base, .int .i64 prod, .int .i64 epoch, .int .i64 seq, .bool txn, .int .i64 marker, .slice ad len cap] 56)) := ⟨_, rfl⟩
  have HX := Lib.hid (show BoxAt W0 w.heap.size base prod epoch seq txn marker (.slice ad len cap) by rw [hW0]; exact boxAt_new w _ _ _ _ _ _ _)
  have HB := Lib.hid (show Below w.heap.size w W0 by rw [hW0]; exact (Below.refl _ _).alloc (Nat.le_refl _) _)
  have HW0 := Lib.hid hW0
  clear hW0
  have E18 := Lib.hid e18
  have ED := Lib.hid eD
  have EM := Lib.hid eM
  clear e18 eD eM
  go_enter Tryz.func44, Tryz.ntmps44
  go_wp2_with fail
  rw [← HW0.out]
  by_cases hb0 : 0 ≤ base ∧ base ≤ 1099511627776
  · refine (batOffset_any base _ true (by simp [hb0])).mono ?_
    rintro e w' ⟨rfl, rfl⟩
    have hc0 := HX.out.c0
    have hc1 := HX.out.c1
    have hc2 := HX.out.c2
    have hc3 := HX.out.c3
    have hc4 := HX.out.c4
    have hc5 := HX.out.c5
    have hc6 := HX.out.c6
    go_wp2_with fail
    refine (CD.out W0 HB.out).mono ?_
    rintro e w1 ⟨rfl, hb⟩
    have HX1 := Lib.hid (HX.out.on hb)
    have HB1 := Lib.hid (HB.out.trans (hb.mono HB.out.size))
    clear hb hc0 hc1 hc2 hc3 hc4 hc5 hc6
    have hc0 := HX1.out.c0
    have hc1 := HX1.out.c1
    have hc2 := HX1.out.c2
    have hc3 := HX1.out.c3
    have hc4 := HX1.out.c4
    have hc5 := HX1.out.c5
    have hc6 := HX1.out.c6
    have hlt1 := HX1.out.lt
    have hfz : ∀ j, w1.frozen? ⟨w.heap.size, j, none⟩ = false := HX1.out.free
    by_cases hm : marker = 0
    · have hm1 : (marker != 0) = false := by simpa using hm
      obtain rfl : ev = dv := ED.out hb0 hm
      have HM := Lib.hid hm
      clear hm
      by_cases h0 : ev = 0
      · have h1 : (ev != 0) = false := by simpa using h0
        have H0 := Lib.hid h0
        have hN4 := HLE.out h0
        clear h0
        go_wp2_with fail
        refine (CL.out H0.out w1 HB1.out).mono ?_
        rintro e w2 ⟨rfl, hb⟩
        have HB2 := Lib.hid (HB1.out.trans (hb.mono HB1.out.size))
        clear hb hc0 hc1 hc2 hc3 hc4 hc5 hc6
        go_wp2
        go_ret
        exact says_mk H0.out.symm HB2.out
      · have h1 : (ev != 0) = true := by simpa using h0
        go_wp2
        go_ret
        exact says_mk rfl HB1.out
    · have hm1 : (marker != 0) = true := by simpa using hm
      obtain rfl : ev = mv := EM.out hb0 hm
      have HM := Lib.hid hm
      clear hm
      go_wp2_with fail
      refine (CM.out w1 HB1.out).mono ?_
      rintro e w2 ⟨rfl, hb⟩
      have HX2 := Lib.hid (HX1.out.on hb)
      have HB2 := Lib.hid (HB1.out.trans (hb.mono HB1.out.size))
      clear hb hc0 hc1 hc2 hc3 hc4 hc5 hc6
      have hc0 := HX2.out.c0
      have hc1 := HX2.out.c1
      have hc2 := HX2.out.c2
      have hc3 := HX2.out.c3
      have hc4 := HX2.out.c4
      have hc5 := HX2.out.c5
      have hc6 := HX2.out.c6
      by_cases h0 : ev = 0
      · have h1 : (ev != 0) = false := by simpa using h0
        have H0 := Lib.hid h0
        have hN4 := HLE.out h0
        clear h0
        go_wp2_with fail
        refine (CL.out H0.out w2 HB2.out).mono ?_
        rintro e w3 ⟨rfl, hb⟩
        have HB3 := Lib.hid (HB2.out.trans (hb.mono HB2.out.size))
        clear hb hc0 hc1 hc2 hc3 hc4 hc5 hc6
        go_wp2
        go_ret
        exact says_mk H0.out.symm HB3.out
      · have h1 : (ev != 0) = true := by simpa using h0
        go_wp2
        go_ret
        exact says_mk rfl HB2.out
  · refine (batOffset_any base _ false (by
      rcases Classical.em (0 ≤ base) with h | h
      · have : ¬ base ≤ 1099511627776 := fun h2 => hb0 ⟨h, h2⟩
        simp [this]
      · simp [h])).mono ?_
    rintro e w' ⟨rfl, rfl⟩
    have H18 := Lib.hid (E18.out hb0)
    clear hb0
    go_wp2
    go_ret
    exact says_mk H18.out.symm HB.out
end Go.Proofs.YtgohekjkbgfeeaaGreat

/-! The code's own batch, chapter 6: body: what stands under the sum of a batch that is right. -/
namespace Go.Proofs.YtgohekjkbgfeeaaGreat
open Go.RowKit
open Go.SeqMath
open Go.BatMath hiding AllB getD_lt take_all
open Go.VarMath (longB length_longB textB beB length_beB)
set_option linter.unusedVariables false

end Go.Proofs.YtgohekjkbgfeeaaGreat

/-! The code's own batch, chapter 6: Bytes. -/
namespace Go.Proofs.YtgohekjkbgfeeaaGreat
open Go.RowKit
open Go.SeqMath
open Go.BatMath hiding AllB getD_lt take_all
open Go.VarMath (longB length_longB textB beB length_beB)
open Go.CrcMath (sealB)
set_option linter.unusedVariables false

end Go.Proofs.YtgohekjkbgfeeaaGreat

/-! The code's own batch, chapter 6: Same. -/
namespace Go.Proofs.YtgohekjkbgfeeaaGreat
open Go.RowKit
open Go.SeqMath
open Go.BatMath
set_option linter.unusedVariables false

end Go.Proofs.YtgohekjkbgfeeaaGreat
/-! Plain mathematics of the code's own reader of chapter 6: what it gives is what is asked of a reader. No condition on any program. -/
namespace Go.BatMath
set_option linter.unusedVariables false
open Go.SeqMath
open Go.VarMath (textB encU longB beB unbe low64 getB scan zag val)
open Go.CrcMath (sealB okB)

/-! texts -/
/-! the records -/
/-! what stands under the sum -/
/-! a row that is one batch, as its length says -/
end Go.BatMath

/-! The code's own batch, chapter 6: join, fields: what stands under the sum, but for its records. -/
namespace Go.Proofs.YtgohekjkbgfeeaaGreat
open Go.RowKit
open Go.SeqMath
open Go.BatMath hiding AllB getD_lt take_all
open Go.VarMath (longB length_longB textB unbe)
set_option linter.unusedVariables false

end Go.Proofs.YtgohekjkbgfeeaaGreat

/-! The code's own batch, chapter 6: records. -/
namespace Go.Proofs.YtgohekjkbgfeeaaGreat
open Go.RowKit
open Go.SeqMath
open Go.BatMath hiding AllB getD_lt take_all

set_option linter.unusedVariables false

end Go.Proofs.YtgohekjkbgfeeaaGreat

/-! The code's own batch, chapter 6: opened: the batch of a row that is as long as it says. -/
namespace Go.Proofs.YtgohekjkbgfeeaaGreat
open Go.RowKit
open Go.SeqMath
open Go.BatMath hiding AllB getD_lt take_all

open Go.CrcMath (okB)
set_option linter.unusedVariables false

theorem check_any (w : World) (ad : Option Addr) (len cap : Nat) (bs : List Nat) (h : Byt w ad len cap bs) (hL : len ≤ 140737488355328) :
    Calls Tryz.prog 39 #[.slice ad len cap] w fun e w' => (okB bs = false → e = .returned (.tuple #[.slice none 0 0, .bool false]) ∧ Below w.heap.size w w') ∧
      (okB bs = true → ∃ g m, 4 + m = len ∧ e = .returned (.tuple #[.slice (some ⟨g, 0, none⟩) m m, .bool true]) ∧ w.heap.size ≤ g ∧ Own w' g (bs.drop 4) ∧ Below w.heap.size w w') := by
  by_cases h4 : len < 4
  · refine (check_short w ad len cap bs h h4).mono ?_
    rintro e w' ⟨rfl, n, rfl⟩
    exact ⟨fun _ => ⟨rfl, below_drewN (Below.refl _ _) n⟩, fun hk => by rw [CrcMath.okB_short (by rw [h.length]; exact h4)] at hk; cases hk⟩
  · refine (check_long w ad len cap bs h (by omega) hL).mono ?_
    rintro e w' ⟨h1, h2⟩
    refine ⟨h1, fun hk => ?_⟩
    obtain ⟨g, rfl, a, b, c⟩ := h2 hk
    exact ⟨g, len - 4, by omega, rfl, a, b, c⟩
end Go.Proofs.YtgohekjkbgfeeaaGreat

/-! The code's own batch, chapter 6: Read. -/
namespace Go.Proofs.YtgohekjkbgfeeaaGreat
open Go.RowKit
open Go.SeqMath
open Go.BatMath hiding AllB getD_lt take_all
open Go.VarMath (unbe)
set_option linter.unusedVariables false

end Go.Proofs.YtgohekjkbgfeeaaGreat

/-! The code's own batch, chapter 6: Rebase. -/
namespace Go.Proofs.YtgohekjkbgfeeaaGreat
open Go.RowKit
open Go.SeqMath
open Go.BatMath hiding AllB getD_lt take_all
open Go.VarMath (longB length_longB)
set_option linter.unusedVariables false

end Go.Proofs.YtgohekjkbgfeeaaGreat
namespace Go.Proofs.YtgohekjkbgfeeaaGreat
open Go.RowKit
set_option linter.unusedVariables false

/-- 'Within' from 0 on gives a place up to the last one. -/
theorem within_in (n hi : Int) (w : World) (h0 : 0 ≤ n) (h1 : n ≤ hi) : Calls Tryz.prog 16 #[.int .i64 n, .int .i64 0, .int .i64 hi] w fun e w' => e = .returned (.int .i64 n) ∧ w = w' := by
  go_enter Tryz.func16, Tryz.ntmps16
  go_wp2
  go_ret
  exact ⟨rfl, rfl⟩
theorem as_nat {X hi : Int} {w : World} (h0 : 0 ≤ X) (h1 : X ≤ hi) : ∃ k : Nat, Ending.returned (.int .i64 X) = .returned (.int .i64 k) ∧ (k : Int) ≤ hi ∧ w = w :=
  ⟨X.toNat, by rw [Int.toNat_of_nonneg h0], by omega, rfl⟩
theorem within_any (n hi : Int) (w : World) (hn : -9223372036854775808 ≤ n ∧ n ≤ 9223372036854775807) (hh : 0 ≤ hi ∧ hi ≤ 281474976710656) :
    Calls Tryz.prog 16 #[.int .i64 n, .int .i64 0, .int .i64 hi] w fun e w' => ∃ k : Nat, e = .returned (.int .i64 k) ∧ (k : Int) ≤ hi ∧ w = w' := by
  by_cases h : 0 ≤ n ∧ n ≤ hi
  · refine (within_in n hi w h.1 h.2).mono ?_
    rintro e w' ⟨rfl, rfl⟩
    exact ⟨n.toNat, by rw [Int.toNat_of_nonneg h.1], by omega, rfl⟩
  · have hg : (decide (0 ≤ n) && decide (n ≤ hi)) = false := by
      simp only [Bool.and_eq_false_iff, decide_eq_false_iff_not]; omega
    have m1 : n.tmod (hi + 1) < hi + 1 := Int.tmod_lt_of_pos _ (by omega)
    have m2 : -(hi + 1) < n.tmod (hi + 1) := by
      have := Int.tmod_lt_of_pos (-n) (b := hi + 1) (by omega)
      rw [Int.neg_tmod] at this
      omega
    have m3 : n % (hi + 1) < hi + 1 := Int.emod_lt_of_pos _ (by omega)
    have m4 : 0 ≤ n % (hi + 1) := Int.emod_nonneg _ (by omega)
    go_enter Tryz.func16, Tryz.ntmps16
    go_wp2
    all_goals
      go_ret
      exact as_nat (by omega) (by omega)
end Go.Proofs.YtgohekjkbgfeeaaGreat
namespace Go.Proofs.YtgohekjkbgfeeaaGreat
open Go.RowKit
open Go.BatMath hiding AllB getD_lt take_all
set_option linter.unusedVariables false

/-- Block kt is a tape that stands at its i-th number. -/
structure TapeAt (w : World) (kt : Nat) (ad : Option Addr) (len cap i : Nat) : Prop where
  blk : w.heap[kt]? = some (.cells #[.slice ad len cap, .int .i64 (i : Int)] 67 (0, 0))
  le : i ≤ len
  big : len ≤ 140737488355328
  nums : ∀ j, j < len → ∃ b off n, ad = some ⟨b, off, none⟩ ∧ b < kt ∧ w.cell? ⟨b, off + j, none⟩ = some (.int .i64 n) ∧ In64 n
section
variable {w w' w1 w2 : World} {kt len cap i : Nat} {ad : Option Addr}
theorem TapeAt.c0 (h : TapeAt w kt ad len cap i) : w.cell? ⟨kt, 0, none⟩ = some (.slice ad len cap) := by rw [cell_of_row _ _ 0 _ _ _ h.blk]; rfl
theorem TapeAt.c1 (h : TapeAt w kt ad len cap i) : w.cell? ⟨kt, 1, none⟩ = some (.int .i64 (i : Int)) := by rw [cell_of_row _ _ 1 _ _ _ h.blk]; rfl
theorem TapeAt.free (h : TapeAt w kt ad len cap i) (j : Nat) : w.frozen? ⟨kt, j, none⟩ = false := frozen_of_row w kt j _ _ h.blk
theorem TapeAt.lt (h : TapeAt w kt ad len cap i) : kt < w.heap.size := lt_of_block h.blk
theorem TapeAt.on (h : TapeAt w kt ad len cap i) (hb : Below w.heap.size w w') : TapeAt w' kt ad len cap i := by
  refine ⟨(hb.block kt h.lt).trans h.blk, h.le, h.big, fun j hj => ?_⟩
  obtain ⟨b, off, n, e, hne, hc, hn⟩ := h.nums j hj
  exact ⟨b, off, n, e, hne, (hb.cell (World.block_lt_of_cell? _ _ hc)).trans hc, hn⟩
theorem TapeAt.drewN (h : TapeAt w kt ad len cap i) (n : Nat) : TapeAt (w.drewN n) kt ad len cap i := h.on (bel_drewN (Below.refl _ _) n)
theorem TapeAt.step (h : TapeAt w kt ad len cap i) (hi : i < len) (z : Int) (hz : z = ((i + 1 : Nat) : Int)) : TapeAt (w.setCell ⟨kt, 1, none⟩ (.int .i64 z)) kt ad len cap (i + 1) := by
  subst hz
  refine ⟨box_set h.blk 1 _, hi, h.big, fun j hj => ?_⟩
  obtain ⟨b, off, n, e, hne, hc, hn⟩ := h.nums j hj
  refine ⟨b, off, n, e, hne, ?_, hn⟩
  rw [World.cell?_of_block (a := ⟨b, off + j, none⟩) (w := w)]
  · exact hc
  · show (w.heap.modify kt _)[b]? = _
    rw [Array.getElem?_modify, if_neg (by omega)]
theorem TapeAt.grow {r : Option Nat} (h : TapeAt w kt ad len cap i) (hg : w.grownBy w' r) (hr : ∀ k, r = some k → kt < k) : TapeAt w' kt ad len cap i := by
  refine ⟨(hg.block kt h.lt (fun e => by have := hr kt e.symm; omega)).trans h.blk, h.le, h.big, fun j hj => ?_⟩
  obtain ⟨b, off, n, e, hne, hc, hn⟩ := h.nums j hj
  exact ⟨b, off, n, e, hne, hg.cell hc (fun e => by have := hr b e.symm; omega), hn⟩
theorem OwnRecs.tape {base : Nat} {v : Value} {l : List Rc} (h : OwnRecs w base v l) (hg : w.grownBy w' (some kt)) (hk : kt < base) : OwnRecs w' base v l := by
  refine ⟨h.1, ?_⟩
  rcases h.2 with hn | ⟨g, cap, cur, rfl, hbg, hh, r⟩
  · exact .inl hn
  · exact .inr ⟨g, cap, cur, rfl, hbg, (hg.block g (lt_of_block hh) (fun e => by have := Option.some.inj e; omega)).trans hh, r⟩
theorem RecsAt.tape {cap2 : Nat} {a : Option Addr} {l : List Rc} {n : Nat} (h : RecsAt w a n cap2 l) (hg : w.grownBy w' (some kt)) (hk : ∀ x, a = some x → x.block ≠ kt) : RecsAt w' a n cap2 l := by
  refine ⟨h.length, h.fits, h.room, ?_⟩
  rcases h.cells with h0 | ⟨b, off, e, hlt, hc⟩
  · exact .inl h0
  · refine .inr ⟨b, off, e, Nat.lt_of_lt_of_le hlt hg.size, fun i r hi => ?_⟩
    have hne : b ≠ kt := hk _ e
    obtain ⟨c1, c2⟩ := hc i r hi
    exact ⟨hg.cell c1 (fun e => hne (Option.some.inj e)), hg.cell c2 (fun e => hne (Option.some.inj e))⟩
theorem BoxAt.tape {k : Nat} {b0 b1 b2 b3 : Int} {b4 : Bool} {b5 : Int} {v : Value} (h : BoxAt w k b0 b1 b2 b3 b4 b5 v) (hg : w.grownBy w' (some kt)) (hk : k ≠ kt) : BoxAt w' k b0 b1 b2 b3 b4 b5 v := by
  unfold BoxAt at *
  rw [hg.block k (lt_of_block h) (fun e => hk (Option.some.inj e))]
  exact h
end
/-- A number of 0 to n - 1. -/
def GivesNext (w : World) (kt : Nat) (ad : Option Addr) (len cap : Nat) (n : Int) (e : Ending) (w' : World) : Prop :=
  ∃ (v : Int) (i : Nat), e = .returned (.int .i64 v) ∧ 0 ≤ v ∧ v < n ∧ TapeAt w' kt ad len cap i ∧ w.grownBy w' (some kt)
theorem gives_next {w w' : World} {kt : Nat} {ad : Option Addr} {len cap i : Nat} {n v : Int} (h0 : 0 ≤ v) (h1 : v < n) (ht : TapeAt w' kt ad len cap i) (hg : w.grownBy w' (some kt)) : GivesNext w kt ad len cap n (.returned (.int .i64 v)) w' := ⟨v, i, rfl, h0, h1, ht, hg⟩
set_option maxRecDepth 100000 in
set_option maxHeartbeats 2000000 in
theorem tapeNext_any (w : World) (kt : Nat) (ad : Option Addr) (len cap i : Nat) (n : Int) (h : TapeAt w kt ad len cap i) (n0 : 1 ≤ n) (n1 : n ≤ 1073741824) :
    Calls Tryz.prog 52 #[.pointer (some ⟨kt, 0, none⟩), .int .i64 n] w (GivesNext w kt ad len cap n) := by
  have H := Lib.hid h
  have hc0 := h.c0
  have hc1 := h.c1
  have hf1 := h.free 1
  have hle := h.le
  have hbig := h.big
  have hn1 : ¬ n < 1 := by omega
  have hnd : decide (n < 1) = false := by simp; omega
  by_cases hi : i < len
  · obtain ⟨b, off, z, rfl, hne, hcell, hz⟩ := h.nums i hi
    have hblt : b < w.heap.size := World.block_lt_of_cell? _ _ hcell
    have hge : decide (len ≤ i) = false := by simp; omega
    have hge2 : decide ((len : Int) ≤ (i : Int)) = false := by simp; omega
    have HC := Lib.hid hcell
    clear h hcell
    go_enter Tryz.func52, Tryz.ntmps52
    go_wp2_with fail
    go_quiet (fail)
    go_upto_region 3 with fail
    go_cut [] from 5 (fun wx => Hid (TapeAt wx kt (some ⟨b, off, none⟩) len cap (i + 1)) ∧ Hid (w.grownBy wx (some kt)))
    case first =>
      go_wp2
      go_meet
      case rel => exact ⟨(H.out.drewN _).step hi _ (by omega), grow_set (grow_drewN (grow_refl _ _) _) 1 _⟩
    case rest =>
      obtain ⟨HT, HG⟩ := hcut
      clear hc0 hc1 hf1
      have hc0 := HT.out.c0
      have hc1 : wc.cell? ⟨kt, 1, none⟩ = some (.int .i64 ((i : Int) + 1)) := HT.out.c1
      have hcx : wc.cell? ⟨b, off + i, none⟩ = some (.int .i64 z) := (World.cell?_of_block (a := ⟨b, off + i, none⟩) (HG.out.block b hblt (fun e => by have := Option.some.inj e; omega))).trans HC.out
      have hw1 : IntKind.i64.wrap ((i : Int) + 1 - 1) = (i : Int) := by rw [IntKind.wrap_i64]; omega
      have hw2 : IntKind.i64.wrap (i : Int) = (i : Int) := by rw [IntKind.wrap_i64]; omega
      have hi2 : (i : Int) < (len : Int) := by omega
      have hnz : (n == 0) = false := by simp; omega
      have hnz2 : ¬ n = 0 := by omega
      go_wp2_with fail
      go_region_held3 (fun W => Below wc.heap.size wc W ∧ W.cell? ⟨kt, 0, none⟩ = some (.slice (some ⟨b, off, none⟩) len cap) ∧ W.cell? ⟨kt, 1, none⟩ = some (.int .i64 ((i : Int) + 1)) ∧ W.cell? ⟨b, off + i, none⟩ = some (.int .i64 z)) (first | exact ‹Below _ _ _ ∧ _› | exact ⟨(Below.refl _ _).drew, hc0, hc1, hcx⟩) (first | (go_at_call 16; refine (within_any z 1073741824 _ hz (by omega)).mono ?_; rintro e w' ⟨k, rfl, hk, rfl⟩))
      go_wp2
      go_ret
      have hv1 : (k : Int).tmod n < n := Int.tmod_lt_of_pos _ (by omega)
      have hv0 : 0 ≤ (k : Int).tmod n := Int.tmod_nonneg _ (by omega)
      exact gives_next hv0 hv1 (HT.out.on (Below.refl _ _).drew) (grow_below HG.out (Below.refl _ _).drew)
  · obtain rfl : i = len := by omega
    have hge : decide (i ≤ i) = true := by simp
    have hge2 : decide ((i : Int) ≤ (i : Int)) = true := by simp
    clear h
    go_enter Tryz.func52, Tryz.ntmps52
    go_wp2_with fail
    go_quiet (fail)
    go_wp2
    go_ret
    exact gives_next (by omega) (by omega) (H.out.drewN _) (grow_drewN (grow_refl _ _) _)
/-- A short text. -/
def GivesText (w : World) (kt : Nat) (ad : Option Addr) (len cap : Nat) (e : Ending) (w' : World) : Prop :=
  ∃ (s : ByteArray) (i : Nat), e = .returned (.string s) ∧ s.size ≤ 64 ∧ TapeAt w' kt ad len cap i ∧ w.grownBy w' (some kt)
def shorts : List ByteArray := [⟨#[]⟩, ⟨#[97]⟩, ⟨#[107, 101, 121]⟩, ⟨#[228, 184, 150]⟩, ⟨#[116, 119, 111, 32, 119, 111, 114, 100, 115]⟩, ⟨#[98, 255]⟩, ⟨#[107, 50]⟩, ⟨#[61]⟩, ⟨#[97, 10, 98]⟩]
theorem shorts_size : ∀ s ∈ shorts, s.size ≤ 64 := by decide
set_option maxRecDepth 100000 in
set_option maxHeartbeats 2000000 in
theorem tapeText_any (w : World) (kt : Nat) (ad : Option Addr) (len cap i : Nat) (h : TapeAt w kt ad len cap i) :
    Calls Tryz.prog 116 #[.pointer (some ⟨kt, 0, none⟩)] w (GivesText w kt ad len cap) := by
  have HT := Lib.hid (h.on ((Below.refl w.heap.size w).alloc (Nat.le_refl _) (.cells (shorts.map Value.string).toArray 9)))
  have hrow : (w.alloc (.cells (shorts.map Value.string).toArray 9)).heap[w.heap.size]? = some (.cells (shorts.map Value.string).toArray 9 (0, 0)) := heap_alloc_new w _
  have HR := Lib.hid hrow
  have hne : w.heap.size ≠ kt := by have := h.lt; omega
  clear h hrow
  go_enter Tryz.func116, Tryz.ntmps116
  go_wp2_with fail
  refine (tapeNext_any _ kt ad len cap i 9 HT.out (by omega) (by omega)).mono ?_
  rintro e w1 ⟨v, i1, rfl, v0, v1, ht1, hg1⟩
  obtain ⟨k, rfl⟩ : ∃ k : Nat, v = (k : Int) := ⟨v.toNat, by omega⟩
  have hk9 : k < 9 := by omega
  obtain ⟨s, hs⟩ : ∃ s, shorts[k]? = some s := ⟨_, List.getElem?_eq_getElem hk9⟩
  have hcell : w1.cell? ⟨w.heap.size, k, none⟩ = some (.string s) := by
    have hb := (hg1.block w.heap.size (lt_of_block HR.out) (fun e => hne (Option.some.inj e))).trans HR.out
    rw [cell_of_row _ _ _ _ _ _ hb]
    simp [hs]
  have HS : Hid (s.size ≤ 64) := shorts_size s (List.mem_of_getElem? hs)
  have HG : Hid (w.grownBy w1 (some kt)) := grow_trans (grow_alloc (grow_refl _ _) _) hg1
  have HT1 := Lib.hid ht1
  clear hs hg1 ht1
  go_wp2
  go_ret
  exact ⟨s, i1, rfl, HS.out, HT1.out, HG.out⟩
theorem int_eq {a b : Int} (h : a = b) : Value.int .i64 a = .int .i64 b := by rw [h]
/-- One to most records, short ones, in new memory. -/
def GivesRecs (w : World) (kt : Nat) (ad : Option Addr) (len cap : Nat) (most : Nat) (e : Ending) (w' : World) : Prop :=
  ∃ (l : List Rc) (v : Value) (i : Nat), e = .returned v ∧ OwnRecs w' w.heap.size v l ∧ 1 ≤ l.length ∧ l.length ≤ most ∧ (∀ r ∈ l, r.key.size ≤ 64 ∧ r.val.size ≤ 64) ∧ TapeAt w' kt ad len cap i ∧ w.grownBy w' (some kt)
/-- What stands before a round: so many are left. -/
def RecsLoop (w : World) (kt : Nat) (ad : Option Addr) (len cap : Nat) (n : Nat) (v5 v6 : Value) (wr : World) : Prop :=
  ∃ (l : List Rc) (j i : Nat) (u : Value), u = v5 ∧ v6 = .int .i64 j ∧ l.length + j = n ∧ OwnRecs wr w.heap.size u l ∧ (∀ r ∈ l, r.key.size ≤ 64 ∧ r.val.size ≤ 64) ∧ TapeAt wr kt ad len cap i ∧ w.grownBy wr (some kt)
set_option maxRecDepth 100000 in
set_option maxHeartbeats 2000000 in
theorem tapeRecs_any (w : World) (kt : Nat) (ad : Option Addr) (len cap i : Nat) (most : Nat) (h : TapeAt w kt ad len cap i) (m0 : 1 ≤ most) (m1 : most ≤ 1000) :
    Calls Tryz.prog 86 #[.pointer (some ⟨kt, 0, none⟩), .int .i64 (most : Int)] w (GivesRecs w kt ad len cap most) := by
  have H := Lib.hid h
  have hkt := h.lt
  clear h
  go_enter Tryz.func86, Tryz.ntmps86
  go_wp2_with fail
  refine (tapeNext_any w kt ad len cap i (most : Int) H.out (by omega) (by omega)).mono ?_
  rintro e w1 ⟨v, i1, rfl, v0, v1, ht1, hg1⟩
  obtain ⟨k, rfl⟩ : ∃ k : Nat, v = (k : Int) := ⟨v.toNat, by omega⟩
  have hkm : k < most := by omega
  have HT1 := Lib.hid ht1
  have HG1 := Lib.hid hg1
  clear ht1 hg1 v0 v1
  go_wp2_with fail
  go_loopw [5, 6] (fun v5 v6 wr => RecsLoop w kt ad len cap (k + 1) v5 v6 wr) (fun _ v6 _ => (intOf v6).toNat)
  case atStart => exact ⟨[], k + 1, i1, _, rfl, by go_num, by simp, ownRecs_nil _ _, (fun r hr => by cases hr), HT1.out, HG1.out⟩
  case round =>
    obtain ⟨l, j, i2, u, rfl, rfl, hlj, hown, hsz, ht, hg⟩ := hrel
    have HLJ := Lib.hid hlj
    have HO := Lib.hid hown
    have HS := Lib.hid hsz
    have HT := Lib.hid ht
    have HG := Lib.hid hg
    have hjb : j ≤ 1001 := by omega
    clear hlj hown hsz ht hg
    by_cases hj : 0 < j
    · go_wp2_with fail
      refine (tapeText_any wr kt ad len cap i2 HT.out).mono ?_
      rintro e w2 ⟨s1, i3, rfl, hs1, ht2, hg2⟩
      have HT2 := Lib.hid ht2
      have HG2 := Lib.hid (grow_trans HG.out hg2)
      have HO2 := Lib.hid (HO.out.tape hg2 hkt)
      clear ht2 hg2
      go_wp2_with fail
      refine (tapeText_any w2 kt ad len cap i3 HT2.out).mono ?_
      rintro e w3 ⟨s2, i4, rfl, hs2, ht3, hg3⟩
      have HT3 := Lib.hid ht3
      have HG3 := Lib.hid (grow_trans HG2.out hg3)
      have HO3 := Lib.hid (HO2.out.tape hg3 hkt)
      clear ht3 hg3
      have HGA : Hid (w.grownBy (w3.alloc (.cells #[.string s1, .string s2] 153)) (some kt)) := grow_alloc HG3.out _
      go_wp2_with (at_builtin; refine list_recs (by rfl) (.tmp 15) (.tmp 21) rfl w.heap.size l [⟨s1, s2⟩] _ rfl (HO3.out.on ((Below.refl _ _).alloc (Nat.le_refl _) _)) HGA.out.size ⟨w3.heap.size, 0, none⟩ 1 1 rfl rfl (recNews_lit w3 s1 s2 _ rfl) (by have := HLJ.out; omega) ?_)
      intro v' w4 ho4 hg4
      have hrow : ∀ k, u.ownBlock = some k → w.heap.size ≤ k := fun k hk => (HO3.out.lt k hk).1
      have HT4 := Lib.hid ((HT3.out.on ((Below.refl _ _).alloc (Nat.le_refl _) (.cells #[.string s1, .string s2] 153))).grow hg4 (fun k hk => by have := hrow k hk; omega))
      have HG4 := Lib.hid (grow_own HGA.out hg4 hrow)
      have HO4 := Lib.hid ho4
      have HLJ4 : Hid ((l ++ [(⟨s1, s2⟩ : Rc)]).length + (j - 1) = k + 1) := by show _ = _; rw [List.length_append]; have := HLJ.out; simp; omega
      have HS4 : Hid (∀ r ∈ l ++ [(⟨s1, s2⟩ : Rc)], r.key.size ≤ 64 ∧ r.val.size ≤ 64) := by
        intro r hr
        rcases List.mem_append.1 hr with hr | hr
        · exact HS.out r hr
        · rw [List.mem_singleton.1 hr]; exact ⟨hs1, hs2⟩
      clear ho4 hg4 hrow
      go_wp2
      go_roundw
      case rel => exact ⟨_, j - 1, i4, _, rfl, int_eq (by omega), HLJ4.out, HO4.out, HS4.out, HT4.out, HG4.out⟩
      case measure =>
        simp [intOf]; omega
    · obtain rfl : j = 0 := by omega
      go_wp2
      go_ret
      exact ⟨l, u, i2, rfl, HO.out, by have := HLJ.out; omega, by have := HLJ.out; omega, HS.out, HT.out, HG.out⟩
end Go.Proofs.YtgohekjkbgfeeaaGreat
