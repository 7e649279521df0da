/- The code's own batch, chapter 6: records. -/
import Derived.Test.YtlpmfhccfihnfaaBatCode8
namespace Go.Proofs.Ytlpmfhccfihnfaa
open Go.RowKit
open Go.SeqMath
open Go.BatMath hiding AllB getD_lt take_all
open Go.VarMath (cutB)
set_option linter.unusedVariables false

/-- What records gives. -/
def GivesRecords (w : World) (n : Nat) (x : List Nat) (e : Ending) (w' : World) : Prop :=
  (∃ (l : List Rc) (ad : Option Addr) (cap : Nat), recsC n x = some (l, []) ∧ e = .returned (.tuple #[.slice ad l.length cap, .bool true]) ∧ RecsAt w' ad l.length cap l ∧ (∀ a, ad = some a → w.heap.size ≤ a.block) ∧ Below w.heap.size w w') ∨
  ((∀ l, recsC n x ≠ some (l, [])) ∧ e = .returned (.tuple #[.slice none 0 0, .bool false]) ∧ Below w.heap.size w w')
theorem gives_records {w w' : World} {n m : Nat} {x : List Nat} {l : List Rc} {ad : Option Addr} {cap : Nat} (h : recsC n x = some (l, [])) (hm : l.length = m) (hr : RecsAt w' ad m cap l) (hk : ∀ a, ad = some a → w.heap.size ≤ a.block) (hb : Below w.heap.size w w') :
    GivesRecords w n x (.returned (.tuple #[.slice ad m cap, .bool true])) w' := by
  subst hm; exact .inl ⟨l, ad, cap, h, rfl, hr, hk, hb⟩
theorem gives_no_records {w w' : World} {n : Nat} {x : List Nat} (h : ∀ l, recsC n x ≠ some (l, [])) (hb : Below w.heap.size w w') : GivesRecords w n x (.returned (.tuple #[.slice none 0 0, .bool false])) w' := .inr ⟨h, rfl, hb⟩
/-- What stands before round j. -/
def RecordsAt (w : World) (bx n : Nat) (x : List Nat) (v0 v6 v12 : Value) (wr : World) : Prop :=
  ∃ (j : Nat) (l : List Rc) (p : List Nat) (o len cap : Nat) (v : Value), j ≤ n ∧ v12 = .int .i64 j ∧ v0 = .slice (some ⟨bx, o, none⟩) len cap ∧ v6 = v ∧ Byt w (some ⟨bx, o, none⟩) len cap p ∧ len ≤ 4096 ∧ l.length = j ∧ OwnRecs wr w.heap.size v l ∧
    recsC n x = (recsC (n - j) p).map (fun q => (l ++ q.1, q.2)) ∧ Below w.heap.size w wr
theorem map_nil_app2 (o : Option (List Rc × List Nat)) : o = o.map (fun q => ([] ++ q.1, q.2)) := by cases o <;> rfl
theorem recordsAt_start {w : World} {bx n o len cap : Nat} {x : List Nat} (h : Byt w (some ⟨bx, o, none⟩) len cap x) (hL : len ≤ 4096) : RecordsAt w bx n x (.slice (some ⟨bx, o, none⟩) len cap) (.slice none 0 0) (.int .i64 0) w :=
  ⟨0, [], x, o, len, cap, _, Nat.zero_le _, rfl, rfl, rfl, h, hL, rfl, ownRecs_nil _ _, map_nil_app2 _, Below.refl _ _⟩
set_option maxRecDepth 100000 in
set_option maxHeartbeats 2000000 in
theorem records_any (w : World) (bx o len cap n : Nat) (x : List Nat) (h : Byt w (some ⟨bx, o, none⟩) len cap x) (hL : len ≤ 4096) (hn : n ≤ 255) :
    Calls Try.prog 61 #[.slice (some ⟨bx, o, none⟩) len cap, .int .i64 (n : Int)] w (GivesRecords w n x) := by
  have HX := Lib.hid h
  clear h
  go_enter Try.func61, Try.ntmps61
  go_wp2_with fail
  go_loopw [0, 6, 12] (fun v0 v6 v12 wr => RecordsAt w bx n x v0 v6 v12 wr) (fun _ _ v12 _ => n - (intOf v12).toNat)
  case atStart => exact recordsAt_start HX.out hL
  case round =>
    clear HX
    obtain ⟨j, l, p, o, len, cap, v, hj, rfl, rfl, rfl, hbyt, hlen, hl, hown, hdec, hbel⟩ := hrel
    have HLJ := Lib.hid hl
    have HO := Lib.hid hown
    have HD := Lib.hid hdec
    have HB := Lib.hid hbel
    have HP := Lib.hid hbyt
    have HPL := Lib.hid hbyt.length
    clear hl hown hdec hbel hbyt
    by_cases hlt : j < n
    · obtain ⟨a, ha⟩ : ∃ a, a = (cutB p 64).1 := ⟨_, rfl⟩
      obtain ⟨k, hk⟩ : ∃ a, a = (cutB p 64).2 := ⟨_, rfl⟩
      have hkl : k ≤ len := by
        have := cutB_le p 64
        rw [HPL.out, ← hk] at this
        exact this
      obtain ⟨o1, c1, hsl1, hB1⟩ := from_lit HP.out k (k : Int) rfl hkl
      obtain ⟨a2, ha2⟩ : ∃ a, a = (cutB (p.drop k) 64).1 := ⟨_, rfl⟩
      obtain ⟨k2, hk2⟩ : ∃ a, a = (cutB (p.drop k) 64).2 := ⟨_, rfl⟩
      have hk2l : k + k2 ≤ len := by
        have := cutB_le (p.drop k) 64
        rw [List.length_drop, HPL.out, ← hk2] at this
        omega
      obtain ⟨o2, c2, hsl2, hB2⟩ := from_lit HP.out (k + k2) ((k : Int) + (k2 : Int)) (by omega) hk2l
      obtain ⟨s1, hs1'⟩ : ∃ s, s = sb a := ⟨_, rfl⟩
      obtain ⟨s2, hs2'⟩ : ∃ s, s = sb a2 := ⟨_, rfl⟩
      have C1 : Hid (∀ W, Below w.heap.size w W → Calls Try.prog 76 #[.slice (some ⟨bx, o, none⟩) len cap, .int .i64 64] W fun e w' => e = .returned (.tuple #[.string s1, .int .i64 (k : Int)]) ∧ Below W.heap.size W w') := by
        intro W hW
        have := cut_any W _ _ _ _ 64 (HP.out.keep hW (Nat.le_refl _)) (by omega) (by omega) (by omega)
        unfold GivesCut at this
        rw [← ha, ← hk] at this
        rw [hs1']
        exact this
      have C2 : Hid (∀ W, Below w.heap.size w W → Calls Try.prog 76 #[.slice (some ⟨bx, o1, none⟩) (len - k) c1, .int .i64 64] W fun e w' => e = .returned (.tuple #[.string s2, .int .i64 (k2 : Int)]) ∧ Below W.heap.size W w') := by
        intro W hW
        have := cut_any W _ _ _ _ 64 (hB1.keep hW (Nat.le_refl _)) (by omega) (by omega) (by omega)
        unfold GivesCut at this
        rw [← ha2, ← hk2] at this
        rw [hs2']
        exact this
      have hcut1 : cutB p 64 = (a, k) := by rw [ha, hk]
      have hcut2 : cutB (p.drop k) 64 = (a2, k2) := by rw [ha2, hk2]
      have hnj : n - j = n - (j + 1) + 1 := by omega
      have HFELL : Hid (k = 0 ∨ k2 = 0 → ∀ l, recsC n x ≠ some (l, [])) := by
        intro hh l
        rw [HD.out, hnj, recsC_fell hcut1 hcut2 hh]
        intro h; cases h
      have HSTEP : Hid (k ≠ 0 → k2 ≠ 0 → recsC n x = (recsC (n - (j + 1)) (p.drop (k + k2))).map (fun q => ((l ++ [⟨s1, s2⟩]) ++ q.1, q.2))) := by
        intro h1 h2
        rw [HD.out, hnj, recsC_step hcut1 hcut2 h1 h2, hs1', hs2']
        cases recsC (n - (j + 1)) (p.drop (k + k2))
        · rfl
        · simp
      have HB2 := Lib.hid hB2
      clear hB1 hB2 ha hk ha2 hk2 hs1' hs2' hcut1 hcut2 hnj
      go_wp2_with fail
      refine (C1.out _ HB.out).mono ?_
      rintro e w1 ⟨rfl, hb1⟩
      have HW1 := Lib.hid (HB.out.trans (hb1.mono HB.out.size))
      have HO1 := Lib.hid (HO.out.on hb1)
      clear hb1
      go_wp2_with fail
      refine (C2.out _ HW1.out).mono ?_
      rintro e w2 ⟨rfl, hb2⟩
      have HW2 := Lib.hid (HW1.out.trans (hb2.mono HW1.out.size))
      have HO2 := Lib.hid (HO1.out.on hb2)
      clear hb2 hsl1
      by_cases hz : k = 0 ∨ k2 = 0
      · have HF := Lib.hid (HFELL.out hz)
        rcases Nat.eq_zero_or_pos k with hk0 | hk0
        · subst hk0
          clear hz
          go_wp2
          go_ret2
          exact gives_no_records HF.out HW2.out
        · have hk20 : k2 = 0 := by omega
          subst hk20
          clear hz
          have hkb : ((k : Int) == 0) = false := by simp; omega
          go_wp2
          go_ret2
          exact gives_no_records HF.out HW2.out
      · have hk1 : ((k : Int) == 0) = false := by simp; omega
        have hk2 : ((k2 : Int) == 0) = false := by simp; omega
        have HSTEP2 := Lib.hid (HSTEP.out (by omega) (by omega))
        have hs2 := HW2.out.size
        clear hz
        go_wp2_with (at_builtin; refine list_recs (by rfl) (.tmp 32) (.tmp 36) rfl w.heap.size l [⟨s1, s2⟩] _ rfl (HO2.out.on ((Below.refl _ _).alloc (Nat.le_refl _) _)) (by simp; omega) ⟨w2.heap.size, 0, none⟩ 1 1 rfl rfl (recNews_lit w2 s1 s2 _ rfl) (by have := HLJ.out; omega) ?_)
        intro v' w3 ho3 hg3
        have HW3 : Hid (Below w.heap.size w w3) := Below.recs (HW2.out.alloc hs2 _) (HO2.out.on ((Below.refl _ _).alloc (Nat.le_refl _) _)) (Nat.le_refl _) (by simp; omega) hg3
        have HO3 := Lib.hid ho3
        have HLL : Hid ((l ++ [(⟨s1, s2⟩ : Rc)]).length = j + 1) := by show _ = _; rw [List.length_append, HLJ.out]; rfl
        clear ho3 hg3
        go_wp2
        go_roundw
        case rel => exact ⟨j + 1, _, _, _, _, _, _, hlt, by go_num, rfl, rfl, HB2.out, by omega, HLL.out, HO3.out, HSTEP2.out, HW3.out⟩
        case measure => simp [intOf]; omega
    · obtain rfl : j = n := by omega
      have HDD : Hid (recsC j x = some (l, p)) := by
        show _ = _
        rw [HD.out, Nat.sub_self]
        simp [recsC]
      by_cases h0 : len = 0
      · subst h0
        have hp0 : p = [] := List.eq_nil_of_length_eq_zero HPL.out
        subst hp0
        obtain ⟨ad', cap', rfl, hrecs, hblk⟩ := HO.out.at
        have HREC := Lib.hid hrecs
        have HBLK := Lib.hid hblk
        obtain ⟨m, hm⟩ : ∃ m, l.length = m := ⟨_, rfl⟩
        rw [hm] at HREC ⊢
        have HM := Lib.hid hm
        clear hrecs hblk hm
        go_wp2
        go_ret2
        exact gives_records HDD.out HM.out HREC.out HBLK.out HB.out
      · have hp0 : Hid (∀ l', recsC j x ≠ some (l', [])) := by
          intro l' h
          rw [HDD.out] at h
          have : p = [] := congrArg Prod.snd (Option.some.inj h)
          have h2 := HPL.out
          rw [this] at h2
          simp at h2
          omega
        have hl0 : 0 < len := by omega
        clear h0
        go_wp2
        go_ret2
        exact gives_no_records hp0.out HB.out
end Go.Proofs.Ytlpmfhccfihnfaa
