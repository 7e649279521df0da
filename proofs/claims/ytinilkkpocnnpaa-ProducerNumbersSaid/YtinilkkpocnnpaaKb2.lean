/- Parts of a proof, merged: BatPlain2, VarBase, VarSmall, VarRoomy, VarPut, VarScan, VarGet, VarRefPut, VarBack, VarRefGet, VarCut, VarLong, Keep, Keep2, VarUse, Grow, BatBits, BatRecs, Kinds, BatSame, BatInner, CrcCommon, CrcOf, CrcSeal, SeqRight, CrcRef, CrcSealed. -/
import Derived.Deep.Cut
import Derived.Deep.CutRange
import Derived.Outline
import Derived.Lib.AppendStr
import Derived.Deep.RegionWith
import Derived.Below
import Derived.Deep.RegionHeld3
import Derived.OwnWalk
import Derived.BigQuiet
import Derived.Deep.QuietTactic
import Derived.Laws.ResultCell
import Derived.Test.YtinilkkpocnnpaaRows
import Derived.WalkKit
import Derived.IntWalk
import Derived.Lib.Hide
import Derived.Test.YtinilkkpocnnpaaKb1
namespace Go.Proofs.Ytinilkkpocnnpaa
open Go.RowKit
open Go.SeqMath
open Go.BatMath
set_option linter.unusedVariables false

def TextsOk (l : List Rc) : Prop := ∀ r ∈ l, r.key.size ≤ 140737488355328 ∧ r.val.size ≤ 140737488355328
/-- What stands before round j of the loop over the records. -/
def PlainAt (w : World) (l : List Rc) (v : Value) (wr : World) : Prop := ∃ j : Nat, j ≤ l.length ∧ v = .int .i64 j ∧ (∀ i r, i < j → l[i]? = some r → ¬ longRec r) ∧ Below w.heap.size w wr
theorem plainAt_start (w W : World) (l : List Rc) (h : Below w.heap.size w W) : PlainAt w l (.int .i64 0) W := ⟨0, Nat.zero_le _, rfl, fun i r hi => by omega, h⟩
theorem not_long {l : List Rc} (h : ∀ i r, i < l.length → l[i]? = some r → ¬ longRec r) : ¬ ∃ r ∈ l, longRec r := by
  rintro ⟨r, hr, hl⟩
  obtain ⟨i, hi, rfl⟩ := List.getElem_of_mem hr
  exact h i _ hi (List.getElem?_eq_getElem hi) hl
theorem none_no {b : Bat} (h : noneB b = false) : b.prod ≠ -1 ∨ b.epoch ≠ -1 ∨ b.seq ≠ -1 ∨ b.txn = true := by
  by_cases h1 : b.prod = -1
  · by_cases h2 : b.epoch = -1
    · by_cases h3 : b.seq = -1
      · cases h4 : b.txn
        · simp [noneB, h1, h2, h3, h4] at h
        · exact .inr (.inr (.inr rfl))
      · exact .inr (.inr (.inl h3))
    · exact .inr (.inl h2)
  · exact .inl h1
set_option maxRecDepth 100000 in
set_option maxHeartbeats 2000000 in
theorem plain_data (w : World) (b : Bat) (ad : Option Addr) (cap : Nat) (hr : RecsAt w ad b.recs.length cap b.recs) (ht : TextsOk b.recs) (h0 : 0 ≤ b.base) (h1 : b.base ≤ 1099511627776) (hm : b.marker = 0) (hL : b.recs.length ≤ 140737488355328) :
    Calls Try.prog 49 #[.agg #[.int .i64 b.base, .int .i64 b.prod, .int .i64 b.epoch, .int .i64 b.seq, .bool b.txn, .int .i64 b.marker, .slice ad b.recs.length cap]] w (Says (rightE b) w) := by
  have hne : (b.recs ≠ []) = (0 < b.recs.length) := propext List.length_pos_iff.symm
  have e12 := e_data h0 h1 hm
  have e13 := e_long h0 h1 hm
  have e0 := e_fine h0 h1 hm
  rw [hne] at e12 e13 e0
  obtain ⟨ev, hev⟩ : ∃ ev, ev = rightE b := ⟨_, rfl⟩
  rw [← hev] at e12 e13 e0 ⊢
  have hh : (decide (0 ≤ b.prod) && (decide (0 ≤ b.epoch) && decide (b.epoch ≤ 32767))) = headB b := rfl
  have hnn : noneB b = true → b.prod = -1 ∧ b.epoch = -1 ∧ b.seq = -1 ∧ b.txn = false := none_of
  have hnf : noneB b = false → b.prod ≠ -1 ∨ b.epoch ≠ -1 ∨ b.seq ≠ -1 ∨ b.txn = true := none_no
  obtain ⟨hd, hdd⟩ : ∃ hd, hd = headB b := ⟨_, rfl⟩
  obtain ⟨nn, hnd⟩ : ∃ nn, nn = noneB b := ⟨_, rfl⟩
  rw [← hdd] at e12 e13 e0 hh
  rw [← hnd] at e12 e13 e0 hnn hnf
  clear hev hdd hnd hne
  obtain ⟨base, prod, epoch, seq, txn, marker, recs⟩ := b
  simp only at h0 h1 hm e12 e13 e0 hh hr ht hL hnn hnf ⊢
  obtain ⟨rt, hrt⟩ : ∃ rt, rightB seq = rt := ⟨_, rfl⟩
  rw [hrt] at e12 e13 e0
  obtain ⟨len, hlen⟩ : ∃ len, len = recs.length := ⟨_, rfl⟩
  rw [← hlen] at e12 e13 e0 hr hL ⊢
  have HH := Lib.hid hh
  have HRT := Lib.hid hrt
  have HN := Lib.hid hnn
  have HF := Lib.hid hnf
  have E12 := Lib.hid e12
  have E13 := Lib.hid e13
  have E0 := Lib.hid e0
  have HR := Lib.hid hr
  have HT := Lib.hid ht
  have HLEN := Lib.hid hlen
  clear hh hrt hnn hnf e12 e13 e0 hr ht hlen
  subst hm
  go_enter Try.func49, Try.ntmps49
  go_upto_region 7 with fail
  go_cut [3] from 6 (fun s3 wx => s3 = .bool nn ∧ Hid (BoxAt wx w.heap.size base prod epoch seq txn 0 (.slice ad len cap)) ∧ Hid (Below w.heap.size w wx))
  case first =>
    cases h1 : (prod == -1)
    · obtain rfl : nn = false := by
        cases nn
        · rfl
        · have := (HN.out rfl).1; subst this; cases h1
      go_wp2
      go_meet
      case rel => exact ⟨rfl, boxAt_new w _ _ _ _ _ _ _, (Below.refl _ _).alloc (Nat.le_refl _) _⟩
    · cases h2 : (epoch == -1)
      · obtain rfl : nn = false := by
          cases nn
          · rfl
          · have := (HN.out rfl).2.1; subst this; cases h2
        go_wp2
        go_meet
        case rel => exact ⟨rfl, boxAt_new w _ _ _ _ _ _ _, (Below.refl _ _).alloc (Nat.le_refl _) _⟩
      · cases h3 : (seq == -1)
        · obtain rfl : nn = false := by
            cases nn
            · rfl
            · have := (HN.out rfl).2.2.1; subst this; cases h3
          go_wp2
          go_meet
          case rel => exact ⟨rfl, boxAt_new w _ _ _ _ _ _ _, (Below.refl _ _).alloc (Nat.le_refl _) _⟩
        · cases txn
          · obtain rfl : nn = true := by
              cases nn
              · rcases HF.out rfl with h | h | h | h
                · exact absurd (by simpa using h1) h
                · exact absurd (by simpa using h2) h
                · exact absurd (by simpa using h3) h
                · cases h
              · rfl
            go_wp2
            go_meet
            case rel => exact ⟨rfl, boxAt_new w _ _ _ _ _ _ _, (Below.refl _ _).alloc (Nat.le_refl _) _⟩
          · obtain rfl : nn = false := by
              cases nn
              · rfl
              · have := (HN.out rfl).2.2.2; cases this
            go_wp2
            go_meet
            case rel => exact ⟨rfl, boxAt_new w _ _ _ _ _ _ _, (Below.refl _ _).alloc (Nat.le_refl _) _⟩
  case rest =>
    obtain ⟨rfl, HBX, HBW⟩ := hcut
    have hblt := HBX.out.lt
    have hc0 := HBX.out.c0
    have hc1 := HBX.out.c1
    have hc2 := HBX.out.c2
    have hc3 := HBX.out.c3
    have hc4 := HBX.out.c4
    have hc5 := HBX.out.c5
    have hc6 := HBX.out.c6
    go_upto_region 8 with fail
    go_cut [82] from 64 (fun s82 wx => s82 = .bool (!((nn || (hd && rt)) && decide (0 < len))) ∧ Hid (BoxAt wx w.heap.size base prod epoch seq txn 0 (.slice ad len cap)) ∧ Hid (Below w.heap.size w wx))
    case first =>
      cases nn
      · cases hd
        · go_wp2_with (go_at_call 64; refine (refHead_any _ _ _ _ _ _ _ _ _ _ false HH.out).mono ?_; rintro e w1 ⟨rfl, hb⟩; obtain ⟨hc, hf⟩ := bcell hb; have HB := Lib.hid hb; clear hb)
          go_meet
          case rel => exact ⟨by simp, HBX.out.on HB.out, HBW.out.trans (HB.out.mono HBW.out.size)⟩
        · cases rt
          · go_wp2_with (first | (go_at_call 64; refine (refHead_any _ _ _ _ _ _ _ _ _ _ true HH.out).mono ?_; rintro e w1 ⟨rfl, hb⟩; obtain ⟨hc, hf⟩ := bcell hb; have HB := Lib.hid hb; clear hb) | (go_at_call 61; refine (refSeq_any _ _ false HRT.out).mono ?_; rintro e w' ⟨rfl, rfl⟩))
            go_meet
            case rel => exact ⟨by simp, HBX.out.on HB.out, HBW.out.trans (HB.out.mono HBW.out.size)⟩
          · by_cases hl : 0 < len
            · have hz : ((len : Int) == 0) = false := by simp; omega
              have hz2 : decide (0 < len) = true := by simp [hl]
              have HZ2 := Lib.hid hz2
              clear hz2
              go_wp2_with (first | (go_at_call 64; refine (refHead_any _ _ _ _ _ _ _ _ _ _ true HH.out).mono ?_; rintro e w1 ⟨rfl, hb⟩; obtain ⟨hc, hf⟩ := bcell hb; have HB := Lib.hid hb; clear hb) | (go_at_call 61; refine (refSeq_any _ _ true HRT.out).mono ?_; rintro e w' ⟨rfl, rfl⟩))
              go_meet
              case rel => exact ⟨by rw [HZ2.out]; simp, HBX.out.on HB.out, HBW.out.trans (HB.out.mono HBW.out.size)⟩
            · obtain rfl : len = 0 := by omega
              clear hl
              go_wp2_with (first | (go_at_call 64; refine (refHead_any _ _ _ _ _ _ _ _ _ _ true HH.out).mono ?_; rintro e w1 ⟨rfl, hb⟩; obtain ⟨hc, hf⟩ := bcell hb; have HB := Lib.hid hb; clear hb) | (go_at_call 61; refine (refSeq_any _ _ true HRT.out).mono ?_; rintro e w' ⟨rfl, rfl⟩))
              go_meet
              case rel => exact ⟨by simp, HBX.out.on HB.out, HBW.out.trans (HB.out.mono HBW.out.size)⟩
      · by_cases hl : 0 < len
        · have hz : ((len : Int) == 0) = false := by simp; omega
          have hz2 : decide (0 < len) = true := by simp [hl]
          have HZ2 := Lib.hid hz2
          clear hz2
          go_wp2
          go_meet
          case rel => exact ⟨by rw [HZ2.out]; simp, HBX, HBW⟩
        · obtain rfl : len = 0 := by omega
          clear hl
          go_wp2
          go_meet
          case rel => exact ⟨by simp, HBX, HBW⟩
    case rest =>
      clear hc0 hc1 hc2 hc3 hc4 hc5 hc6
      obtain ⟨rfl, HBX2, HBW2⟩ := hcut
      obtain ⟨cnd, hcn⟩ : ∃ cnd, cnd = ((nn || (hd && rt)) && decide (0 < len)) := ⟨_, rfl⟩
      rw [← hcn]
      cases cnd
      · have HC := Lib.hid hcn.symm
        clear hcn
        go_wp2
        go_ret
        refine says_mk (E12.out ?_).symm HBW2.out
        rintro ⟨q1, q2⟩
        have hx := HC.out
        rcases q1 with q1 | ⟨q1, q3⟩
        · rw [q1] at hx; simp at hx; omega
        · rw [q1, q3] at hx; simp at hx; omega
      · have hcn2 : (nn = true ∨ hd = true ∧ rt = true) ∧ 0 < len := by simpa using hcn.symm
        have HC := Lib.hid hcn2
        have hlen := hcn2.2
        clear hcn hcn2
        have hc6 := HBX2.out.c6
        by_cases h16 : 16 < len
        · go_wp2
          go_ret
          exact says_mk (E13.out HC.out (.inl h16)).symm HBW2.out
        · have h16' : len ≤ 16 := by omega
          go_wp2_with fail
          go_loopw [90] (fun v90 wr => PlainAt w recs v90 wr) (fun v90 _ => len - (intOf v90).toNat)
          case atStart => exact plainAt_start w _ recs HBW2.out
          case round =>
            obtain ⟨j, hj, rfl, hno, hbel⟩ := hrel
            have HNO := Lib.hid hno
            have HBEL := Lib.hid hbel
            rw [← HLEN.out] at hj
            clear hno hbel
            by_cases hlt : j < len
            · obtain ⟨r, hrj⟩ : ∃ r, recs[j]? = some r := by
                have hjl : j < recs.length := by rw [← HLEN.out]; exact hlt
                exact ⟨_, List.getElem?_eq_getElem hjl⟩
              obtain ⟨bk, off, rfl, hbk, hcell⟩ : ∃ bk off, ad = some ⟨bk, off, none⟩ ∧ bk < w.heap.size ∧ ∀ i r, recs[i]? = some r → wr.cell? ⟨bk, off + i * 2, none⟩ = some (.string r.key) ∧ wr.cell? ⟨bk, off + i * 2 + 1, none⟩ = some (.string r.val) := by
                rcases HR.out.cells with h | ⟨bk, off, e, hlt, hc⟩
                · omega
                · exact ⟨bk, off, e, hlt, fun i r hi => ⟨(HBEL.out.cell (p := ⟨bk, _, none⟩) hlt).trans (hc i r hi).1, (HBEL.out.cell (p := ⟨bk, _, none⟩) hlt).trans (hc i r hi).2⟩⟩
              obtain ⟨hk, hv⟩ := hcell j r hrj
              obtain ⟨hs1, hs2⟩ := HT.out r (List.mem_of_getElem? hrj)
              obtain ⟨ks, vs⟩ := r
              simp only at hk hv hs1 hs2
              have HRJ := Lib.hid hrj
              have HMEM : Hid ((⟨ks, vs⟩ : Rc) ∈ recs) := List.mem_of_getElem? hrj
              clear hcell hrj
              by_cases hk64 : 64 < ks.size
              · go_wp2
                go_ret
                exact says_mk (E13.out HC.out (.inr ⟨⟨ks, vs⟩, HMEM.out, .inl hk64⟩)).symm (HBEL.out.alloc HBEL.out.size _)
              · have hk64' : ks.size ≤ 64 := by omega
                by_cases hv64 : 64 < vs.size
                · go_wp2
                  go_ret
                  exact says_mk (E13.out HC.out (.inr ⟨⟨ks, vs⟩, HMEM.out, .inr hv64⟩)).symm (HBEL.out.alloc HBEL.out.size _)
                · have hv64' : vs.size ≤ 64 := by omega
                  have HNO2 : Hid (∀ i r, i < j + 1 → recs[i]? = some r → ¬ longRec r) := by
                    intro i r hi hir
                    by_cases e : i = j
                    · subst e
                      rw [HRJ.out] at hir
                      cases hir
                      rintro (h | h)
                      · exact hk64 h
                      · exact hv64 h
                    · exact HNO.out i r (by omega) hir
                  have HLE : Hid (j + 1 ≤ recs.length) := by show _ ≤ _; rw [← HLEN.out]; exact hlt
                  go_wp2
                  go_roundw
                  case rel => (repeat apply Exists.intro); exact ⟨⟨j + 1, HLE.out, by go_num, HNO2.out, HBEL.out.alloc HBEL.out.size _⟩, rfl⟩
                  case measure => simp [intOf]; omega
            · obtain rfl : j = len := by omega
              go_wp2
              go_ret
              refine says_mk (E0.out HC.out ?_).symm HBEL.out
              rintro (h | h)
              · omega
              · exact not_long (by rw [← HLEN.out]; exact HNO.out) h
/-- Any batch whose texts are such. -/
theorem plain_any (w : World) (b : Bat) (ad : Option Addr) (cap : Nat) (hr : RecsAt w ad b.recs.length cap b.recs) (ht : TextsOk b.recs) (hL : b.recs.length ≤ 140737488355328) :
    Calls Try.prog 49 #[.agg #[.int .i64 b.base, .int .i64 b.prod, .int .i64 b.epoch, .int .i64 b.seq, .bool b.txn, .int .i64 b.marker, .slice ad b.recs.length cap]] w (Says (rightE b) w) := by
  by_cases h0 : b.base < 0
  · rw [e_low h0]
    go_enter Try.func49, Try.ntmps49
    go_wp2
    go_ret
    exact says_mk rfl ((Below.refl _ _).alloc (Nat.le_refl _) _)
  · have h0' : 0 ≤ b.base := by omega
    by_cases h1 : 1099511627776 < b.base
    · rw [e_high h1]
      go_enter Try.func49, Try.ntmps49
      go_wp2
      go_ret
      exact says_mk rfl ((Below.refl _ _).alloc (Nat.le_refl _) _)
    · by_cases hm : b.marker = 0
      · have e : (.int .i64 b.marker : Value) = .int .i64 b.marker := rfl
        exact plain_data w b ad cap hr ht h0' (by omega) hm hL
      · exact plain_mark w b ad cap hr h0' (by omega) hm
end Go.Proofs.Ytinilkkpocnnpaa
namespace Go.Proofs.Ytinilkkpocnnpaa
open Go.RowKit
open Go.VarMath hiding AllB
set_option linter.unusedVariables false

theorem wrap_u64' (n : Int) : IntKind.u64.wrap n = n % 18446744073709551616 := by simp [IntKind.wrap, IntKind.bits, IntKind.signed]
theorem u64_keep (a : Nat) (ha : a < 18446744073709551616) : bits .xor .u64 (a : Int) 0 = (a : Int) := by
  have := u64_xor_nat a 0 ha (by decide)
  rw [Nat.xor_zero] at this
  exact this
theorem u64_flip (a : Nat) (ha : a < 18446744073709551616) : bits .xor .u64 (a : Int) 18446744073709551615 = 18446744073709551615 - (a : Int) := by
  show IntKind.u64.wrap ((BitVec.ofInt 64 (a : Int) ^^^ BitVec.ofInt 64 18446744073709551615).toNat : Int) = _
  have h1 : BitVec.ofInt 64 18446744073709551615 = BitVec.allOnes 64 := by decide
  rw [h1, BitVec.xor_allOnes, BitVec.toNat_not, ofInt_u64 a ha, wrap_u64']
  omega
theorem zig_minus (n : Int) (h0 : n < 0) (h1 : -9223372036854775808 ≤ n) (a b : Int) (ha : a = n * 2 % 18446744073709551616) (hb : b = 18446744073709551615) : bits .xor .u64 a b = ((zig n : Nat) : Int) := by
  have h2 := zig_neg h0
  have h3 : a = (((18446744073709551615 - zig n : Nat)) : Int) := by omega
  have h5 := zig_lt (n := n) h1 (by omega)
  rw [h3, hb, u64_flip _ (by omega)]
  omega
theorem row_byte (W : World) (n : Nat) (hn : n < 256) : Row (W.alloc (.cells #[.int .u8 (n : Int)] 5)) (some ⟨W.heap.size, 0, none⟩) 1 1 [n] :=
  ⟨(own_new W [n]).byt (fun x hx => by simp at hx; omega) 1 (by simp), fun h => by cases h⟩
theorem wrap_u8' (n : Int) : IntKind.u8.wrap n = n % 256 := by simp [IntKind.wrap, IntKind.bits, IntKind.signed]
end Go.Proofs.Ytinilkkpocnnpaa
namespace Go.Proofs.Ytinilkkpocnnpaa
open Go.RowKit
open Go.VarMath hiding AllB
set_option linter.unusedVariables false

/-- The call gives a slice at the head of a new block of its own, which is the bytes bs. -/
def GivesRow (w : World) (bs : List Nat) (e : Ending) (w' : World) : Prop := ∃ g cap, e = .returned (.slice (some ⟨g, 0, none⟩) bs.length cap) ∧ w'.ownsRow w.heap.size 5 1 (.slice (some ⟨g, 0, none⟩) bs.length cap) bs.length (vals bs) ∧ Below w.heap.size w w'
theorem gives_row {w w' : World} {bs : List Nat} {g cap n : Nat} (hn : bs.length = n) (h : w'.ownsRow w.heap.size 5 1 (.slice (some ⟨g, 0, none⟩) n cap) n (vals bs)) (hb : Below w.heap.size w w') : GivesRow w bs (.returned (.slice (some ⟨g, 0, none⟩) n cap)) w' := by
  subst hn; exact ⟨g, cap, rfl, h, hb⟩
end Go.Proofs.Ytinilkkpocnnpaa
namespace Go.Proofs.Ytinilkkpocnnpaa
open Go.RowKit
open Go.VarMath hiding AllB
set_option linter.unusedVariables false

theorem nat_or128 : ∀ x : Fin 256, x.val ||| 128 = x.val % 128 + 128 := by decide +kernel
theorem hi7 (x : Nat) (h : x < 256) : bits .or .u8 (x : Int) 128 = ((x % 128 + 128 : Nat) : Int) := by
  have := u8_or_nat x 128 h (by decide)
  rw [nat_or128 ⟨x, h⟩] at this
  exact this
/-- What stands before a round of Put's loop: of u's groups those of f more are still to come, the bytes ahead of them stand behind bs. -/
def PutAt (w : World) (bs : List Nat) (u : Nat) (v5 v6 : Value) (wr : World) : Prop :=
  ∃ (f v g cap n : Nat) (pre : List Nat), encU u = pre ++ gr f v ∧ pre.length + f = 9 ∧ v < 2 * 128 ^ f ∧ v < 18446744073709551616 ∧ AllB pre ∧ n = bs.length + pre.length ∧
    v6 = .int .u64 v ∧ v5 = .slice (some ⟨g, 0, none⟩) n cap ∧ wr.ownsRow w.heap.size 5 1 (.slice (some ⟨g, 0, none⟩) n cap) n (vals (bs ++ pre)) ∧ Below w.heap.size w wr
theorem putAt_step {w w' : World} {bs pre : List Nat} {u f v g cap n : Nat} (hu : encU u = pre ++ gr f v) (hf : pre.length + f = 9) (h2 : v < 2 * 128 ^ f) (h6 : v < 18446744073709551616) (ha : AllB pre) (hn : n = bs.length + pre.length) (hv : 127 < v)
    (hown : w'.ownsRow w.heap.size 5 1 (.slice (some ⟨g, 0, none⟩) (n + 1) cap) (n + 1) (vals (bs ++ (pre ++ [v % 128 + 128])))) (hb : Below w.heap.size w w') :
    PutAt w bs u (.slice (some ⟨g, 0, none⟩) (n + 1) cap) (.int .u64 ((v / 128 : Nat) : Int)) w' := by
  cases f with
  | zero => simp at h2; omega
  | succ f =>
    refine ⟨f, v / 128, g, cap, n + 1, pre ++ [v % 128 + 128], ?_, by simp; omega, ?_, by omega, ?_, by simp; omega, rfl, rfl, hown, hb⟩
    · rw [hu, gr_big _ _ (by omega), List.append_assoc]; rfl
    · rw [Nat.pow_succ] at h2; omega
    · exact all_append ha (fun x hx => by simp at hx; omega)
theorem putAt_start {w wr : World} {bs : List Nat} {u g cap n : Nat} (hu : u < 18446744073709551616) (hn : bs.length = n) (hown : wr.ownsRow w.heap.size 5 1 (.slice (some ⟨g, 0, none⟩) n cap) n (vals bs)) (hb : Below w.heap.size w wr) :
    PutAt w bs u (.slice (some ⟨g, 0, none⟩) n cap) (.int .u64 (u : Int)) wr :=
  ⟨9, u, g, cap, n, [], rfl, rfl, by rw [pow9]; omega, hu, (fun x hx => by cases hx), by simp [hn], rfl, rfl, by rw [List.append_nil]; exact hown, hb⟩
theorem put_end {pre bs : List Nat} {u f v : Nat} (hu : encU u = pre ++ gr f v) (hv : ¬ 127 < v) : bs ++ (pre ++ [v]) = bs ++ encU u := by
  rw [hu, gr_small _ _ (by omega)]
theorem text_len (s : ByteArray) : ((s.size : Nat) : Int) = ((s.data.toList.map UInt8.toNat).length : Int) := by simp
def bytesS (s : ByteArray) : List Nat := s.data.toList.map UInt8.toNat
theorem length_bytesS (s : ByteArray) : (bytesS s).length = s.size := by simp [bytesS]
theorem strCells_vals (s : ByteArray) : Lib.strCells s = vals (bytesS s) := by simp [Lib.strCells, vals, bytesS, byte]
end Go.Proofs.Ytinilkkpocnnpaa
namespace Go.Proofs.Ytinilkkpocnnpaa
open Go.RowKit
open Go.VarMath hiding AllB
set_option linter.unusedVariables false

theorem zigr_pos (n : Int) (h0 : 0 ≤ n) (h1 : n ≤ 9223372036854775807) (a b : Int) (ha : a = n * 2) (hb : b = 0) : bits .xor .u64 a b = ((zig n : Nat) : Int) := by
  have h2 := zig_nonneg h0
  have h4 : a = ((zig n : Nat) : Int) := by omega
  have h5 := zig_lt (n := n) (by omega) h1
  rw [hb, h4, u64_keep _ h5]
/-- The number that the document's own Put writes, whatever its spelling. -/
theorem zigr (n : Int) (h0 : -9223372036854775808 ≤ n) (h1 : n ≤ 9223372036854775807) (a b : Int) (ha : a = n * 2 % 18446744073709551616) (hb : b = n / 9223372036854775808 % 18446744073709551616) : bits .xor .u64 a b = ((zig n : Nat) : Int) := by
  by_cases h : 0 ≤ n
  · exact zigr_pos n h h1 a b (by omega) (by omega)
  · exact zig_minus n (by omega) h0 a b ha (by omega)
set_option maxHeartbeats 400000 in
theorem refPut_any (w : World) (ad : Option Addr) (len cap : Nat) (bs : List Nat) (n : Int) (h : Row w ad len cap bs) (hL : len ≤ 140737488355300) (h0 : -9223372036854775808 ≤ n) (h1 : n ≤ 9223372036854775807) :
    Calls Try.prog 71 #[.slice ad len cap, .int .i64 n] w (GivesRow w (bs ++ encN n)) := by
  have HB := Lib.hid h
  have hu := zig_lt h0 h1
  clear h
  have HZ1 : Hid (Below w.heap.size w (w.alloc (.cells #[] 5))) := (Below.refl _ _).alloc (Nat.le_refl _) _
  go_enter Try.func71, Try.ntmps71
  go_wp2_with (at_builtin; refine append_row rfl (.tmp 7) (.tmp 8) rfl w.heap.size 0 [] _ _ rfl (own_empty w _ (Nat.le_refl _)) (some_ne _ _ _) HZ1.out.size _ _ _ rfl (HB.out.keep HZ1.out (Nat.le_refl _)) (by omega) w HZ1.out ?_)
  intro g cp w1 ho1 hb1
  have HO := Lib.hid (show w1.ownsRow w.heap.size 5 1 (.slice (some ⟨g, 0, none⟩) len cp) len (vals bs) by simpa using ho1)
  have HB1 := Lib.hid hb1
  clear ho1 hb1
  have hx : bits .xor .u64 (IntKind.u64.wrap (wrap64 (n * 2))) (IntKind.u64.wrap (n / 9223372036854775808)) = ((zig n : Nat) : Int) :=
    zigr n h0 h1 _ _ (by rw [wrap_u64']; unfold wrap64; omega) (by rw [wrap_u64'])
  obtain ⟨u, hue⟩ : ∃ u, u = zig n := ⟨_, rfl⟩
  rw [← hue] at hu hx
  have HU := Lib.hid hue
  clear hue
  go_wp2
  clear hx
  go_loopw [5, 6] (fun v5 v6 wr => PutAt w bs u v5 v6 wr) (fun _ v6 _ => (intOf v6).toNat)
  case atStart => exact putAt_start hu HB.out.len HO.out HB1.out
  case round =>
    obtain ⟨f, v, g, cap', k, pre, hu', hf, h2, h6, ha, hn, rfl, rfl, hown, hbel⟩ := hrel
    have HU' := Lib.hid hu'
    have HF := Lib.hid hf
    have HN := Lib.hid hn
    have HO' := Lib.hid hown
    have HW := Lib.hid hbel
    have HA := Lib.hid ha
    have H2 := Lib.hid h2
    have hk : k ≤ 140737488355320 := by have := HB.out.len; omega
    clear hu' hf hn hown hbel ha h2
    by_cases hv : 127 < v
    · obtain ⟨y, hy⟩ : ∃ y, y = v % 256 := ⟨_, rfl⟩
      have hwr : IntKind.u8.wrap (v : Int) = (y : Int) := by rw [wrap_u8']; omega
      have hor := hi7 y (by omega)
      have hy2 : y % 128 + 128 = v % 128 + 128 := by omega
      rw [hy2] at hor
      clear hy hy2
      obtain ⟨z, hz⟩ : ∃ z, z = v % 128 + 128 := ⟨_, rfl⟩
      rw [← hz] at hor
      have hz8 : z < 256 := by omega
      have HZ := Lib.hid hz
      clear hz
      have hge : decide ((128 : Int) ≤ (v : Int)) = true := by simp; omega
      have HW2 : Hid (Below w.heap.size w (wr.alloc (.cells #[.int .u8 (z : Int)] 5))) := HW.out.alloc HW.out.size _
      go_wp2_with (at_builtin; refine append_row rfl (.tmp 19) (.tmp 23) rfl w.heap.size k (bs ++ pre) [z] _ rfl (HO'.out.alloc _) (some_ne _ _ _) HW2.out.size _ _ _ rfl (row_byte wr z hz8) (by omega) w HW2.out ?_)
      intro g3 cp3 w3 ho3 hb3
      have HO3 := Lib.hid ho3
      have HB3 := Lib.hid hb3
      clear ho3 hb3
      go_wp2
      go_roundw
      case rel =>
        have h3 := HO3.out
        rw [HZ.out] at h3
        exact putAt_step HU'.out HF.out H2.out h6 HA.out HN.out hv h3 HB3.out
      case measure => simp [intOf]; omega
    · have hge : decide ((128 : Int) ≤ (v : Int)) = false := by simp; omega
      have hv8 : v < 256 := by omega
      have HW2 : Hid (Below w.heap.size w (wr.alloc (.cells #[.int .u8 (v : Int)] 5))) := HW.out.alloc HW.out.size _
      go_wp2_with (at_builtin; refine append_row rfl (.tmp 27) (.tmp 30) rfl w.heap.size k (bs ++ pre) [v] _ rfl (HO'.out.alloc _) (some_ne _ _ _) HW2.out.size _ _ _ rfl (row_byte wr v hv8) (by omega) w HW2.out ?_)
      intro g3 cp3 w3 ho3 hb3
      have HO3 := Lib.hid ho3
      have HB3 := Lib.hid hb3
      clear ho3 hb3
      go_wp2
      go_ret
      have h3 := HO3.out
      rw [put_end HU'.out hv, HU.out] at h3
      refine gives_row ?_ h3 HB3.out
      have := h3.1
      rw [length_vals] at this
      unfold encN; omega
set_option maxHeartbeats 400000 in
theorem refText_any (w : World) (ad : Option Addr) (len cap : Nat) (bs : List Nat) (s : ByteArray) (h : Row w ad len cap bs) (hL : len + s.size ≤ 140737488355300) :
    Calls Try.prog 66 #[.slice ad len cap, .string s] w (GivesRow w (bs ++ textB (bytesS s))) := by
  obtain ⟨i0, hi, hz0, hz1, hz2⟩ := info_parts info5
  have HB := Lib.hid h
  clear h
  go_enter Try.func66, Try.ntmps66
  go_wp2_with fail
  refine (refPut_any w ad len cap bs s.size HB.out (by omega) (by omega) (by omega)).mono ?_
  rintro e w1 ⟨g, cp, rfl, hown, hb1⟩
  have hel := enc_len (zig_lt (n := (s.size : Int)) (by omega) (by omega))
  have hl : (bs ++ encN (s.size : Int)).length ≤ len + 10 := by rw [List.length_append, HB.out.len]; unfold encN; omega
  obtain ⟨k, hk⟩ : ∃ k, k = (bs ++ encN (s.size : Int)).length := ⟨_, rfl⟩
  rw [← hk] at hown hl ⊢
  have HK := Lib.hid hk
  have HO := Lib.hid hown
  have HB1 := Lib.hid hb1
  clear hown hb1 hk hel
  go_wp2_with (at_builtin; refine Lib.wpList_append_own_string _ rfl (.tmp 8) (.tmp 9) 87 9 rfl w.heap.size 5 i0 Try.underlying87 Try.underlying9 hi hz0 hz1 hz2 _ k _ rfl HO.out s rfl (by unfold maxLen; omega) (by omega) HB1.out.size ?_)
  intro v2 w2 ho2 hgrow2 hn2
  have HB2 : Hid (Below w.heap.size w w2) := HB1.out.grown hgrow2 HB1.out.size (fun j hj => (HO.out.lt j hj).1)
  have hne : v2 ≠ .slice none 0 0 := hn2
  have HO2 : Hid (w2.ownsRow w.heap.size 5 1 v2 (k + s.size) (vals (bs ++ textB (bytesS s)))) := by
    have e : bs ++ textB (bytesS s) = (bs ++ encN (s.size : Int)) ++ bytesS s := by
      unfold textB encN
      rw [length_bytesS, zig_nat, List.append_assoc]
    rw [e, vals_append, ← strCells_vals]
    exact ho2
  clear ho2 hgrow2 hn2
  obtain ⟨g2, cp2, rfl⟩ : ∃ g cp, v2 = .slice (some ⟨g, 0, none⟩) (k + s.size) cp := by
    rcases HO2.out.2 with ⟨h, _⟩ | ⟨g, cp, cur, h, _⟩
    · exact absurd h hne
    · exact ⟨g, cp, h⟩
  clear hne
  go_wp2
  go_ret
  refine gives_row ?_ HO2.out HB2.out
  have := HO2.out.1
  rw [length_vals] at this
  omega
end Go.Proofs.Ytinilkkpocnnpaa
namespace Go.Proofs.Ytinilkkpocnnpaa
open Go.RowKit
open Go.VarMath hiding AllB
set_option linter.unusedVariables false

/-- What stands before round k of Long's loop. -/
def LongAt (w : World) (bs : List Nat) (n : Int) (k : Nat) (v5 : Value) (wr : World) : Prop :=
  ∃ (g cap m : Nat), m = bs.length + k ∧ v5 = .slice (some ⟨g, 0, none⟩) m cap ∧ wr.ownsRow w.heap.size 5 1 (.slice (some ⟨g, 0, none⟩) m cap) m (vals (bs ++ (longB n).take k)) ∧ Below w.heap.size w wr
theorem longAt_step {w w' : World} {bs : List Nat} {n : Int} {k m g cap z : Nat} (hk : k < 8) (hm : m = bs.length + k) (hz : z = low64 n / 256 ^ (7 - k) % 256)
    (hown : w'.ownsRow w.heap.size 5 1 (.slice (some ⟨g, 0, none⟩) (m + 1) cap) (m + 1) (vals (bs ++ ((longB n).take k ++ [z])))) (hb : Below w.heap.size w w') :
    LongAt w bs n (k + 1) (.slice (some ⟨g, 0, none⟩) (m + 1) cap) w' := by
  refine ⟨g, cap, m + 1, by omega, rfl, ?_, hb⟩
  have h := beB_take k 8 (low64 n) hk
  unfold longB at hown ⊢
  rw [h]
  have e : 8 - 1 - k = 7 - k := by omega
  rw [e, ← hz]
  exact hown
theorem refLong_shift (n : Int) (j : Nat) (hj : j < 8) : n / 2 ^ (8 * j) % 256 = ((low64 n / 256 ^ j % 256 : Nat) : Int) := by
  unfold low64
  rcases j with _ | _ | _ | _ | _ | _ | _ | _ | j
  all_goals first | (exfalso; omega) | (simp only [Nat.reduceMul, Nat.reduceAdd, Int.reducePow, Nat.reducePow]; omega)
set_option maxHeartbeats 400000 in
theorem refLong_any (w : World) (ad : Option Addr) (len cap : Nat) (bs : List Nat) (n : Int) (h : Row w ad len cap bs) (hL : len ≤ 140737488355300) (h0 : -9223372036854775808 ≤ n) (h1 : n ≤ 9223372036854775807) :
    Calls Try.prog 65 #[.slice ad len cap, .int .i64 n] w (GivesRow w (bs ++ longB n)) := by
  have HB := Lib.hid h
  clear h
  have HZ1 : Hid (Below w.heap.size w (w.alloc (.cells #[] 5))) := (Below.refl _ _).alloc (Nat.le_refl _) _
  go_enter Try.func65, Try.ntmps65
  go_wp2_with (at_builtin; refine append_row rfl (.tmp 7) (.tmp 8) rfl w.heap.size 0 [] _ _ rfl (own_empty w _ (Nat.le_refl _)) (some_ne _ _ _) HZ1.out.size _ _ _ rfl (HB.out.keep HZ1.out (Nat.le_refl _)) (by omega) w HZ1.out ?_)
  intro g cp w1 ho1 hb1
  have HO := Lib.hid (show w1.ownsRow w.heap.size 5 1 (.slice (some ⟨g, 0, none⟩) len cp) len (vals bs) by simpa using ho1)
  have HB1 := Lib.hid hb1
  clear ho1 hb1
  go_wp2
  go_loopw [5, 6] (fun v5 v6 wr => ∃ (k : Nat) (i : Int), k ≤ 8 ∧ i = 56 - 8 * (k : Int) ∧ v6 = .int .i64 i ∧ LongAt w bs n k v5 wr) (fun _ v6 _ => (8 + intOf v6).toNat)
  case atStart => exact ⟨0, _, by omega, by omega, rfl, g, cp, len, by rw [HB.out.len]; rfl, rfl, by simpa using HO.out, HB1.out⟩
  case round =>
    obtain ⟨k, i, hk, hi, rfl, g, cap', m, hm, rfl, hown, hbel⟩ := hrel
    have HM := Lib.hid hm
    have HO' := Lib.hid hown
    have HW := Lib.hid hbel
    have hm2 : m ≤ 140737488355308 := by have := HB.out.len; omega
    clear hm hown hbel
    by_cases hlt : k < 8
    · obtain ⟨z, hz⟩ : ∃ z, z = low64 n / 256 ^ (7 - k) % 256 := ⟨_, rfl⟩
      have hz8 : z < 256 := by omega
      obtain ⟨t, ht⟩ : ∃ t, t = 8 * (7 - k) := ⟨_, rfl⟩
      have hsh : n / 2 ^ t % 256 = (z : Int) := by rw [hz, ht]; exact refLong_shift _ _ (by omega)
      have hsh2 : IntKind.u8.wrap (n / 2 ^ t) = (z : Int) := by rw [wrap_u8', hsh]
      obtain rfl : i = (t : Int) := by omega
      have HI := Lib.hid hi
      have HZ := Lib.hid hz
      have ht2 : t ≤ 56 := by omega
      clear hz hsh hi ht
      have HW2 : Hid (Below w.heap.size w (wr.alloc (.cells #[.int .u8 (z : Int)] 5))) := HW.out.alloc HW.out.size _
      go_wp2_with (at_builtin; refine append_row rfl (.tmp 14) (.tmp 20) rfl w.heap.size m (bs ++ (longB n).take k) [z] _ rfl (HO'.out.alloc _) (some_ne _ _ _) HW2.out.size _ _ _ rfl (row_byte wr z hz8) (by omega) w HW2.out ?_)
      intro g3 cp3 w3 ho3 hb3
      have HO3 := Lib.hid ho3
      have HB3 := Lib.hid hb3
      clear ho3 hb3 hsh2
      go_wp2
      go_roundw
      case rel => exact ⟨k + 1, _, by omega, by have := HI.out; omega, rfl, longAt_step hlt HM.out HZ.out HO3.out HB3.out⟩
      case measure => simp [intOf]; omega
    · obtain rfl : k = 8 := by omega
      obtain rfl : i = -8 := by omega
      clear hi
      go_wp2
      go_ret
      have h3 := HO'.out
      rw [List.take_of_length_le (by rw [length_longB]; omega)] at h3
      refine gives_row ?_ h3 HW.out
      rw [HM.out, List.length_append, length_longB]
end Go.Proofs.Ytinilkkpocnnpaa
namespace Go.Proofs.Ytinilkkpocnnpaa
open Go.RowKit Go.OpenShut
set_option linter.unusedVariables false

theorem run_append_keep {P : Program} (w : World) (base : Nat) (t ty e : TypeId) (i : TypeInfo) (z : Value) (size bytes : Nat) (ht : P.underlying t = some (.slice e)) (hi : P.info? e = some i) (hz : i.zero = some z)
    (hsize : i.size = size) (hby : i.bytes = bytes) (hzs : z.cells.size = size) (hsz : 0 < size)
    (g cap : Nat) (n : Nat) (xs : List Value) (hown : w.ownsRow base e size (.slice (some ⟨g, 0, none⟩) n cap) n xs)
    (a : Addr) (m c : Nat) (news : List Value) (hl : news.length = m * size) (hnews : ∀ j u, news[j]? = some u → w.cell? (a.add j) = some u) (h1 : ∀ u ∈ news, u.oneCell' = true)
    (h63 : n + m ≤ maxLen) (hbytes : (n + m) * bytes ≤ 140737488355328) (hbase : base ≤ w.heap.size) :
    ∃ v' w', (Builtin.append_ #[t, t] ty #[.slice (some ⟨g, 0, none⟩) n cap, .slice (some a) m c]).run P w = .ok v' w' ∧ w'.ownsRow base e size v' (n + m) (xs ++ news) ∧ w.grownBy w' (some g) ∧
      v' ≠ .slice none 0 0 ∧ w'.ownsRow base e size (.slice (some ⟨g, 0, none⟩) n cap) n xs := by
  obtain ⟨v', w', hr, h2, h3, h4⟩ := run_append_own (P := P) w base t ty e i z size bytes ht hi hz hsize hby hzs hsz (.slice (some ⟨g, 0, none⟩) n cap) n xs hown a m c news hl hnews h1 h63 hbytes hbase
  have hne : v' ≠ .slice none 0 0 := fun h => by have := (h4.1 h).1; cases this
  refine ⟨v', w', hr, h2, h3, hne, ?_⟩
  subst hsize
  subst hby
  rcases hown.2 with ⟨h, _⟩ | ⟨g', cap', cur, h, hbg, hg, hnc, hcm, hcs, htake⟩
  · cases h
  · cases h
    refine ⟨hown.1, .inr ?_⟩
    by_cases hroom : n + m ≤ cap
    · have hfit : n * i.size + news.length ≤ cur.size := by rw [hl, hcs, ← Nat.add_mul]; exact Nat.mul_le_mul_right _ hroom
      have hr2 := run_append_room (P := P) w t ty e i ht hi g n cap cur hg a m c news hl hnews h1 hroom hfit
      rw [hr2] at hr
      cases hr
      refine ⟨g, cap, _, rfl, hbg, setRow_heap w g cur _ e _ hg, hnc, hcm, ?_, ?_⟩
      · simp only [List.size_toArray, List.length_append, List.length_take, List.length_drop, Array.length_toList]
        omega
      · rw [htake, List.append_assoc]
        rw [← hown.1]
        exact List.take_left
    · have holds : ∀ j u, xs[j]? = some u → w.cell? ((⟨g, 0, none⟩ : Addr).add j) = some u := hown.cells (g := g) rfl
      have hr2 := run_append_grow (P := P) w t ty e i z ht hi hz ⟨g, 0, none⟩ n cap xs hown.1 holds a m c news hl hnews (by omega) (by simp only [maxLen] at h63; omega) (growslice_fits (by omega) hbytes)
      rw [hr2] at hr
      cases hr
      have hlt : g < w.heap.size := (Array.getElem?_eq_some_iff.1 hg).1
      refine ⟨g, cap, cur, rfl, hbg, ?_, hnc, hcm, hcs, htake⟩
      exact (Below.heap_alloc w.drew _ g hlt).trans hg
end Go.Proofs.Ytinilkkpocnnpaa
namespace Go.Proofs.Ytinilkkpocnnpaa
open Go.RowKit Go.OpenShut
set_option linter.unusedVariables false

theorem row_news {w : World} {ad : Addr} {len cap : Nat} {ys : List Nat} (hr : Row w (some ad) len cap ys) : ∀ j u, (vals ys)[j]? = some u → w.cell? (ad.add j) = some u := by
  intro j u hj
  have hjl : j < ys.length := by
    have := (List.getElem?_eq_some_iff.1 hj).1
    rwa [length_vals] at this
  obtain ⟨a', ha', hs'⟩ := hr.1.source (by have := hr.1.length; omega)
  obtain rfl := Option.some.inj ha'
  exact hs' j u hj
theorem run_keep_any (w : World) (base n : Nat) (v : Value) (xs ys : List Nat) (ty : TypeId) (hown : w.ownsRow base 5 1 v n (vals xs)) (ad : Addr) (len cap' : Nat) (hr : Row w (some ad) len cap' ys) (hlen : 0 < len) (hn : n + len ≤ 140737488355328) (hbase : base ≤ w.heap.size) :
    ∃ g' cp w', (Builtin.append_ #[87, 87] ty #[v, .slice (some ad) len cap']).run Try.prog w = .ok (.slice (some ⟨g', 0, none⟩) (n + len) cp) w' ∧ w'.ownsRow base 5 1 (.slice (some ⟨g', 0, none⟩) (n + len) cp) (n + len) (vals (xs ++ ys)) ∧
      w'.ownsRow base 5 1 v n (vals xs) ∧ w.grownBy w' v.ownBlock := by
  obtain ⟨i0, hi, hz0, hz1, hz2⟩ := info_parts info5
  have hcount : (vals ys).length = len * 1 := by rw [length_vals, hr.1.length]; simp
  rcases hown.2 with ⟨rfl, rfl⟩ | ⟨g, cap, cur, rfl, _⟩
  · obtain ⟨v', w', hrun, h2, h3, h4⟩ := run_append_own (P := Try.prog) w base 87 ty 5 i0 (.int .u8 0) 1 1 Try.underlying87 hi hz0 hz1 hz2 rfl (by decide) (.slice none 0 0) 0 (vals xs) hown ad len cap' (vals ys) hcount (row_news hr) (vals_one ys) (by unfold maxLen; omega) (by omega) hbase
    rw [← vals_append] at h2
    rcases h2.2 with ⟨h', h0⟩ | ⟨g', cp, cur, rfl, _⟩
    · omega
    · exact ⟨g', cp, w', hrun, h2, ⟨hown.1, .inl ⟨rfl, rfl⟩⟩, h3⟩
  · obtain ⟨v', w', hrun, h2, h3, h4, h5⟩ := run_append_keep (P := Try.prog) w base 87 ty 5 i0 (.int .u8 0) 1 1 Try.underlying87 hi hz0 hz1 hz2 rfl (by decide) g cap n (vals xs) hown ad len cap' (vals ys) hcount (row_news hr) (vals_one ys) (by unfold maxLen; omega) (by omega) hbase
    rw [← vals_append] at h2
    rcases h2.2 with ⟨h', _⟩ | ⟨g', cp, cur, rfl, _⟩
    · exact absurd h' h4
    · exact ⟨g', cp, w', hrun, h2, h5, h3⟩
/-- The operation, behind a guard that says yes or with none, in a region that draws its order. -/
theorem held_append {w : World} {ops : Array Oper} {o : Oper} {a : Act} {K : Act → World → Prop} {Q : Exit → Act → World → Prop} {Z : Prop} [Decidable (Region.wanted o (yielded ops a.tmps) = true)] (hw : Region.wanted o (yielded ops a.tmps) = true) (s x : Operand)
    (ho : o.op = .call { callee := .builtin .append, args := #[s, x], argTypes := #[87, 87] })
    (base n : Nat) (xs ys : List Nat) (v : Value) (hs : a.eval s = v) (hown : w.ownsRow base 5 1 v n (vals xs)) (hbase : base ≤ w.heap.size)
    (ad : Addr) (len cap' : Nat) (hx : a.eval x = .slice (some ad) len cap') (hr : Row w (some ad) len cap' ys) (hlen : 0 < len) (hn : n + len ≤ 140737488355328)
    (w0 : World) (hb0 : Below base w0 w)
    (h : ∀ g' cp w', w'.ownsRow base 5 1 (.slice (some ⟨g', 0, none⟩) (n + len) cp) (n + len) (vals (xs ++ ys)) → w'.ownsRow base 5 1 v n (vals xs) → Below base w0 w' → K (a.put o.dst (.slice (some ⟨g', 0, none⟩) (n + len) cp)) w') :
    if Region.wanted o (yielded ops a.tmps) = true then Oper.wp Try.prog o a w K Q else Z := by
  rw [if_pos hw]
  obtain ⟨g', cp, w', hrun, h2, h3, h4⟩ := run_keep_any w base n v xs ys o.type hown ad len cap' hr hlen hn hbase
  have hb : Below base w0 w' := hb0.grown h4 hbase (fun k hk => (hown.lt k hk).1)
  unfold Oper.wp execOp
  simp only [ho, resolve, invoke, builtin, Sem.run_bind, Sem.run_pure, Result.andThen_ok, List.map_toArray, List.map_cons, List.map_nil, hs, hx, hrun]
  exact h g' cp w' h2 h3 hb
end Go.Proofs.Ytinilkkpocnnpaa
namespace Go.Proofs.Ytinilkkpocnnpaa
open Go.RowKit
open Go.VarMath hiding AllB
set_option linter.unusedVariables false

def In64 (n : Int) : Prop := -9223372036854775808 ≤ n ∧ n ≤ 9223372036854775807
/-- A slice of int64 whose first len numbers are zs. -/
structure Nums (w : World) (ad : Option Addr) (len : Nat) (zs : List Int) : Prop where
  length : zs.length = len
  all : ∀ n ∈ zs, In64 n
  cells : len = 0 ∨ ∃ b off, ad = some ⟨b, off, none⟩ ∧ ∀ i, i < len → w.cell? ⟨b, off + i, none⟩ = some (.int .i64 (zs.getD i 0))
theorem Nums.keep {w w' : World} {ad : Option Addr} {len : Nat} {zs : List Int} (h : Nums w ad len zs) {B : Nat} (hb : Below B w w') (hB : w.heap.size ≤ B) : Nums w' ad len zs := by
  refine ⟨h.length, h.all, ?_⟩
  rcases h.cells with h0 | ⟨b, off, e, hc⟩
  · exact .inl h0
  · refine .inr ⟨b, off, e, fun i hi => ?_⟩
    have := hc i hi
    rw [hb.cell (p := ⟨b, off + i, none⟩) (by have := World.block_lt_of_cell? w _ this; exact Nat.lt_of_lt_of_le this hB)]
    exact this
theorem IsRow.nums {w : World} {a : Option Addr} {len cap : Nat} {zs : List Int} (h : IsRow .i64 w a len cap zs) : Nums w a len (zs.take len) ∧ len ≤ cap := by
  rcases h with ⟨rfl, rfl, rfl, rfl⟩ | ⟨x, rfl, hl, hm, hz, hc, hw⟩
  · exact ⟨⟨rfl, (fun x hx => by cases hx), .inl rfl⟩, Nat.le_refl _⟩
  · refine ⟨⟨by rw [List.length_take]; omega, ?_, ?_⟩, hl⟩
    · intro n hn
      have := bounds_i64 (hw n (List.mem_of_mem_take hn))
      exact ⟨by omega, by omega⟩
    · by_cases h0 : len = 0
      · exact .inl h0
      · obtain ⟨b, off, spot⟩ := x
        have h1 := hc 0 (by omega)
        have hs : spot = none := by simpa [Addr.add] using World.cell?_spot h1
        subst hs
        refine .inr ⟨b, off, rfl, fun i hi => ?_⟩
        have h2 := hc i (by omega)
        rw [add_at] at h2
        rw [h2]
        have e : (zs.take len).getD i 0 = zs.getD i 0 := by rw [List.getD_eq_getElem?_getD, List.getElem?_take, if_pos hi, ← List.getD_eq_getElem?_getD]
        rw [e]
end Go.Proofs.Ytinilkkpocnnpaa
namespace Go.Proofs.Ytinilkkpocnnpaa
open Go.RowKit
set_option linter.unusedVariables false

section
variable {w w' w1 w2 : World} {kt k : Nat}
theorem grow_refl (w : World) (r : Option Nat) : w.grownBy w r := ⟨rfl, rfl, rfl, Nat.le_refl _, fun _ _ _ => rfl⟩
theorem grow_trans {r : Option Nat} (h : w.grownBy w1 r) (h2 : w1.grownBy w2 r) : w.grownBy w2 r :=
  ⟨h2.os.trans h.os, h2.tape.trans h.tape, h2.output.trans h.output, Nat.le_trans h.size h2.size, fun k hk hn => (h2.block k (Nat.lt_of_lt_of_le hk h.size) hn).trans (h.block k hk hn)⟩
theorem grow_drewN {r : Option Nat} (h : w.grownBy w1 r) (n : Nat) : w.grownBy (w1.drewN n) r := grow_trans h ⟨rfl, rfl, rfl, Nat.le_refl _, fun _ _ _ => rfl⟩
theorem grow_alloc {r : Option Nat} (h : w.grownBy w1 r) (o : Obj) : w.grownBy (w1.alloc o) r := grow_trans h (World.grownBy_alloc w1 o r)
theorem grow_set (h : w.grownBy w1 (some kt)) (j : Nat) (u : Value) : w.grownBy (w1.setCell ⟨kt, j, none⟩ u) (some kt) :=
  grow_trans h ⟨rfl, rfl, rfl, by simp, fun k hk hn => by
    show (w1.heap.modify kt _)[k]? = _
    rw [Array.getElem?_modify, if_neg (fun e => hn (by rw [e]))]⟩
theorem grow_below {r : Option Nat} (h : w.grownBy w1 r) (hb : Below w1.heap.size w1 w2) : w.grownBy w2 r :=
  grow_trans h ⟨hb.os, hb.tape, hb.output, hb.size, fun k hk _ => hb.block k hk⟩
theorem grow_own {r : Option Nat} (h : w.grownBy w1 (some kt)) (h2 : w1.grownBy w2 r) (hr : ∀ k, r = some k → w.heap.size ≤ k) : w.grownBy w2 (some kt) :=
  ⟨h2.os.trans h.os, h2.tape.trans h.tape, h2.output.trans h.output, Nat.le_trans h.size h2.size, fun k hk hn => (h2.block k (Nat.lt_of_lt_of_le hk h.size) (fun e => by have := hr k e.symm; omega)).trans (h.block k hk hn)⟩
theorem grow_new {w w1 : World} {kt k j : Nat} (h : w.grownBy w1 (some kt)) (hk : w.heap.size ≤ k) (u : Value) : w.grownBy (w1.setCell ⟨k, j, none⟩ u) (some kt) :=
  ⟨h.os, h.tape, h.output, by simpa using h.size, fun i hi hn => by
    show (w1.heap.modify k _)[i]? = _
    rw [Array.getElem?_modify, if_neg (by omega)]
    exact h.block i hi hn⟩
theorem box_set {cs : Array Value} {t : TypeId} (h : w.heap[k]? = some (.cells cs t (0, 0))) (j : Nat) (u : Value) : (w.setCell ⟨k, j, none⟩ u).heap[k]? = some (.cells (cs.setIfInBounds j u) t (0, 0)) := by
  have hlt := lt_of_block h
  have h' : w.heap[k] = .cells cs t (0, 0) := by simpa [Array.getElem?_eq_getElem hlt] using h
  show (w.heap.modify k _)[k]? = _
  rw [Array.getElem?_eq_getElem (by simpa using hlt), Array.getElem_modify_self, h']
  rfl
theorem box_off {o : Obj} (h : w.heap[k]? = some o) {j i : Nat} (hj : j ≠ k) (u : Value) : (w.setCell ⟨j, i, none⟩ u).heap[k]? = some o := by
  rw [← h]
  show (w.heap.modify j _)[k]? = _
  rw [Array.getElem?_modify, if_neg hj]
end
theorem size_set (w : World) (a : Addr) (u : Value) : (w.setCell a u).heap.size = w.heap.size := by simp
theorem below_grown {W W' : World} {k B : Nat} (h : W.grownBy W' (some k)) (hk : B ≤ k) (hB : B ≤ W.heap.size) : Below B W W' :=
  ⟨h.os, h.tape, h.output, h.size, fun j hj => h.block j (Nat.lt_of_lt_of_le hj hB) (fun e => by cases e; omega)⟩
theorem results_cell_one {fn : Func} {p : Tmp} {ty : TypeId} (h : fn.results = #[.cell p ty]) (tmps : Array Value) (P : Program) (w : World) :
    (results fn tmps).run P w = ((asAddr (tmps.getD p undef)).run P w).andThen fun a w₁ => (loadVar ty a).run P w₁ := by
  simp only [results, h]
  simp [Sem.run_bind, Result.andThen]
end Go.Proofs.Ytinilkkpocnnpaa
namespace Go.Proofs.Ytinilkkpocnnpaa
open Go.RowKit
open Go.BatMath hiding AllB getD_lt take_all

set_option linter.unusedVariables false

section
variable {w : World} {k : Nat} {b0 b1 b2 b3 : Int} {b4 : Bool} {b5 : Int} {v : Value}
theorem BoxAt.s0 (h : BoxAt w k b0 b1 b2 b3 b4 b5 v) (n : Int) : BoxAt (w.setCell ⟨k, 0, none⟩ (.int .i64 n)) k n b1 b2 b3 b4 b5 v := box_set h 0 _
theorem BoxAt.s1 (h : BoxAt w k b0 b1 b2 b3 b4 b5 v) (n : Int) : BoxAt (w.setCell ⟨k, 1, none⟩ (.int .i64 n)) k b0 n b2 b3 b4 b5 v := box_set h 1 _
theorem BoxAt.s2 (h : BoxAt w k b0 b1 b2 b3 b4 b5 v) (n : Int) : BoxAt (w.setCell ⟨k, 2, none⟩ (.int .i64 n)) k b0 b1 n b3 b4 b5 v := box_set h 2 _
theorem BoxAt.s3 (h : BoxAt w k b0 b1 b2 b3 b4 b5 v) (n : Int) : BoxAt (w.setCell ⟨k, 3, none⟩ (.int .i64 n)) k b0 b1 b2 n b4 b5 v := box_set h 3 _
theorem BoxAt.s4 (h : BoxAt w k b0 b1 b2 b3 b4 b5 v) (n : Bool) : BoxAt (w.setCell ⟨k, 4, none⟩ (.bool n)) k b0 b1 b2 b3 n b5 v := box_set h 4 _
theorem BoxAt.s5 (h : BoxAt w k b0 b1 b2 b3 b4 b5 v) (n : Int) : BoxAt (w.setCell ⟨k, 5, none⟩ (.int .i64 n)) k b0 b1 b2 b3 b4 n v := box_set h 5 _
theorem BoxAt.s6 (h : BoxAt w k b0 b1 b2 b3 b4 b5 v) (u : Value) : BoxAt (w.setCell ⟨k, 6, none⟩ u) k b0 b1 b2 b3 b4 b5 u := box_set h 6 _
theorem BoxAt.off (h : BoxAt w k b0 b1 b2 b3 b4 b5 v) {j i : Nat} (hj : j ≠ k) (u : Value) : BoxAt (w.setCell ⟨j, i, none⟩ u) k b0 b1 b2 b3 b4 b5 v := box_off h hj u
theorem BoxAt.drew (h : BoxAt w k b0 b1 b2 b3 b4 b5 v) : BoxAt w.drew k b0 b1 b2 b3 b4 b5 v := h
end
theorem Byt.get {w : World} {ad : Option Addr} {len cap : Nat} {bs : List Nat} (h : Byt w ad len cap bs) (hp : 0 < len) : ∃ b off, ad = some ⟨b, off, none⟩ ∧ ∀ i, i < len → w.cell? ⟨b, off + i, none⟩ = some (.int .u8 (bs.getD i 0 : Nat)) := by
  rcases h.cells with h0 | h1
  · omega
  · exact h1
end Go.Proofs.Ytinilkkpocnnpaa
namespace Go.Proofs.Ytinilkkpocnnpaa
open Go.RowKit
open Go.BatMath hiding AllB getD_lt take_all
set_option linter.unusedVariables false

def recVals (l : List Rc) : List Value := l.flatMap fun r => [.string r.key, .string r.val]
theorem recVals_len : ∀ l : List Rc, (recVals l).length = l.length * 2
  | [] => rfl
  | r :: l => by rw [recVals, List.flatMap_cons, List.length_append]; have := recVals_len l; unfold recVals at this; rw [this]; simp; omega
theorem recVals_app (a b : List Rc) : recVals (a ++ b) = recVals a ++ recVals b := by simp [recVals]
theorem recVals_at : ∀ (l : List Rc) (i : Nat) (r : Rc), l[i]? = some r → (recVals l)[i * 2]? = some (.string r.key) ∧ (recVals l)[i * 2 + 1]? = some (.string r.val)
  | [], i, r, h => by cases h
  | x :: l, 0, r, h => by
    cases h
    exact ⟨rfl, rfl⟩
  | x :: l, i + 1, r, h => by
    have ih := recVals_at l i r h
    have e : recVals (x :: l) = .string x.key :: .string x.val :: recVals l := rfl
    rw [e, show (i + 1) * 2 = i * 2 + 1 + 1 by omega]
    exact ih
theorem recVals_one (l : List Rc) : ∀ u ∈ recVals l, u.oneCell' = true := by
  intro u hu
  obtain ⟨r, _, h⟩ := List.mem_flatMap.1 hu
  rcases List.mem_cons.1 h with rfl | h
  · rfl
  · rcases List.mem_cons.1 h with rfl | h
    · rfl
    · cases h
def OwnRecs (w : World) (base : Nat) (v : Value) (l : List Rc) : Prop := w.ownsRow base 48 2 v l.length (recVals l)
theorem ownRecs_nil (w : World) (base : Nat) : OwnRecs w base (.slice none 0 0) [] := World.ownsRow_nil w base 48 2
theorem OwnRecs.on {w w' : World} {base : Nat} {v : Value} {l : List Rc} (h : OwnRecs w base v l) (hb : Below w.heap.size w w') : OwnRecs w' base v l := by
  refine ⟨h.1, ?_⟩
  rcases h.2 with hn | ⟨g, cap, cur, rfl, hbg, hh, r⟩
  · exact .inl hn
  · exact .inr ⟨g, cap, cur, rfl, hbg, (hb.block g (lt_of_block hh)).trans hh, r⟩
/-- A cell of a block below the row is written. -/
theorem OwnRecs.set {w : World} {base k j : Nat} {u v : Value} {l : List Rc} (h : OwnRecs w base v l) (hk : k < base) : OwnRecs (w.setCell ⟨k, j, none⟩ u) base v l := by
  refine ⟨h.1, ?_⟩
  rcases h.2 with hn | ⟨g, cap, cur, rfl, hbg, hh, r⟩
  · exact .inl hn
  · exact .inr ⟨g, cap, cur, rfl, hbg, box_off hh (by omega) u, r⟩
theorem OwnRecs.at {w : World} {base : Nat} {v : Value} {l : List Rc} (h : OwnRecs w base v l) : ∃ ad cap, v = .slice ad l.length cap ∧ RecsAt w ad l.length cap l ∧ (∀ a, ad = some a → base ≤ a.block) := by
  rcases h.2 with ⟨hn, h0⟩ | ⟨g, cap, cur, rfl, hbg, hh, hc, _, _, ht⟩
  · have hl := List.eq_nil_of_length_eq_zero h0
    subst hl
    exact ⟨none, 0, hn, recsAt_nil w, fun a h => by cases h⟩
  · refine ⟨_, _, rfl, ⟨rfl, hc, (fun h => by cases h), .inr ⟨g, 0, rfl, lt_of_block hh, fun i r hi => ?_⟩⟩, fun a h => by cases h; exact hbg⟩
    have hil : i < l.length := (List.getElem?_eq_some_iff.1 hi).1
    obtain ⟨h1, h2⟩ := recVals_at l i r hi
    rw [← ht, List.getElem?_take, if_pos (by omega)] at h1 h2
    rw [Nat.zero_add]
    refine ⟨?_, ?_⟩
    · rw [cell_of_row w g _ _ _ _ hh]; simpa using h1
    · rw [cell_of_row w g _ _ _ _ hh]; simpa using h2
theorem infoRec : (Try.prog.info? 48).map (fun i => (i.zero, i.size, i.bytes)) = some (some (.agg #[.string ⟨#[]⟩, .string ⟨#[]⟩]), 2, 32) := by kernel_rfl
/-- What a block of records reads as, record by record. -/
def RecNews (w : World) (a : Addr) (l : List Rc) : Prop := ∀ j u, (recVals l)[j]? = some u → w.cell? (a.add j) = some u
theorem recNews_lit (w : World) (k s : ByteArray) (g : Nat) (hg : g = w.heap.size) : RecNews (w.alloc (.cells #[.string k, .string s] 48)) ⟨g, 0, none⟩ [⟨k, s⟩] := by
  subst hg
  intro j u hj
  rw [add_at, Nat.zero_add]
  have hh : (w.alloc (.cells #[.string k, .string s] 48)).heap[w.heap.size]? = some (.cells #[.string k, .string s] 48 (0, 0)) := heap_alloc_new w _
  rw [cell_of_row _ _ _ _ _ _ hh]
  simpa [recVals] using hj
theorem run_recs_append (w : World) (base : Nat) (v : Value) (l m : List Rc) (ty : Nat) (hown : OwnRecs w base v l) (ad : Addr) (cap : Nat) (hr : RecNews w ad m) (hn : l.length + m.length ≤ 1000000) (hbase : base ≤ w.heap.size) :
    ∃ v' w', (Builtin.append_ #[31, 31] ty #[v, .slice (some ad) m.length cap]).run Try.prog w = .ok v' w' ∧ OwnRecs w' base v' (l ++ m) ∧ w.grownBy w' v.ownBlock := by
  obtain ⟨i0, hi, hz0, hz1, hz2⟩ := info_parts infoRec
  obtain ⟨v', w', hrun, h2, h3, _⟩ := run_append_own (P := Try.prog) w base 31 ty 48 i0 (.agg #[.string ⟨#[]⟩, .string ⟨#[]⟩]) 2 32 Try.underlying31 hi hz0 hz1 hz2 rfl (by decide) v l.length (recVals l) hown ad m.length cap (recVals m) (recVals_len m) hr (recVals_one m) (by unfold maxLen; omega) (by omega) hbase
  refine ⟨v', w', hrun, ?_, h3⟩
  unfold OwnRecs
  rw [recVals_app, List.length_append]
  exact h2
theorem list_recs {w : World} {ops : Array Oper} {rest : List Oper} {o : Oper} {a : Act} {Q : Exit → Act → World → Prop} (hw : Region.wanted o (yielded ops a.tmps) = true) (s x : Operand)
    (ho : o.op = .call { callee := .builtin .append, args := #[s, x], argTypes := #[31, 31] })
    (base : Nat) (l m : List Rc) (v : Value) (hs : a.eval s = v) (hown : OwnRecs w base v l) (hbase : base ≤ w.heap.size)
    (ad : Addr) (n cap : Nat) (hnm : m.length = n) (hx : a.eval x = .slice (some ad) n cap) (hr : RecNews w ad m) (hn : l.length + n ≤ 1000000)
    (h : ∀ v' w', OwnRecs w' base v' (l ++ m) → w.grownBy w' v.ownBlock → wpList Try.prog ops Q rest (a.put o.dst v') w') :
    wpList Try.prog ops Q (o :: rest) a w := by
  subst hnm
  refine BigFrame.wpList_want hw fun K hK => ?_
  obtain ⟨v', w', hrun, h2, h3⟩ := run_recs_append w base v l m o.type hown ad cap hr hn hbase
  unfold Oper.wp execOp
  simp only [ho, resolve, invoke, builtin, Sem.run_bind, Sem.run_pure, Result.andThen_ok, List.map_toArray, List.map_cons, List.map_nil, hs, hx, hrun]
  exact hK _ _ (h v' w' h2 h3)
theorem BoxAt.grown {w w' : World} {k base : Nat} {b0 b1 b2 b3 : Int} {b4 : Bool} {b5 : Int} {u v : Value} {l : List Rc} (h : BoxAt w k b0 b1 b2 b3 b4 b5 u) (ho : OwnRecs w base v l) (hk : k < base) (hg : w.grownBy w' v.ownBlock) : BoxAt w' k b0 b1 b2 b3 b4 b5 u := by
  unfold BoxAt at *
  rw [hg.block k (lt_of_block h) (fun e => by have := (ho.lt k e.symm).1; omega)]
  exact h
theorem Below.recs {w0 w w' : World} {base B : Nat} {v : Value} {l : List Rc} (h : Below B w0 w) (ho : OwnRecs w base v l) (hB : B ≤ base) (hs : B ≤ w.heap.size) (hg : w.grownBy w' v.ownBlock) : Below B w0 w' :=
  h.grown hg hs (fun k hk => by have := (ho.lt k hk).1; omega)
/-- A cell of another block than the records' is written. -/
theorem RecsAt.put {w : World} {base j len cap : Nat} {ad : Option Addr} {l : List Rc} {u : Value} (h : RecsAt w ad len cap l) (hb : ∀ a, ad = some a → base < a.block) : RecsAt (w.setCell ⟨base, j, none⟩ u) ad len cap l := by
  refine ⟨h.length, h.fits, h.room, ?_⟩
  rcases h.cells with h0 | ⟨b, off, e, hlt, hc⟩
  · exact .inl h0
  · have hne : b ≠ base := by have := hb _ e; simp only at this; omega
    have hx : ∀ i, (w.setCell ⟨base, j, none⟩ u).cell? ⟨b, i, none⟩ = w.cell? ⟨b, i, none⟩ := fun i => World.cell?_of_block (a := ⟨b, i, none⟩) (by
      show (w.heap.modify base _)[b]? = _
      rw [Array.getElem?_modify, if_neg (Ne.symm hne)])
    refine .inr ⟨b, off, e, by simpa using hlt, fun i r hi => ?_⟩
    rw [hx, hx]
    exact hc i r hi
end Go.Proofs.Ytinilkkpocnnpaa
namespace Go.Proofs.Ytinilkkpocnnpaa
open Go.RowKit
open Go.SeqMath
open Go.BatMath hiding AllB getD_lt take_all
set_option linter.unusedVariables false

theorem RowAt.set {α : Type} {K : Kind α} {w : World} {k j len cap : Nat} {ad : Option Addr} {l : List α} {u : Value} (h : RowAt K w ad len cap l) (hb : len = 0 ∨ ∀ a, ad = some a → a.block ≠ k) : RowAt K (w.setCell ⟨k, j, none⟩ u) ad len cap l := by
  refine ⟨h.length, h.fits, h.room, ?_⟩
  rcases h.cells with h0 | ⟨b, off, e, hlt, hc⟩
  · exact .inl h0
  · rcases hb with h0 | hb
    · exact .inl h0
    have hne : b ≠ k := hb _ e
    refine .inr ⟨b, off, e, by simpa using hlt, fun i x hi m v hm => ?_⟩
    rw [World.cell?_of_block (a := ⟨b, off + (i * K.size + m), none⟩) (w := w) (by
      show (w.heap.modify k _)[b]? = _
      rw [Array.getElem?_modify, if_neg (Ne.symm hne)])]
    exact hc i x hi m v hm
def recK : Kind Rc := ⟨fun r => [.string r.key, .string r.val], 2, 48, 31⟩
theorem recK_ok : recK.Ok 32 where
  und := Try.underlying31
  info := by
    obtain ⟨i, hi, hz, hs, hb⟩ := info_parts infoRec
    exact ⟨i, _, hi, hz, hs, hb, rfl⟩
  len := fun _ => rfl
  pos := by decide
  one := fun r u hu => by
    simp only [recK, List.mem_cons, List.not_mem_nil, or_false] at hu
    rcases hu with rfl | rfl <;> rfl
  few := by decide
theorem recsAt_row {w : World} {ad : Option Addr} {len cap : Nat} {l : List Rc} : RecsAt w ad len cap l ↔ RowAt recK w ad len cap l := by
  constructor
  · intro h
    refine ⟨h.length, h.fits, h.room, ?_⟩
    rcases h.cells with h0 | ⟨b, off, e, hlt, hc⟩
    · exact .inl h0
    · refine .inr ⟨b, off, e, hlt, fun i x hi j u hj => ?_⟩
      obtain ⟨h1, h2⟩ := hc i x hi
      rcases j with _ | _ | j
      · cases hj; exact h1
      · cases hj; exact h2
      · simp [recK] at hj
  · intro h
    refine ⟨h.length, h.fits, h.room, ?_⟩
    rcases h.cells with h0 | ⟨b, off, e, hlt, hc⟩
    · exact .inl h0
    · exact .inr ⟨b, off, e, hlt, fun i x hi => ⟨hc i x hi 0 _ rfl, hc i x hi 1 _ rfl⟩⟩
end Go.Proofs.Ytinilkkpocnnpaa
namespace Go.Proofs.Ytinilkkpocnnpaa
open Go.RowKit
open Go.SeqMath
open Go.BatMath
set_option linter.unusedVariables false

theorem bel_drewN {B : Nat} {a w : World} (h : Below B a w) (n : Nat) : Below B a (w.drewN n) := h.trans ⟨rfl, rfl, rfl, Nat.le_refl _, fun _ _ => rfl⟩
theorem RecsAt.at {w W : World} {ad : Option Addr} {len cap : Nat} {l : List Rc} (h : RecsAt w ad len cap l) (hb : Below w.heap.size w W) (j : Nat) (hj : j < len) :
    ∃ bk off r, ad = some ⟨bk, off, none⟩ ∧ bk < w.heap.size ∧ l[j]? = some r ∧ W.cell? ⟨bk, off + j * 2, none⟩ = some (.string r.key) ∧ W.cell? ⟨bk, off + j * 2 + 1, none⟩ = some (.string r.val) := by
  have hl := h.length
  have hjl : j < l.length := by omega
  rcases h.cells with h0 | ⟨bk, off, e, hlt, hc⟩
  · omega
  · have hi : l[j]? = some (l[j]'hjl) := List.getElem?_eq_getElem hjl
    obtain ⟨h1, h2⟩ := hc j _ hi
    exact ⟨bk, off, _, e, hlt, hi, (hb.cell (p := ⟨bk, _, none⟩) hlt).trans h1, (hb.cell (p := ⟨bk, _, none⟩) hlt).trans h2⟩
end Go.Proofs.Ytinilkkpocnnpaa
namespace Go.Proofs.Ytinilkkpocnnpaa
open Go.RowKit
open Go.SeqMath
open Go.BatMath hiding AllB getD_lt take_all
open Go.VarMath (longB length_longB textB)
set_option linter.unusedVariables false

/-- The two boxes of the walk: the batch that is being read, and the result that is none yet. -/
structure Two (w : World) (p e s : Int) (t : Bool) (m : Int) (v : Value) (W : World) : Prop where
  bx : BoxAt W (w.heap.size + 1) 0 p e s t m v
  rs : BoxAt W w.heap.size 0 0 0 0 false 0 (.slice none 0 0)
  bel : Below w.heap.size w W
theorem Two.sz {w W : World} {p e s : Int} {t : Bool} {m : Int} {v : Value} (h : Two w p e s t m v W) : w.heap.size + 1 + 1 ≤ W.heap.size := h.bx.lt
theorem Two.drew {w W : World} {p e s : Int} {t : Bool} {m : Int} {v : Value} (h : Two w p e s t m v W) : Two w p e s t m v W.drew := ⟨h.bx, h.rs, h.bel.drew⟩
theorem Two.s1 {w W : World} {p e s : Int} {t : Bool} {m : Int} {v : Value} (h : Two w p e s t m v W) (n : Int) : Two w n e s t m v (W.setCell ⟨w.heap.size + 1, 1, none⟩ (.int .i64 n)) := ⟨h.bx.s1 n, h.rs.off (by omega) _, h.bel.setCell (Nat.le_succ _) _⟩
theorem Two.s2 {w W : World} {p e s : Int} {t : Bool} {m : Int} {v : Value} (h : Two w p e s t m v W) (n : Int) : Two w p n s t m v (W.setCell ⟨w.heap.size + 1, 2, none⟩ (.int .i64 n)) := ⟨h.bx.s2 n, h.rs.off (by omega) _, h.bel.setCell (Nat.le_succ _) _⟩
theorem Two.s3 {w W : World} {p e s : Int} {t : Bool} {m : Int} {v : Value} (h : Two w p e s t m v W) (n : Int) : Two w p e n t m v (W.setCell ⟨w.heap.size + 1, 3, none⟩ (.int .i64 n)) := ⟨h.bx.s3 n, h.rs.off (by omega) _, h.bel.setCell (Nat.le_succ _) _⟩
theorem Two.s6 {w W : World} {p e s : Int} {t : Bool} {m : Int} {v : Value} (h : Two w p e s t m v W) (n : Value) : Two w p e s t m n (W.setCell ⟨w.heap.size + 1, 6, none⟩ n) := ⟨h.bx.s6 n, h.rs.off (by omega) _, h.bel.setCell (Nat.le_succ _) _⟩
theorem Two.on {w W W' : World} {p e s : Int} {t : Bool} {m : Int} {v : Value} (h : Two w p e s t m v W) (hb : Below W.heap.size W W') : Two w p e s t m v W' := ⟨h.bx.on hb, h.rs.on hb, h.bel.trans (hb.mono h.bel.size)⟩
theorem Two.grown {w W W' : World} {p e s : Int} {t : Bool} {m : Int} {u v : Value} {l : List Rc} (h : Two w p e s t m u W) (ho : OwnRecs W (w.heap.size + 1 + 1) v l) (hg : W.grownBy W' v.ownBlock) : Two w p e s t m u W' :=
  ⟨h.bx.grown ho (by omega) hg, h.rs.grown ho (by omega) hg, Below.recs h.bel ho (by omega) h.bel.size hg⟩
/-- A cell of a block below the records' is written. -/
theorem RecsAt.set {w : World} {base j len cap : Nat} {ad : Option Addr} {l : List Rc} {u : Value} (h : RecsAt w ad len cap l) (hb : ∀ a, ad = some a → base + 1 + 1 ≤ a.block) : RecsAt (w.setCell ⟨base, j, none⟩ u) ad len cap l := by
  refine ⟨h.length, h.fits, h.room, ?_⟩
  rcases h.cells with h0 | ⟨b, off, e, hlt, hc⟩
  · exact .inl h0
  · have hne : b ≠ base := by have := hb _ e; simp only at this; omega
    have hx : ∀ i, (w.setCell ⟨base, j, none⟩ u).cell? ⟨b, i, none⟩ = w.cell? ⟨b, i, none⟩ := fun i => World.cell?_of_block (a := ⟨b, i, none⟩) (by
      show (w.heap.modify base _)[b]? = _
      rw [Array.getElem?_modify, if_neg (Ne.symm hne)])
    refine .inr ⟨b, off, e, by simpa using hlt, fun i r hi => ?_⟩
    rw [hx, hx]
    exact hc i r hi
end Go.Proofs.Ytinilkkpocnnpaa
namespace Go.Proofs.Ytinilkkpocnnpaa
open Go.RowKit
open Go.CrcMath hiding AllB
set_option linter.unusedVariables false

theorem xorc (c b : Nat) (hc : c < 4294967296) (hb : b < 256) : bits .xor .u32 (c : Int) (b : Int) = ((c ^^^ b : Nat) : Int) := u32_xor_nat c b hc (by omega)
theorem and1 (d : Nat) (h : d < 4294967296) : bits .and .u32 (d : Int) 1 = ((d % 2 : Nat) : Int) := by
  have := u32_and_nat d 1 h (by omega)
  rw [nat_mask1] at this
  exact this
theorem xorp (d : Nat) (h : d < 4294967296) : bits .xor .u32 ((d : Int) / 2) 2197175160 = ((d / 2 ^^^ poly : Nat) : Int) := by
  have := u32_xor_nat (d / 2) 2197175160 (by omega) (by omega)
  exact this
theorem bstep_odd (d : Nat) (h : d % 2 = 1) : bstep d = d / 2 ^^^ poly := if_pos h
theorem bstep_even (d : Nat) (h : ¬ d % 2 = 1) : bstep d = d / 2 := if_neg h
theorem u32_eq {a b : Int} (h : a = b) : Value.int .u32 a = Value.int .u32 b := by rw [h]
theorem ret_u32 {a b : Int} (h : a = b) : Ending.returned (.int .u32 a) = .returned (.int .u32 b) := by rw [h]


theorem cplc (c : Nat) (h : c < 4294967296) : bits .xor .u32 IntKind.u32.max (c : Int) = ((cpl c : Nat) : Int) := by
  have e : IntKind.u32.max = ((full : Nat) : Int) := by decide
  rw [e, u32_xor_nat full c full_lt h, cpl_eq]
theorem usig : IntKind.u32.signed = false := rfl
theorem xor00 : bits .xor .u32 IntKind.u32.max 4294967295 = 0 := by decide
theorem run_next (c : Nat) (bs : List Nat) (k : Nat) (h : k < bs.length) : run c (bs.take (k + 1)) = nxt (run c (bs.take k)) (bs.getD k 0) := by
  rw [List.take_succ_eq_append_getElem h, run_snoc, List.getD_eq_getElem?_getD, List.getElem?_eq_getElem h]; rfl
end Go.Proofs.Ytinilkkpocnnpaa
namespace Go.Proofs.Ytinilkkpocnnpaa
open Go.RowKit
open Go.CrcMath hiding AllB
set_option linter.unusedVariables false

theorem Byt.four {w : World} {ad : Option Addr} {len cap : Nat} {bs : List Nat} (h : Byt w ad len cap bs) (h4 : 4 ≤ len) :
    ∃ b off x0 x1 x2 x3 r, ad = some ⟨b, off, none⟩ ∧ bs = x0 :: x1 :: x2 :: x3 :: r ∧ x0 < 256 ∧ x1 < 256 ∧ x2 < 256 ∧ x3 < 256 ∧ r.length = len - 4 ∧
      w.cell? ⟨b, off, none⟩ = some (.int .u8 x0) ∧ w.cell? ⟨b, off + 1, none⟩ = some (.int .u8 x1) ∧ w.cell? ⟨b, off + 2, none⟩ = some (.int .u8 x2) ∧ w.cell? ⟨b, off + 3, none⟩ = some (.int .u8 x3) ∧
      Byt w (some ⟨b, if cap = 4 then off else off + 4, none⟩) (len - 4) (cap - 4) r := by
  have hl := h.length
  have hf := h.fits
  obtain ⟨x0, x1, x2, x3, r, rfl⟩ := four_of (bs := bs) (by omega)
  simp only [List.length_cons] at hl
  rcases h.cells with h0 | ⟨b, off, rfl, hc⟩
  · omega
  have ha := h.all
  refine ⟨b, off, x0, x1, x2, x3, r, rfl, rfl, ha _ (by simp), ha _ (by simp), ha _ (by simp), ha _ (by simp), by omega, ?_, ?_, ?_, ?_, ?_⟩
  · simpa using hc 0 (by omega)
  · simpa using hc 1 (by omega)
  · simpa using hc 2 (by omega)
  · simpa using hc 3 (by omega)
  · refine ⟨by omega, by omega, fun x hx => ha x (by simp [hx]), ?_⟩
    by_cases h5 : len - 4 = 0
    · exact .inl h5
    · refine .inr ⟨b, off + 4, by rw [if_neg (by omega)], fun i hi => ?_⟩
      have := hc (4 + i) (by omega)
      rw [Nat.add_assoc, this]
      rw [Nat.add_comm 4 i]
      rfl
end Go.Proofs.Ytinilkkpocnnpaa
namespace Go.Proofs.Ytinilkkpocnnpaa
open Go.RowKit
open Go.SeqMath
set_option linter.unusedVariables false

theorem seq_ret {a b : Int} (h : a = b) : Ending.returned (.int .i64 a) = .returned (.int .i64 b) := by rw [h]
theorem seq_right (n : Int) (w : World) (r : Bool) (hr : rightB n = r) :
    Calls Try.prog 69 #[.int .i64 n] w fun e w' => e = .returned (.bool r) ∧ w = w' := by
  subst hr
  by_cases h0 : 0 ≤ n
  · by_cases h1 : n ≤ 2147483647
    · rw [right_yes h0 h1]
      go_enter Try.func69, Try.ntmps69
      go_wp2
      go_ret
      exact ⟨rfl, rfl⟩
    · have h1' : 2147483647 < n := by omega
      rw [right_no (.inr h1')]
      go_enter Try.func69, Try.ntmps69
      go_wp2
      go_ret
      exact ⟨rfl, rfl⟩
  · have h0' : n < 0 := by omega
    rw [right_no (.inl h0')]
    go_enter Try.func69, Try.ntmps69
    go_wp2
    go_ret
    exact ⟨rfl, rfl⟩
end Go.Proofs.Ytinilkkpocnnpaa
namespace Go.Proofs.Ytinilkkpocnnpaa
open Go.RowKit
open Go.CrcMath hiding AllB
set_option linter.unusedVariables false
set_option maxHeartbeats 400000 in
theorem refNext_any (c b : Nat) (w : World) (hc : c < 4294967296) (hb : b < 256) :
    Calls Try.prog 73 #[.int .u32 c, .int .u8 b] w fun e w' => e = .returned (.int .u32 (nxt c b : Nat)) ∧ w = w' := by
  have hx := xorc c b hc hb
  obtain ⟨x, hxe⟩ : ∃ x, x = c ^^^ b := ⟨_, rfl⟩
  have hxl : x < 4294967296 := by rw [hxe]; exact xor_lt hc (by omega)
  rw [← hxe] at hx
  have HX : Hid (x = c ^^^ b) := hxe
  clear hxe
  go_enter Try.func73, Try.ntmps73
  go_wp2
  go_loop [0, 5] (fun s i => ∃ k : Nat, k ≤ 8 ∧ i = .int .i64 k ∧ s = .int .u32 (bsteps k x : Nat)) (fun _ i => (8 - intOf i).toNat)
  case atStart => exact ⟨0, by omega, rfl, rfl⟩
  case round =>
    obtain ⟨k, hk, rfl, rfl⟩ := hrel
    have hl := bsteps_lt hxl k
    obtain ⟨d, hd⟩ : ∃ d, d = bsteps k x := ⟨_, rfl⟩
    rw [← hd] at hl ⊢
    have HD : Hid (d = bsteps k x) := hd
    clear hd hx
    have h1 := and1 d hl
    have h2 := xorp d hl
    by_cases hlt : k < 8
    · by_cases ho : d % 2 = 1
      · have hb1 : (((d % 2 : Nat) : Int) == 1) = true := by simp; omega
        have S : Hid (bsteps (k + 1) x = d / 2 ^^^ poly) := by show bstep (bsteps k x) = _; rw [← HD.out]; exact bstep_odd d ho
        clear ho
        go_wp2
        go_round
        case rel => exact ⟨k + 1, by omega, by go_num, by rw [S.out]⟩
        case measure => simp [intOf]; omega
      · have hb1 : (((d % 2 : Nat) : Int) == 1) = false := by simp; omega
        have S : Hid (bsteps (k + 1) x = d / 2) := by show bstep (bsteps k x) = _; rw [← HD.out]; exact bstep_even d ho
        clear ho
        go_wp2
        go_round
        case rel => exact ⟨k + 1, by omega, by go_num, by rw [S.out]; exact u32_eq (by omega)⟩
        case measure => simp [intOf]; omega
    · have E : Hid (d = nxt c b) := by
        have : k = 8 := by omega
        subst this
        show d = bsteps 8 (c ^^^ b)
        rw [HD.out, HX.out]
      go_wp2
      go_ret
      exact ⟨ret_u32 (by rw [E.out]), rfl⟩
set_option maxHeartbeats 400000 in
theorem refCrc_any (w : World) (ad : Option Addr) (len cap : Nat) (bs : List Nat) (h : Byt w ad len cap bs) (hL : len ≤ 140737488355328) :
    Calls Try.prog 72 #[.slice ad len cap] w fun e w' => e = .returned (.int .u32 (ofB bs : Nat)) ∧ w = w' := by
  obtain ⟨hlen, hfit, hall, hcs⟩ := h
  rcases hcs with h0 | ⟨b, off, rfl, hcell⟩
  · subst h0
    obtain rfl : bs = [] := by simpa using hlen
    have E : Hid (ofB [] = 0) := by show _ = _; decide
    clear hlen hfit hall
    have hcp := xor00
    have hsg := usig
    go_enter Try.func72, Try.ntmps72
    go_wp2
    refine wp_loop_rounds 1 ?_
    rw [rounds_succ]
    go_wp2
    go_ret
    exact ⟨ret_u32 (by rw [E.out]; rfl), rfl⟩
  · have hmx : ∀ k, run full (bs.take k) < 4294967296 := fun k => run_lt _ _ full_lt (take_all hall k)
    have HM := Lib.hid hmx
    have HC := Lib.hid hcell
    have HA := Lib.hid hall
    have HL := Lib.hid hlen
    clear hmx hcell hall hlen
    go_enter Try.func72, Try.ntmps72
    go_wp2
    go_loop [3, 4] (fun s i => ∃ k : Nat, k ≤ len ∧ i = .int .i64 k ∧ s = .int .u32 (run full (bs.take k) : Nat)) (fun _ i => len - (intOf i).toNat)
    case atStart => exact ⟨0, by omega, rfl, rfl⟩
    case round =>
      obtain ⟨k, hk, rfl, rfl⟩ := hrel
      have hl := HM.out k
      obtain ⟨d, hd⟩ : ∃ d, d = run full (bs.take k) := ⟨_, rfl⟩
      rw [← hd] at hl ⊢
      have HD : Hid (d = run full (bs.take k)) := hd
      clear hd
      by_cases hlt : k < len
      · have hc := HC.out k hlt
        have hx8 := getD_all HA.out k
        obtain ⟨x, hx⟩ : ∃ x, x = bs.getD k 0 := ⟨_, rfl⟩
        rw [← hx] at hc hx8
        have S : Hid (run full (bs.take (k + 1)) = nxt d x) := by
          show _ = _
          rw [run_next _ _ _ (by rw [HL.out]; exact hlt), ← HD.out, ← hx]
        clear hx
        go_wp2_with (go_at_call 73; refine (refNext_any _ _ _ hl hx8).mono ?_; rintro e w' ⟨rfl, rfl⟩)
        go_round
        case rel => exact ⟨k + 1, by omega, by go_num, by rw [S.out]⟩
        case measure => simp [intOf]; omega
      · have hcp := cplc d hl
        have hsg := usig
        have E : Hid (cpl d = ofB bs) := by
          show _ = _
          rw [HD.out, List.take_of_length_le (by rw [HL.out]; omega)]; rfl
        go_wp2
        go_ret
        exact ⟨ret_u32 (by rw [E.out]), rfl⟩
end Go.Proofs.Ytinilkkpocnnpaa
namespace Go.Proofs.Ytinilkkpocnnpaa
open Go.RowKit
open Go.CrcMath hiding AllB
set_option linter.unusedVariables false
theorem lit4 (w : World) (c : Nat) (hc : c < 4294967296) : (w.alloc (.cells #[.int .u8 ((c : Int) % 256), .int .u8 ((c : Int) / 256 % 256), .int .u8 ((c : Int) / 65536 % 256), .int .u8 ((c : Int) / 16777216)] 5)).ownsRow w.heap.size 5 1 (.slice (some ⟨w.heap.size, 0, none⟩) 4 4) 4 (vals (leB c)) := by
  have h := World.ownsRow_lit (e := 5) (size := 1) (base := w.heap.size) w (vals (leB c)).toArray 4 (Nat.le_refl _) (by decide) rfl
  have e3 : (((c / 16777216 % 256 : Nat)) : Int) = (c : Int) / 16777216 := by omega
  have e : (vals (leB c)).toArray = #[.int .u8 ((c : Int) % 256), .int .u8 ((c : Int) / 256 % 256), .int .u8 ((c : Int) / 65536 % 256), .int .u8 ((c : Int) / 16777216)] := by
    show #[byte _, byte _, byte _, byte _] = _
    unfold byte
    rw [e3]; rfl
  rw [e] at h
  have e2 : (vals (leB c)) = [.int .u8 ((c : Int) % 256), .int .u8 ((c : Int) / 256 % 256), .int .u8 ((c : Int) / 65536 % 256), .int .u8 ((c : Int) / 16777216)] := congrArg Array.toList e
  rw [e2]
  exact h
set_option maxHeartbeats 400000 in
theorem sealed_some (w : World) (a : Addr) (len cap : Nat) (bs : List Nat) (h : Byt w (some a) len cap bs) (hL : len ≤ 140737488355300) :
    Calls Try.prog 67 #[.slice (some a) len cap] w (GivesMade w (sealB bs)) := by
  obtain ⟨i0, hi, hz0, hz1, hz2⟩ := info_parts info5
  have HB := Lib.hid h
  clear h
  go_enter Try.func67, Try.ntmps67
  go_wp2_with fail
  refine (refCrc_any _ _ _ _ _ HB.out (by omega)).mono ?_
  rintro e w' ⟨rfl, rfl⟩
  have hsl := ofB_lt HB.out.all
  obtain ⟨c, hc⟩ : ∃ c, c = ofB bs := ⟨_, rfl⟩
  rw [← hc] at hsl ⊢
  have HCC := Lib.hid hc
  clear hc
  have HX := Lib.hid (lit4 w c hsl)
  have HB1 : Hid (Below w.heap.size w (w.alloc (.cells #[.int .u8 ((c : Int) % 256), .int .u8 ((c : Int) / 256 % 256), .int .u8 ((c : Int) / 65536 % 256), .int .u8 ((c : Int) / 16777216)] 5))) := (Below.refl _ _).alloc (Nat.le_refl _) _
  go_wp2_with (at_builtin; refine wpList_append_own _ rfl (.tmp 17) (.tmp 18) 87 rfl w.heap.size 5 i0 (.int .u8 0) 1 1 Try.underlying87 hi hz0 hz1 hz2 rfl (by decide) _ 4 (vals (leB c)) rfl HX.out a len cap (vals bs) rfl ?c1 ?c2 (vals_one bs) ?c3 ?c4 ?c5 ?_)
  case c1 => rw [length_vals, HB.out.length]; simp
  case c2 =>
    intro j u hj
    have hjl : j < bs.length := by
      have := (List.getElem?_eq_some_iff.1 hj).1
      rwa [length_vals] at this
    obtain ⟨a', ha', hs⟩ := HB.out.source (by have := HB.out.length; omega)
    obtain rfl := Option.some.inj ha'
    have h1 := hs j u hj
    rw [HB1.out.cell (World.block_lt_of_cell? w _ h1)]
    exact h1
  case c3 => unfold maxLen; omega
  case c4 => omega
  case c5 => simp
  · intro v' w1 hown' hgrow _
    have hlen := HB.out.length
    have R : Hid (Made w (sealB bs) v' w1) := by
      refine made_of ?_ (by rw [length_sealB]; omega) (HB1.out.grown hgrow (by simp) (by intro k hk; simp [Value.ownBlock] at hk; omega))
      have e : sealB bs = leB c ++ bs := by rw [HCC.out]; rfl
      rw [length_sealB, hlen, e, vals_append, Nat.add_comm len 4]
      exact hown'
    clear hown' hgrow hlen
    go_wp2
    go_ret
    exact ⟨_, rfl, R.out⟩
set_option maxHeartbeats 400000 in
theorem sealed_none (w : World) : Calls Try.prog 67 #[.slice none 0 0] w (GivesMade w (sealB [])) := by
  obtain ⟨i0, hi, hz0, hz1, hz2⟩ := info_parts info5
  have HB : Hid (Byt w none 0 0 []) := ⟨rfl, Nat.le_refl _, (fun x hx => by cases hx), .inl rfl⟩
  go_enter Try.func67, Try.ntmps67
  go_wp2_with fail
  refine (refCrc_any _ _ _ _ _ HB.out (by omega)).mono ?_
  rintro e w' ⟨rfl, rfl⟩
  have hsl := ofB_lt HB.out.all
  obtain ⟨c, hc⟩ : ∃ c, c = ofB [] := ⟨_, rfl⟩
  rw [← hc] at hsl ⊢
  have HCC := Lib.hid hc
  clear hc
  have HX := Lib.hid (lit4 w c hsl)
  have HB1 : Hid (Below w.heap.size w (w.alloc (.cells #[.int .u8 ((c : Int) % 256), .int .u8 ((c : Int) / 256 % 256), .int .u8 ((c : Int) / 65536 % 256), .int .u8 ((c : Int) / 16777216)] 5))) := (Below.refl _ _).alloc (Nat.le_refl _) _
  go_wp2_with (at_builtin; refine wpList_append_own_none rfl (.tmp 17) (.tmp 18) 87 rfl w.heap.size 5 i0 1 Try.underlying87 hi _ 4 (vals (leB c)) rfl HX.out rfl ?_)
  go_ret
  have R : Made w (sealB []) _ _ := made_of (by
    have e : sealB [] = leB c := by rw [HCC.out]; rfl
    rw [e]; exact HX.out) (by rw [length_sealB]; omega) HB1.out
  exact ⟨_, rfl, R⟩
theorem sealed_any (w : World) (ad : Option Addr) (len cap : Nat) (bs : List Nat) (h : Byt w ad len cap bs) (hn : ad = none → cap = 0) (hL : len ≤ 140737488355300) :
    Calls Try.prog 67 #[.slice ad len cap] w (GivesMade w (sealB bs)) := by
  rcases ad with _ | a
  · obtain rfl := hn rfl
    have hf := h.fits
    have hl := h.length
    obtain rfl : len = 0 := by omega
    obtain rfl : bs = [] := List.eq_nil_of_length_eq_zero hl
    exact sealed_none w
  · exact sealed_some w a len cap bs h hL
end Go.Proofs.Ytinilkkpocnnpaa
