/- Parts of a proof. -/
import Derived.Deep.Cut
import Derived.Deep.CutRange
import Derived.Lib.SlBytesConst
import Derived.Laws.BitsAllLaws
import Derived.Laws.CopyOwn
import Derived.Laws.AppendOwnNone
import Derived.Laws.BytesString
import Derived.OpenShut
import Derived.WalkSmall
import Derived.Lib.AppendStr
import Derived.Deep.RegionWith
import Derived.Test.YtjmfdildnojknaaGreatKP1
set_option maxRecDepth 100000
set_option maxHeartbeats 16000000
set_option linter.unusedVariables false
namespace Go.Proofs.YtjmfdildnojknaaGreat
open Go.RowKit
open Go.SeqMath
open Go.BatMath
def TextsOk (l : List Rc) : Prop := ∀ r ∈ l, r.key.size ≤ 140737488355328 ∧ r.val.size ≤ 140737488355328
def PlainAt (w : World) (l : List Rc) (v : Value) (wr : World) : Prop := ∃ j : Nat, j ≤ l.length ∧ v = .int .i64 j ∧ (∀ i r, i < j → l[i]? = some r → ¬ longRec r) ∧ Below w.heap.size w wr
theorem plainAt_start (w W : World) (l : List Rc) (h : Below w.heap.size w W) : PlainAt w l (.int .i64 0) W := ⟨0, Nat.zero_le _, rfl, fun i r hi => by omega, h⟩
theorem not_long {l : List Rc} (h : ∀ i r, i < l.length → l[i]? = some r → ¬ longRec r) : ¬ ∃ r ∈ l, longRec r := by
 rintro ⟨r, hr, hl⟩
 obtain ⟨i, hi, rfl⟩ := List.getElem_of_mem hr
 exact h i _ hi (List.getElem?_eq_getElem hi) hl
theorem none_no {b : Bat} (h : noneB b = false) : b.prod ≠ -1 ∨ b.epoch ≠ -1 ∨ b.seq ≠ -1 ∨ b.txn = true := by
 by_cases h1 : b.prod = -1
 rotate_left
 · exact .inl h1
 by_cases h2 : b.epoch = -1
 · by_cases h3 : b.seq = -1
   · cases h4 : b.txn
     · simp [noneB, h1, h2, h3, h4] at h
     exact .inr (.inr (.inr rfl))
   exact .inr (.inr (.inl h3))
 exact .inr (.inl h2)
theorem plain_data (w : World) (b : Bat) (ad : Option Addr) (cap : Nat) (hr : RecsAt w ad b.recs.length cap b.recs) (ht : TextsOk b.recs) (h0 : 0 ≤ b.base) (h1 : b.base ≤ 1099511627776) (hm : b.marker = 0) (hL : b.recs.length ≤ 140737488355328) :
 Calls Tryz.prog 79 #[.agg #[.int .i64 b.base, .int .i64 b.prod, .int .i64 b.epoch, .int .i64 b.seq, .bool b.txn, .int .i64 b.marker, .slice ad b.recs.length cap]] w (Says (rightE b) w) := by
 have hne : (b.recs ≠ []) = (0 < b.recs.length) := propext List.length_pos_iff.symm
 have e12 := e_data h0 h1 hm
 have e13 := e_long h0 h1 hm
 have e0 := e_fine h0 h1 hm
 rw [hne] at e12 e13 e0
 obtain ⟨ev, hev⟩ := exq (rightE b)
 rw [← hev] at e12 e13 e0 ⊢
 have hh : (decide (0 ≤ b.prod) && (decide (0 ≤ b.epoch) && decide (b.epoch ≤ 32767))) = headB b := rfl
 have hnn : noneB b = true → b.prod = -1 ∧ b.epoch = -1 ∧ b.seq = -1 ∧ b.txn = false := none_of
 have hnf : noneB b = false → b.prod ≠ -1 ∨ b.epoch ≠ -1 ∨ b.seq ≠ -1 ∨ b.txn = true := none_no
 obtain ⟨hd, hdd⟩ := exq (headB b)
 obtain ⟨nn, hnd⟩ := exq (noneB b)
 rw [← hdd] at e12 e13 e0 hh
 rw [← hnd] at e12 e13 e0 hnn hnf
 clear hev hdd hnd hne
 obtain ⟨base, prod, epoch, seq, txn, marker, recs⟩ := b
 simp only at h0 h1 hm e12 e13 e0 hh hr ht hL hnn hnf ⊢
 obtain ⟨rt, hrt⟩ : ∃ rt, rightB seq = rt := ⟨_, rfl⟩
 rw [hrt] at e12 e13 e0
 obtain ⟨len, hlen⟩ := exq recs.length
 rw [← hlen] at e12 e13 e0 hr hL ⊢
 have HH := qh hh
 have HRT := qh hrt
 have HN := qh hnn
 have HF := qh hnf
 have E12 := qh e12
 have E13 := qh e13
 have E0 := qh e0
 have HR := qh hr
 have HT := qh ht
 have HLEN := qh hlen
 clear hh hrt hnn hnf e12 e13 e0 hr ht hlen
 subst hm
 go_enter Tryz.func79, Tryz.ntmps79
 go_upto_region 7 with fail
 go_cut [3] from 6 (fun s3 wx => s3 = .bool nn ∧ Hid (BoxAt wx w.heap.size base prod epoch seq txn 0 (.slice ad len cap)) ∧ Hid (Below w.heap.size w wx))
 case first =>
  cases h1 : (prod == -1)
  · obtain rfl : nn = false := by
     cases nn
     · rfl
     have := (HN.out rfl).1; subst this; cases h1
    go_wp2
    go_meet
    case rel => exact ⟨rfl, boxAt_new w _ _ _ _ _ _ _, (bal _ _)⟩
  cases h2 : (epoch == -1)
  · obtain rfl : nn = false := by
     cases nn
     · rfl
     have := (HN.out rfl).2.1; subst this; cases h2
    go_wp2
    go_meet
    case rel => exact ⟨rfl, boxAt_new w _ _ _ _ _ _ _, (bal _ _)⟩
  cases h3 : (seq == -1)
  · obtain rfl : nn = false := by
     cases nn
     · rfl
     have := (HN.out rfl).2.2.1; subst this; cases h3
    go_wp2
    go_meet
    case rel => exact ⟨rfl, boxAt_new w _ _ _ _ _ _ _, (bal _ _)⟩
  cases txn
  · obtain rfl : nn = true := by
     cases nn
     · rcases HF.out rfl with h | h | h | h
       · exact absurd (by simpa using h1) h
       · exact absurd (by simpa using h2) h
       · exact absurd (by simpa using h3) h
       cases h
     rfl
    go_wp2
    go_meet
    case rel => exact ⟨rfl, boxAt_new w _ _ _ _ _ _ _, (bal _ _)⟩
  obtain rfl : nn = false := by
   cases nn
   · rfl
   have := (HN.out rfl).2.2.2; cases this
  go_wp2
  go_meet
  case rel => exact ⟨rfl, boxAt_new w _ _ _ _ _ _ _, (bal _ _)⟩
 case rest =>
  obtain ⟨rfl, HBX, HBW⟩ := hcut
  have hblt := HBX.out.lt
  have hc0 := HBX.out.c0
  have hc1 := HBX.out.c1
  have hc2 := HBX.out.c2
  have hc3 := HBX.out.c3
  have hc4 := HBX.out.c4
  have hc5 := HBX.out.c5
  have hc6 := HBX.out.c6
  go_upto_region 8 with fail
  go_cut [82] from 64 (fun s82 wx => s82 = .bool (!((nn || (hd && rt)) && decide (0 < len))) ∧ Hid (BoxAt wx w.heap.size base prod epoch seq txn 0 (.slice ad len cap)) ∧ Hid (Below w.heap.size w wx))
  case first =>
   cases nn
   rotate_left
   · by_cases hl : 0 < len
     · have hz : ((len : Int) == 0) = false := by simp; omega
       have hz2 : decide (0 < len) = true := by simp [hl]
       have HZ2 := qh hz2
       clear hz2
       go_wp2
       go_meet
       case rel => exact ⟨by rw [HZ2.out]; simp, HBX, HBW⟩
     obtain rfl : len = 0 := by omega
     clear hl
     go_wp2
     go_meet
     case rel => exact ⟨by simp, HBX, HBW⟩
   cases hd
   · go_wp2_with (go_at_call 111; refine (refHead_any _ _ _ _ _ _ _ _ _ _ false HH.out).mono ?_; rintro e w1 ⟨rfl, hb⟩; obtain ⟨hc, hf⟩ := bcell hb; have HB := qh hb; clear hb)
     go_meet
     case rel => exact ⟨by simp, HBX.out.on HB.out, HBW.out.trans (HB.out.mono HBW.out.size)⟩
   cases rt
   · go_wp2_with (first | (go_at_call 111; refine (refHead_any _ _ _ _ _ _ _ _ _ _ true HH.out).mono ?_; rintro e w1 ⟨rfl, hb⟩; obtain ⟨hc, hf⟩ := bcell hb; have HB := qh hb; clear hb) | (go_at_call 112; refine (refSeq_any _ _ false HRT.out).mono ?_; rintro e w' ⟨rfl, rfl⟩))
     go_meet
     case rel => exact ⟨by simp, HBX.out.on HB.out, HBW.out.trans (HB.out.mono HBW.out.size)⟩
   by_cases hl : 0 < len
   · have hz : ((len : Int) == 0) = false := by simp; omega
     have hz2 : decide (0 < len) = true := by simp [hl]
     have HZ2 := qh hz2
     clear hz2
     go_wp2_with (first | (go_at_call 111; refine (refHead_any _ _ _ _ _ _ _ _ _ _ true HH.out).mono ?_; rintro e w1 ⟨rfl, hb⟩; obtain ⟨hc, hf⟩ := bcell hb; have HB := qh hb; clear hb) | (go_at_call 112; refine (refSeq_any _ _ true HRT.out).mono ?_; rintro e w' ⟨rfl, rfl⟩))
     go_meet
     case rel => exact ⟨by rw [HZ2.out]; simp, HBX.out.on HB.out, HBW.out.trans (HB.out.mono HBW.out.size)⟩
   obtain rfl : len = 0 := by omega
   clear hl
   go_wp2_with (first | (go_at_call 111; refine (refHead_any _ _ _ _ _ _ _ _ _ _ true HH.out).mono ?_; rintro e w1 ⟨rfl, hb⟩; obtain ⟨hc, hf⟩ := bcell hb; have HB := qh hb; clear hb) | (go_at_call 112; refine (refSeq_any _ _ true HRT.out).mono ?_; rintro e w' ⟨rfl, rfl⟩))
   go_meet
   case rel => exact ⟨by simp, HBX.out.on HB.out, HBW.out.trans (HB.out.mono HBW.out.size)⟩
  case rest =>
   clear hc0 hc1 hc2 hc3 hc4 hc5 hc6
   obtain ⟨rfl, HBX2, HBW2⟩ := hcut
   obtain ⟨cnd, hcn⟩ : ∃ cnd, cnd = ((nn || (hd && rt)) && decide (0 < len)) := ⟨_, rfl⟩
   rw [← hcn]
   cases cnd
   · have HC := qh hcn.symm
     clear hcn
     go_wp2
     go_ret
     refine says_mk (E12.out ?_).symm HBW2.out
     rintro ⟨q1, q2⟩
     have hx := HC.out
     rcases q1 with q1 | ⟨q1, q3⟩
     · rw [q1] at hx; simp at hx; omega
     rw [q1, q3] at hx; simp at hx; omega
   have hcn2 : (nn = true ∨ hd = true ∧ rt = true) ∧ 0 < len := by simpa using hcn.symm
   have HC := qh hcn2
   have hlen := hcn2.2
   clear hcn hcn2
   have hc6 := HBX2.out.c6
   by_cases h16 : 16 < len
   · go_wp2
     go_ret
     exact says_mk (E13.out HC.out (.inl h16)).symm HBW2.out
   have h16' : len ≤ 16 := by omega
   go_wp2_with fail
   go_loopw [90] (fun v90 wr => PlainAt w recs v90 wr) (fun v90 _ => len - (intOf v90).toNat)
   case atStart => exact plainAt_start w _ recs HBW2.out
   obtain ⟨j, hj, rfl, hno, hbel⟩ := hrel
   have HNO := qh hno
   have HBEL := qh hbel
   rw [← HLEN.out] at hj
   clear hno hbel
   by_cases hlt : j < len
   rotate_left
   · obtain rfl : j = len := by omega
     go_wp2
     go_ret
     refine says_mk (E0.out HC.out ?_).symm HBEL.out
     rintro (h | h)
     · omega
     exact not_long (by rw [← HLEN.out]; exact HNO.out) h
   obtain ⟨r, hrj⟩ : ∃ r, recs[j]? = some r := by
    have hjl : j < recs.length := by rw [← HLEN.out]; exact hlt
    exact ⟨_, List.getElem?_eq_getElem hjl⟩
   obtain ⟨bk, off, rfl, hbk, hcell⟩ : ∃ bk off, ad = some ⟨bk, off, none⟩ ∧ bk < w.heap.size ∧ ∀ i r, recs[i]? = some r → wr.cell? ⟨bk, off + i * 2, none⟩ = some (.string r.key) ∧ wr.cell? ⟨bk, off + i * 2 + 1, none⟩ = some (.string r.val) := by
    rcases HR.out.cells with h | ⟨bk, off, e, hlt, hc⟩
    · omega
    exact ⟨bk, off, e, hlt, fun i r hi => ⟨(HBEL.out.cell (p := ⟨bk, _, none⟩) hlt).trans (hc i r hi).1, (HBEL.out.cell (p := ⟨bk, _, none⟩) hlt).trans (hc i r hi).2⟩⟩
   obtain ⟨hk, hv⟩ := hcell j r hrj
   obtain ⟨hs1, hs2⟩ := HT.out r (List.mem_of_getElem? hrj)
   obtain ⟨ks, vs⟩ := r
   simp only at hk hv hs1 hs2
   have HRJ := qh hrj
   have HMEM : Hid ((⟨ks, vs⟩ : Rc) ∈ recs) := List.mem_of_getElem? hrj
   clear hcell hrj
   by_cases hk64 : 64 < ks.size
   · go_wp2
     go_ret
     exact says_mk (E13.out HC.out (.inr ⟨⟨ks, vs⟩, HMEM.out, .inl hk64⟩)).symm (HBEL.out.alloc HBEL.out.size _)
   have hk64' : ks.size ≤ 64 := by omega
   by_cases hv64 : 64 < vs.size
   · go_wp2
     go_ret
     exact says_mk (E13.out HC.out (.inr ⟨⟨ks, vs⟩, HMEM.out, .inr hv64⟩)).symm (HBEL.out.alloc HBEL.out.size _)
   have hv64' : vs.size ≤ 64 := by omega
   have HNO2 : Hid (∀ i r, i < j + 1 → recs[i]? = some r → ¬ longRec r) := by
    intro i r hi hir
    by_cases e : i = j
    · subst e
      rw [HRJ.out] at hir
      cases hir
      rintro (h | h)
      · exact hk64 h
      exact hv64 h
    exact HNO.out i r (by omega) hir
   have HLE : Hid (j + 1 ≤ recs.length) := by show _ ≤ _; rw [← HLEN.out]; exact hlt
   go_wp2
   go_roundw
   case rel => (repeat apply Exists.intro); exact ⟨⟨j + 1, HLE.out, by go_num, HNO2.out, HBEL.out.alloc HBEL.out.size _⟩, rfl⟩
   simp [intOf]; omega
theorem plain_any (w : World) (b : Bat) (ad : Option Addr) (cap : Nat) (hr : RecsAt w ad b.recs.length cap b.recs) (ht : TextsOk b.recs) (hL : b.recs.length ≤ 140737488355328) :
 Calls Tryz.prog 79 #[.agg #[.int .i64 b.base, .int .i64 b.prod, .int .i64 b.epoch, .int .i64 b.seq, .bool b.txn, .int .i64 b.marker, .slice ad b.recs.length cap]] w (Says (rightE b) w) := by
 by_cases h0 : b.base < 0
 · rw [e_low h0]
   go_enter Tryz.func79, Tryz.ntmps79
   go_wp2
   go_ret
   exact says_mk rfl (bal _ _)
 have h0' : 0 ≤ b.base := by omega
 by_cases h1 : 1099511627776 < b.base
 · rw [e_high h1]
   go_enter Tryz.func79, Tryz.ntmps79
   go_wp2
   go_ret
   exact says_mk rfl (bal _ _)
 by_cases hm : b.marker = 0
 · have e : (.int .i64 b.marker : Value) = .int .i64 b.marker := rfl
   exact plain_data w b ad cap hr ht h0' (by omega) hm hL
 exact plain_mark w b ad cap hr h0' (by omega) hm
end Go.Proofs.YtjmfdildnojknaaGreat
namespace Go.Proofs.YtjmfdildnojknaaGreat
open Go.RowKit Go.OpenShut
abbrev AllB (bs : List Nat) : Prop := ∀ x ∈ bs, x < 256
structure Byt (w : World) (ad : Option Addr) (len cap : Nat) (bs : List Nat) : Prop where
 length : bs.length = len
 fits : len ≤ cap
 all : AllB bs
 cells : len = 0 ∨ ∃ b off, ad = some ⟨b, off, none⟩ ∧ ∀ i, i < len → w.cell? ⟨b, off + i, none⟩ = some (.int .u8 (bs.getD i 0 : Nat))
theorem getD_all {bs : List Nat} (h : AllB bs) (k : Nat) : bs.getD k 0 < 256 := by
 rw [List.getD_eq_getElem?_getD]
 rcases hk : bs[k]? with _ | x
 · decide
 exact h x (List.mem_of_getElem? hk)
theorem take_all {bs : List Nat} (h : AllB bs) (k : Nat) : AllB (bs.take k) := fun x hx => h x (List.mem_of_mem_take hx)
def byte (b : Nat) : Value := .int .u8 (b : Int)
def vals (bs : List Nat) : List Value := bs.map byte
def Own (w : World) (g : Nat) (bs : List Nat) : Prop := w.heap[g]? = some (.cells (vals bs).toArray 5 (0, 0))
theorem length_vals (bs : List Nat) : (vals bs).length = bs.length := by simp [vals]
theorem vals_append (a b : List Nat) : vals (a ++ b) = vals a ++ vals b := by simp [vals]
theorem Own.cell {w : World} {g : Nat} {bs : List Nat} (h : Own w g bs) (i : Nat) (hi : i < bs.length) : w.cell? ⟨g, i, none⟩ = some (.int .u8 (bs.getD i 0 : Nat)) := by
 rw [cell_of_row w g i _ _ _ h]
 simp [vals, hi, byte]
theorem Own.byt {w : World} {g : Nat} {bs : List Nat} (h : Own w g bs) (ha : AllB bs) (cap : Nat) (hc : bs.length ≤ cap) : Byt w (some ⟨g, 0, none⟩) bs.length cap bs :=
 ⟨rfl, hc, ha, .inr ⟨g, 0, rfl, fun i hi => by rw [Nat.zero_add]; exact h.cell i hi⟩⟩
theorem Own.keep {w w' : World} {g : Nat} {bs : List Nat} (h : Own w g bs) {B : Nat} (hb : Below B w w') (hg : g < B) : Own w' g bs := by
 show w'.heap[g]? = _
 rw [hb.block g hg]; exact h
theorem Own.lt {w : World} {g : Nat} {bs : List Nat} (h : Own w g bs) : g < w.heap.size := (Array.getElem?_eq_some_iff.1 h).1
theorem Byt.keep {w w' : World} {ad : Option Addr} {len cap : Nat} {bs : List Nat} (h : Byt w ad len cap bs) {B : Nat} (hb : Below B w w') (hB : w.heap.size ≤ B) : Byt w' ad len cap bs := by
 refine ⟨h.length, h.fits, h.all, ?_⟩
 rcases h.cells with h0 | ⟨b, off, e, hc⟩
 · exact .inl h0
 refine .inr ⟨b, off, e, fun i hi => ?_⟩
 have := hc i hi
 rw [hb.cell (p := ⟨b, off + i, none⟩) (by have := World.block_lt_of_cell? w _ this; exact Nat.lt_of_lt_of_le this hB)]
 exact this
theorem own_made {w : World} {base g n : Nat} {xs : List Value} (h : w.ownsRow base 5 1 (.slice (some ⟨g, 0, none⟩) n n) n xs) : w.heap[g]? = some (.cells xs.toArray 5 (0, 0)) := by
 rcases h.2 with ⟨h', _⟩ | ⟨g', cap', cur, h', _, hg, _, _, hs, htake⟩
 · simp at h'
 simp only [Value.slice.injEq, Option.some.injEq, Addr.mk.injEq, and_true, true_and] at h'
 obtain ⟨rfl, rfl⟩ := h'
 rw [hg, ← htake, List.take_of_length_le (by simp [hs])]
theorem info5 : (Tryz.prog.info? 5).map (fun i => (i.zero, i.size, i.bytes)) = some (some (.int .u8 0), 1, 1) := by kernel_rfl
theorem own_zero {w : World} {g n : Nat} (h : w.heap[g]? = some (.cells (madeCells (Value.int .u8 0).cells (n * 1)).toList.toArray 5 (0, 0))) : Own w g (List.replicate n 0) := by
 show w.heap[g]? = _
 rw [h, Nat.mul_one]
 have : (madeCells (Value.int .u8 0).cells n).toList = vals (List.replicate n 0) := by
  have := toList_madeCells_one (.int .u8 0) n
  rw [show (Value.int .u8 0).cells = #[.int .u8 0] from rfl, this]
  simp [vals, byte]
 rw [this]
theorem size5 : (Tryz.prog.info? 5).map (·.size) = some 1 := by kernel_rfl
theorem vals_one (bs : List Nat) : ∀ v ∈ vals bs, v.oneCell' = true := by
 intro v hv
 obtain ⟨b, _, rfl⟩ := List.mem_map.1 hv
 rfl
theorem Byt.source {w : World} {ad : Option Addr} {len cap : Nat} {bs : List Nat} (h : Byt w ad len cap bs) (hp : 0 < len) : ∃ a, ad = some a ∧ ∀ j v, (vals bs)[j]? = some v → w.cell? (a.add j) = some v := by
 rcases h.cells with h0 | ⟨b, off, e, hc⟩
 · omega
 refine ⟨_, e, fun j v hj => ?_⟩
 have hjl : j < bs.length := by
  have := (List.getElem?_eq_some_iff.1 hj).1
  simpa [vals] using this
 have h1 := hc j (by rw [h.length] at hjl; exact hjl)
 have h2 : (⟨b, off, none⟩ : Addr).add j = ⟨b, off + j, none⟩ := by
  unfold Addr.add
  split
  · rename_i h3; subst h3; rfl
  rfl
 rw [h2, h1]
 rw [← hj]
 simp [vals, byte, hjl]
theorem Byt.alike {w w' : World} {ad : Option Addr} {len cap : Nat} {bs : List Nat} (h : Byt w ad len cap bs) (hc : ∀ a, w'.cell? a = w.cell? a) : Byt w' ad len cap bs := by
 refine ⟨h.length, h.fits, h.all, ?_⟩
 rcases h.cells with h0 | ⟨b, off, e, hc'⟩
 · exact .inl h0
 exact .inr ⟨b, off, e, fun i hi => (hc _).trans (hc' i hi)⟩
theorem Byt.drewN {w : World} {ad : Option Addr} {len cap : Nat} {bs : List Nat} (h : Byt w ad len cap bs) (n : Nat) : Byt (w.drewN n) ad len cap bs := h.alike fun a => by simp
theorem elem22 : Tryz.prog.underlying 30 = some (.slice (Tryz.prog.elem 30)) := by kernel_rfl
theorem sizeElem (w : World) : (sizeOf (Tryz.prog.elem 30)).run Tryz.prog w = .ok 1 w := by kernel_rfl
theorem run_from (b off len cap l : Nat) (h : l ≤ len) (w : World) :
 (Instr.slice 30 (.slice (some ⟨b, off, none⟩) len cap) (some (.int .i64 l)) none none).run Tryz.prog w = .ok (.slice (some ⟨b, if cap = l then off else off + l, none⟩) (len - l) (cap - l)) w := by
 rw [run_slice_l _ _ _ _ _ elem22 _ _ (by omega) (by omega), sizeElem]
 simp only [Result.andThen, sliced, Nat.mul_one, Int.toNat_natCast]
 congr 2
 by_cases h1 : cap = l
 · simp [h1]
 simp [h1, Addr.add]
theorem add_at (b o j : Nat) : (⟨b, o, none⟩ : Addr).add j = ⟨b, o + j, none⟩ := by
 unfold Addr.add
 split
 · rename_i h; subst h; rfl
 rfl
theorem source_at {w : World} {b o : Nat} {r : List Value} (h : ∃ a, some (⟨b, o, none⟩ : Addr) = some a ∧ ∀ j v, r[j]? = some v → w.cell? (a.add j) = some v) : ∀ j v, r[j]? = some v → w.cell? ⟨b, o + j, none⟩ = some v := by
 obtain ⟨a, ha, hs⟩ := h
 obtain rfl := Option.some.inj ha
 intro j v hj
 rw [← add_at]; exact hs j v hj
def Pre (w : World) (g : Nat) (bs : List Nat) : Prop := ∃ cur : Array Value, w.heap[g]? = some (.cells cur 5 (0, 0)) ∧ cur.toList.take bs.length = vals bs
theorem Pre.cell {w : World} {g : Nat} {bs : List Nat} (h : Pre w g bs) (i : Nat) (hi : i < bs.length) : w.cell? ⟨g, i, none⟩ = some (.int .u8 (bs.getD i 0 : Nat)) := by
 obtain ⟨cur, hg, ht⟩ := h
 rw [cell_of_row w g i _ _ _ hg]
 have h1 : (cur.toList.take bs.length)[i]? = cur[i]? := by rw [List.getElem?_take, if_pos hi]; simp
 rw [← h1, ht]
 simp [vals, hi, byte]
theorem Pre.byt {w : World} {g : Nat} {bs : List Nat} (h : Pre w g bs) (ha : AllB bs) (cap : Nat) (hc : bs.length ≤ cap) : Byt w (some ⟨g, 0, none⟩) bs.length cap bs :=
 ⟨rfl, hc, ha, .inr ⟨g, 0, rfl, fun i hi => by rw [Nat.zero_add]; exact h.cell i hi⟩⟩
theorem pre_owns {w : World} {base g n cap : Nat} {bs : List Nat} (h : w.ownsRow base 5 1 (.slice (some ⟨g, 0, none⟩) n cap) n (vals bs)) : Pre w g bs ∧ bs.length = n ∧ n ≤ cap ∧ base ≤ g ∧ cap ≤ maxLen := by
 have hl := h.1
 rcases h.2 with ⟨h', _⟩ | ⟨g', cap', cur, h', hb, hg, hc, hm, hs, htake⟩
 · simp at h'
 simp only [Value.slice.injEq, Option.some.injEq, Addr.mk.injEq, and_true, true_and] at h'
 obtain ⟨rfl, rfl⟩ := h'
 have hn : bs.length = n := by simpa [length_vals] using hl
 exact ⟨⟨cur, hg, by rw [hn]; simpa using htake⟩, hn, hc, hb, hm⟩
def Made (w : World) (bs : List Nat) (v : Value) (w' : World) : Prop := ∃ g cap, v = .slice (some ⟨g, 0, none⟩) bs.length cap ∧ bs.length ≤ cap ∧ w.heap.size ≤ g ∧ Pre w' g bs ∧ Below w.heap.size w w'
def GivesMade (w : World) (bs : List Nat) (e : Ending) (w' : World) : Prop := ∃ v, e = .returned v ∧ Made w bs v w'
theorem made_of {w w' : World} {bs : List Nat} {v' : Value} (h : w'.ownsRow w.heap.size 5 1 v' bs.length (vals bs)) (hn : 0 < bs.length) (hb : Below w.heap.size w w') : Made w bs v' w' := by
 rcases h.2 with ⟨h', h0⟩ | ⟨g', cap', cur, rfl, _⟩
 · omega
 obtain ⟨h1, h2, h3, h4, h5⟩ := pre_owns h
 exact ⟨g', cap', rfl, h3, h4, h1, hb⟩
def str (bs : List Nat) : ByteArray := ⟨(bs.map UInt8.ofNat).toArray⟩
theorem foldl_push (bs : List Int) (s : ByteArray) : (bs.foldl (fun r n => r.push (UInt8.ofNat n.toNat)) s).data.toList = s.data.toList ++ bs.map (fun n => UInt8.ofNat n.toNat) := by
 induction bs generalizing s with
 | nil => simp
 | cons b bs ih => rw [List.foldl_cons, ih]; simp [ByteArray.push]
theorem str_eq (bs : List Nat) : ((bs.map Int.ofNat).foldl (fun r n => r.push (UInt8.ofNat n.toNat)) ByteArray.empty) = str bs := by
 apply ByteArray.ext
 apply Array.toList_inj.1
 rw [foldl_push]
 have e : (ByteArray.empty : ByteArray).data.toList = [] := rfl
 rw [e]
 simp [str, Function.comp_def]
theorem ints_vals (bs : List Nat) : (bs.map Int.ofNat).map (Value.int .u8) = vals bs := by simp only [vals, List.map_map]; rfl
theorem run_str {w : World} {ad : Option Addr} {len cap : Nat} {bs : List Nat} (h : Byt w ad len cap bs) : (convert 30 9 (.slice ad len cap)).run Tryz.prog w = .ok (.string (str bs)) w := by
 rw [run_convert_bytes_string w 30 9 5 ad len cap Tryz.underlying30 Tryz.underlying5 Tryz.underlying9]
 rcases ad with _ | a
 · have : len = 0 := by
    rcases h.cells with h0 | ⟨b, off, e, _⟩
    · exact h0
    cases e
   subst this
   obtain rfl : bs = [] := List.eq_nil_of_length_eq_zero h.length
   simp [Conv.bytesToString, Sem.run_pure, str]; rfl
 have hl := h.length
 have hc : ∀ j v, (vals bs)[j]? = some v → w.cell? (a.add j) = some v := by
  intro j v hj
  have hjl : j < bs.length := by
   have := (List.getElem?_eq_some_iff.1 hj).1
   rwa [length_vals] at this
  obtain ⟨a', ha', hs⟩ := h.source (by omega)
  obtain rfl := Option.some.inj ha'
  exact hs j v hj
 have h1 := run_loadCells_list (P := Tryz.prog) (w := w) a (vals bs) hc
 rw [length_vals, hl, ← ints_vals] at h1
 rw [run_bytesToString w a len cap _ h1, str_eq]
theorem str_toList (bs : List Nat) : (str bs).toList = bs.map UInt8.ofNat := by rw [ByteArray.toList_eq]; simp [str]
theorem str_inj {a b : List Nat} (ha : AllB a) (hb : AllB b) (h : (str a).toList = (str b).toList) : a = b := by
 rw [str_toList, str_toList] at h
 have h2 := congrArg (List.map UInt8.toNat) h
 rw [List.map_map, List.map_map] at h2
 have e : ∀ l : List Nat, AllB l → l.map (UInt8.toNat ∘ UInt8.ofNat) = l := by
  intro l hl
  conv => rhs; rw [← List.map_id l]
  apply List.map_congr_left
  intro x hx
  have := hl x hx
  simp [Nat.mod_eq_of_lt this]
 rwa [e a ha, e b hb] at h2
theorem str_same (bs : List Nat) : ((str bs).toList == (str bs).toList) = true := by simp
theorem str_differ {a b : List Nat} (ha : AllB a) (hb : AllB b) (h : a ≠ b) : ((str a).toList == (str b).toList) = false := by
 simp only [beq_eq_false_iff_ne, ne_eq]
 exact fun e => h (str_inj ha hb e)
theorem own_new (w : World) (bs : List Nat) : Own (w.alloc (.cells (vals bs).toArray 5)) w.heap.size bs := heap_alloc_new w _
theorem Byt.nil (w : World) : Byt w none 0 0 [] := ⟨rfl, Nat.le_refl _, (fun x hx => by cases hx), .inl rfl⟩
theorem all_small {bs : List Nat} (h : bs.all (· < 256) = true) : AllB bs := by
 intro x hx
 have := List.all_eq_true.1 h x hx
 simpa using this
theorem run_str_at {w : World} {ad : Option Addr} {len cap : Nat} {bs : List Nat} {s : ByteArray} (h : Byt w ad len cap bs) (hs : s = str bs) : (convert 30 9 (.slice ad len cap)).run Tryz.prog w = .ok (.string s) w := by
 rw [hs]; exact run_str h
theorem news_of {w : World} {b o len cap : Nat} {r : List Nat} (h : Byt w (some ⟨b, o, none⟩) len cap r) : ∀ j u, (vals r)[j]? = some u → w.cell? ((⟨b, o, none⟩ : Addr).add j) = some u := by
 intro j u hj
 have hjl : j < r.length := by
  have := (List.getElem?_eq_some_iff.1 hj).1
  rwa [length_vals] at this
 obtain ⟨a', ha', hs⟩ := h.source (by have := h.length; omega)
 obtain rfl := Option.some.inj ha'
 exact hs j u hj
theorem made_some {w w' : World} {bs : List Nat} {v' : Value} (h : w'.ownsRow w.heap.size 5 1 v' bs.length (vals bs)) (hn : v' ≠ .slice none 0 0) (hb : Below w.heap.size w w') : Made w bs v' w' := by
 rcases h.2 with ⟨h', h0⟩ | ⟨g', cap', cur, rfl, _⟩
 · exact absurd h' hn
 obtain ⟨h1, h2, h3, h4, h5⟩ := pre_owns h
 exact ⟨g', cap', rfl, h3, h4, h1, hb⟩
def IsRow (k : IntKind) (w : World) (a : Option Addr) (len cap : Nat) (zs : List Int) : Prop :=
 (a = none ∧ len = 0 ∧ cap = 0 ∧ zs = []) ∨
 ∃ x, a = some x ∧ len ≤ cap ∧ cap ≤ maxLen ∧ zs.length = cap ∧ (∀ i, i < zs.length → w.cell? (x.add i) = some (.int k (zs.getD i 0))) ∧ ∀ n ∈ zs, (Lit.int k n).wf = true
def bytesOf (len : Nat) (zs : List Int) : List Nat := (zs.take len).map Int.toNat
theorem wf_byte {n : Int} (h : (Lit.int .u8 n).wf = true) : 0 ≤ n ∧ n < 256 := by
 have := bounds_u8 h
 omega
theorem IsRow.byt {w : World} {a : Option Addr} {len cap : Nat} {zs : List Int} (h : IsRow .u8 w a len cap zs) : Byt w a len cap (bytesOf len zs) ∧ (a = none → cap = 0) := by
 rcases h with ⟨rfl, rfl, rfl, rfl⟩ | ⟨x, rfl, hl, hm, hz, hc, hw⟩
 · exact ⟨Byt.nil w, fun _ => rfl⟩
 refine ⟨⟨by simp [bytesOf]; omega, hl, ?_, ?_⟩, fun e => by cases e⟩
 · intro y hy
   obtain ⟨n, hn, rfl⟩ := List.mem_map.1 hy
   have := wf_byte (hw n (List.mem_of_mem_take hn))
   omega
 by_cases h0 : len = 0
 · exact .inl h0
 obtain ⟨b, off, spot⟩ := x
 have h1 := hc 0 (by omega)
 have hs : spot = none := by simpa [Addr.add] using World.cell?_spot h1
 subst hs
 refine .inr ⟨b, off, rfl, fun i hi => ?_⟩
 have h2 := hc i (by omega)
 rw [add_at] at h2
 rw [h2]
 have hi2 : i < zs.length := by omega
 have h3 := wf_byte (hw (zs.getD i 0) (by rw [List.getD_eq_getElem?_getD, List.getElem?_eq_getElem hi2]; simp))
 have h4 : ((bytesOf len zs).getD i 0 : Nat) = (zs.getD i 0).toNat := by
  simp [bytesOf, List.getD_eq_getElem?_getD, hi, hi2]
 rw [h4, Int.toNat_of_nonneg h3.1]
def Row (w : World) (ad : Option Addr) (len cap : Nat) (bs : List Nat) : Prop := Byt w ad len cap bs ∧ (ad = none → cap = 0)
theorem Row.keep {w w' : World} {ad : Option Addr} {len cap : Nat} {bs : List Nat} (h : Row w ad len cap bs) {B : Nat} (hb : Below B w w') (hB : w.heap.size ≤ B) : Row w' ad len cap bs := ⟨h.1.keep hb hB, h.2⟩
theorem Row.all {w : World} {ad : Option Addr} {len cap : Nat} {bs : List Nat} (h : Row w ad len cap bs) : AllB bs := h.1.all
theorem Row.len {w : World} {ad : Option Addr} {len cap : Nat} {bs : List Nat} (h : Row w ad len cap bs) : bs.length = len := h.1.length
theorem append_row {w : World} {ops : Array Oper} {rest : List Oper} {o : Oper} {a : Act} {Q : Exit → Act → World → Prop} (hgd : o.guard = none) (s x : Operand)
 (ho : o.op = .call { callee := .builtin .append, args := #[s, x], argTypes := #[30, 30] })
 (base n : Nat) (xs ys : List Nat) (v : Value) (hs : a.eval s = v) (hown : w.ownsRow base 5 1 v n (vals xs)) (hv : v ≠ .slice none 0 0) (hbase : base ≤ w.heap.size)
 (ad : Option Addr) (len cap : Nat) (hx : a.eval x = .slice ad len cap) (hr : Row w ad len cap ys) (hn : n + len ≤ 140737488355328)
 (w0 : World) (hb0 : Below base w0 w)
 (h : ∀ g cp w', w'.ownsRow base 5 1 (.slice (some ⟨g, 0, none⟩) (n + len) cp) (n + len) (vals (xs ++ ys)) → Below base w0 w' → wpList Tryz.prog ops Q rest (a.put o.dst (.slice (some ⟨g, 0, none⟩) (n + len) cp)) w') :
 wpList Tryz.prog ops Q (o :: rest) a w := by
 obtain ⟨i0, hi, hz0, hz1, hz2⟩ := info_parts info5
 rcases ad with _ | ad
 · have hcap := hr.2 rfl
   have hl := hr.1.fits
   have hyl := hr.1.length
   subst hcap
   obtain rfl : len = 0 := by omega
   obtain rfl : ys = [] := List.eq_nil_of_length_eq_zero hyl
   refine wpList_append_own_none hgd s x 30 ho base 5 i0 1 Tryz.underlying30 hi v n (vals xs) hs hown hx ?_
   rcases hown.2 with ⟨h', _⟩ | ⟨g, cp, cur, rfl, _⟩
   · exact absurd h' hv
   exact h g cp w (by simpa using hown) hb0
 refine wpList_append_own _ hgd s x 30 ho base 5 i0 (.int .u8 0) 1 1 Tryz.underlying30 hi hz0 hz1 hz2 rfl (by decide) v n (vals xs) hs hown ad len cap (vals ys) hx (by rw [length_vals, hr.1.length]; simp) (by
  intro j u hj
  have hjl : j < ys.length := by
   have := (List.getElem?_eq_some_iff.1 hj).1
   rwa [length_vals] at this
  obtain ⟨a', ha', hs'⟩ := hr.1.source (by have := hr.1.length; omega)
  obtain rfl := Option.some.inj ha'
  exact hs' j u hj) (vals_one ys) (by unfold maxLen; omega) (by omega) hbase ?_
 intro v' w' hown' hgrow hnn
 rw [← vals_append] at hown'
 have hb : Below base w0 w' := hb0.grown hgrow hbase (fun k hk => (hown.lt k hk).1)
 rcases hown'.2 with ⟨h', _⟩ | ⟨g, cp, cur, rfl, _⟩
 · exact absurd (hnn.1 h').1 hv
 exact h g cp w' hown' hb
theorem own_empty (W : World) (base : Nat) (h : base ≤ W.heap.size) : (W.alloc (.cells #[] 5)).ownsRow base 5 1 (.slice (some ⟨W.heap.size, 0, none⟩) 0 0) 0 (vals []) := World.ownsRow_lit (e := 5) (size := 1) W #[] 0 h (by decide) rfl
theorem some_ne (a : Addr) (l c : Nat) : (Value.slice (some a) l c) ≠ .slice none 0 0 := by intro h; cases h
theorem owns_row {w : World} {base n g cp : Nat} {bs : List Nat} (h : w.ownsRow base 5 1 (.slice (some ⟨g, 0, none⟩) n cp) n (vals bs)) (ha : AllB bs) : Row w (some ⟨g, 0, none⟩) n cp bs := by
 obtain ⟨h1, h2, h3, h4, h5⟩ := pre_owns h
 have := h1.byt ha cp (by omega)
 rw [h2] at this
 exact ⟨this, fun h => by cases h⟩
theorem all_append {a b : List Nat} (ha : AllB a) (hb : AllB b) : AllB (a ++ b) := by
 intro x hx
 rcases List.mem_append.1 hx with h | h
 · exact ha x h
 exact hb x h
theorem all_one : AllB [1] := all_small (by decide)
theorem owns_keep {w w' : World} {base e size n : Nat} {v : Value} {xs : List Value} (h : w.ownsRow base e size v n xs) {B : Nat} (hb : Below B w w') (hB : w.heap.size ≤ B) : w'.ownsRow base e size v n xs := by
 refine ⟨h.1, ?_⟩
 rcases h.2 with h0 | ⟨g, cap, cur, hv, hg, hh, r⟩
 · exact .inl h0
 refine .inr ⟨g, cap, cur, hv, hg, ?_, r⟩
 rw [hb.block g (Nat.lt_of_lt_of_le (Array.getElem?_eq_some_iff.1 hh).1 hB)]
 exact hh
theorem xor_some (a b : Int) : ∃ z : Nat, z < 256 ∧ bits .xor .u8 a b = (z : Int) := by
 have h : ∀ n : Int, 0 ≤ IntKind.u8.wrap n ∧ IntKind.u8.wrap n < 256 := fun n => by rw [IntKind.wrap_u8]; omega
 obtain ⟨n, hn⟩ : ∃ n : Int, bits .xor .u8 a b = IntKind.u8.wrap n := ⟨_, rfl⟩
 have := h n
 exact ⟨(IntKind.u8.wrap n).toNat, by omega, by rw [hn]; omega⟩
theorem cut_row {w : World} {a : Addr} {len cap : Nat} {bs : List Nat} (h : Row w (some a) len cap bs) (l : Nat) (hl : l ≤ len) : Row w (some a) l cap (bs.take l) := by
 refine ⟨⟨by rw [List.length_take, h.1.length]; omega, Nat.le_trans hl h.1.fits, take_all h.all l, ?_⟩, fun h => by cases h⟩
 rcases h.1.cells with h0 | ⟨b, off, e, hc⟩
 · exact .inl (by omega)
 refine .inr ⟨b, off, e, fun i hi => ?_⟩
 rw [hc i (by omega)]
 have : (bs.take l).getD i 0 = bs.getD i 0 := by rw [List.getD_eq_getElem?_getD, List.getElem?_take, if_pos hi, ← List.getD_eq_getElem?_getD]
 rw [this]
theorem wpAnyH_strengthen {P : Program} {md : Region.Mode} {ops : Array Oper} {Q : Exit → Act → World → Prop} {S S' : World → Prop} (h : ∀ w, S' w → S w) :
 ∀ (fuel : Nat) (listed : Array Bool) (a : Act) (w : World), wpAnyH P md ops Q S' fuel listed a w → wpAnyH P md ops Q S fuel listed a w
 | 0, _, _, _, hh => hh
 | fuel + 1, _, _, _, hh => ⟨hh.1, fun i hi => wpOp_mono (fun _ _ hk => ⟨h _ hk.1, wpAnyH_strengthen h fuel _ _ _ hk.2⟩) (hh.2 i hi)⟩
def Reads (w : World) (v : Value) (s : ByteArray) : Prop := ∀ W, Below w.heap.size w W → (convert 30 9 v).run Tryz.prog W = .ok (.string s) W
end Go.Proofs.YtjmfdildnojknaaGreat
namespace Go.Proofs.YtjmfdildnojknaaGreat
open Go.RowKit
open Go.VarMath hiding AllB
theorem wrap_u64' (n : Int) : IntKind.u64.wrap n = n % 18446744073709551616 := by simp [IntKind.wrap, IntKind.bits, IntKind.signed]
theorem u64_keep (a : Nat) (ha : a < 18446744073709551616) : bits .xor .u64 (a : Int) 0 = (a : Int) := by
 have := u64_xor_nat a 0 ha (by decide)
 rw [Nat.xor_zero] at this
 exact this
theorem u64_flip (a : Nat) (ha : a < 18446744073709551616) : bits .xor .u64 (a : Int) 18446744073709551615 = 18446744073709551615 - (a : Int) := by
 show IntKind.u64.wrap ((BitVec.ofInt 64 (a : Int) ^^^ BitVec.ofInt 64 18446744073709551615).toNat : Int) = _
 have h1 : BitVec.ofInt 64 18446744073709551615 = BitVec.allOnes 64 := by decide
 rw [h1, BitVec.xor_allOnes, BitVec.toNat_not, ofInt_u64 a ha, wrap_u64']
 omega
theorem i64_flip (a : Nat) (ha : a < 9223372036854775808) : bits .xor .i64 (a : Int) (-1) = -1 - (a : Int) := by
 show IntKind.i64.wrap ((BitVec.ofInt 64 (a : Int) ^^^ BitVec.ofInt 64 (-1)).toNat : Int) = _
 have h1 : BitVec.ofInt 64 (-1) = BitVec.allOnes 64 := by decide
 rw [h1, BitVec.xor_allOnes, BitVec.toNat_not, ofInt_u64 a (by omega)]
 simp [IntKind.wrap, IntKind.bits, IntKind.signed]
 omega
theorem i64_keep (a : Nat) (ha : a < 9223372036854775808) : bits .xor .i64 (a : Int) 0 = (a : Int) := by
 show IntKind.i64.wrap ((BitVec.ofInt 64 (a : Int) ^^^ BitVec.ofInt 64 0).toNat : Int) = _
 have h1 : BitVec.ofInt 64 0 = 0#64 := by decide
 rw [h1, BitVec.xor_zero, ofInt_u64 a (by omega)]
 simp [IntKind.wrap, IntKind.bits, IntKind.signed]
 omega
theorem and_one (u : Nat) (hu : u < 18446744073709551616) : bits .and .u64 (u : Int) 1 = ((u % 2 : Nat) : Int) := by
 have := u64_and_nat u 1 hu (by decide)
 rw [nat_mask1] at this
 exact this
theorem ret_u64 {a b : Int} (h : a = b) : Ending.returned (.int .u64 a) = .returned (.int .u64 b) := by rw [h]
theorem ret_i64 {a b : Int} (h : a = b) : Ending.returned (.int .i64 a) = .returned (.int .i64 b) := by rw [h]
theorem zig_pos (n : Int) (h0 : 0 ≤ n) (h1 : n ≤ 9223372036854775807) : bits .xor .u64 (n * 2) (n / 9223372036854775808) = ((zig n : Nat) : Int) := by
 have h2 := zig_nonneg h0
 have h3 : n / 9223372036854775808 = 0 := by omega
 have h4 : n * 2 = ((zig n : Nat) : Int) := by omega
 have h5 := zig_lt (n := n) (by omega) h1
 rw [h3, h4, u64_keep _ h5]
theorem zig_minus (n : Int) (h0 : n < 0) (h1 : -9223372036854775808 ≤ n) (a b : Int) (ha : a = n * 2 % 18446744073709551616) (hb : b = 18446744073709551615) : bits .xor .u64 a b = ((zig n : Nat) : Int) := by
 have h2 := zig_neg h0
 have h3 : a = (((18446744073709551615 - zig n : Nat)) : Int) := by omega
 have h5 := zig_lt (n := n) h1 (by omega)
 rw [h3, hb, u64_flip _ (by omega)]
 omega
theorem row_byte (W : World) (n : Nat) (hn : n < 256) : Row (W.alloc (.cells #[.int .u8 (n : Int)] 5)) (some ⟨W.heap.size, 0, none⟩) 1 1 [n] :=
 ⟨(own_new W [n]).byt (fun x hx => by simp at hx; omega) 1 (by simp), fun h => by cases h⟩
theorem wrap_u8' (n : Int) : IntKind.u8.wrap n = n % 256 := by simp [IntKind.wrap, IntKind.bits, IntKind.signed]
theorem unsigned_any (n : Int) (w : World) (h0 : -9223372036854775808 ≤ n) (h1 : n ≤ 9223372036854775807) :
 Calls Tryz.prog 173 #[.int .i64 n] w fun e w' => e = .returned (.int .u64 (zig n : Nat)) ∧ w = w' := by
 by_cases hn : 0 ≤ n
 · go_enter Tryz.func173, Tryz.ntmps173
   go_wp2
   go_ret
   exact ⟨ret_u64 (zig_pos n hn h1), rfl⟩
 have hn' : n < 0 := by omega
 go_enter Tryz.func173, Tryz.ntmps173
 go_wp2
 go_ret
 exact ⟨ret_u64 (zig_minus n hn' h0 _ _ (by rw [wrap_u64', wrap_u64']; omega) (by rw [wrap_u64']; omega)), rfl⟩
theorem zag_bits (u : Nat) (hu : u < 18446744073709551616) (a : Int) (ha : a = -((u % 2 : Nat) : Int)) : bits .xor .i64 ((u : Int) / 2) a = zag u := by
 have h2 : (u : Int) / 2 = ((u / 2 : Nat) : Int) := by omega
 rw [h2]
 unfold zag
 by_cases h : u % 2 = 0
 · have h3 : a = 0 := by omega
   rw [if_pos h, h3, i64_keep _ (by omega)]
 have h3 : a = -1 := by omega
 rw [if_neg h, h3, i64_flip _ (by omega)]
 omega
theorem zag_arg (u : Nat) (hu : u < 18446744073709551616) : wrap64 (-wrap64 (bits .and .u64 (u : Int) 1)) = -((u % 2 : Nat) : Int) := by
 rw [and_one u hu]
 have h1 : wrap64 ((u % 2 : Nat) : Int) = ((u % 2 : Nat) : Int) := by unfold wrap64; omega
 rw [h1]; unfold wrap64; omega
theorem signed_any (u : Nat) (w : World) (hu : u < 18446744073709551616) :
 Calls Tryz.prog 180 #[.int .u64 u] w fun e w' => e = .returned (.int .i64 (zag u)) ∧ w = w' := by
 go_enter Tryz.func180, Tryz.ntmps180
 go_wp2
 go_ret
 exact ⟨ret_i64 (zag_bits u hu _ (zag_arg u hu)), rfl⟩
def GivesRow (w : World) (bs : List Nat) (e : Ending) (w' : World) : Prop := ∃ g cap, e = .returned (.slice (some ⟨g, 0, none⟩) bs.length cap) ∧ w'.ownsRow w.heap.size 5 1 (.slice (some ⟨g, 0, none⟩) bs.length cap) bs.length (vals bs) ∧ Below w.heap.size w w'
theorem gives_row {w w' : World} {bs : List Nat} {g cap n : Nat} (hn : bs.length = n) (h : w'.ownsRow w.heap.size 5 1 (.slice (some ⟨g, 0, none⟩) n cap) n (vals bs)) (hb : Below w.heap.size w w') : GivesRow w bs (.returned (.slice (some ⟨g, 0, none⟩) n cap)) w' := by
 subst hn; exact ⟨g, cap, rfl, h, hb⟩
theorem run_make_part (W : World) (l c : Nat) (h : l ≤ c) (hc : c ≤ 281474976710656) :
 (Instr.makeSlice 30 (.int .i64 (l : Int)) (.int .i64 (c : Int))).run Tryz.prog W = .ok (.slice (some ⟨W.heap.size, 0, none⟩) l c) (W.alloc (.cells (vals (List.replicate c 0)).toArray 5)) := by
 obtain ⟨i0, hi, hz0, hz1, hz2⟩ := info_parts info5
 have hr := run_make (P := Tryz.prog) W 30 5 i0 (.int .u8 0) Tryz.underlying30 hi hz0 .i64 .i64 l c (by omega) (by omega) (by rw [hz2]; omega) (by omega)
 simp only [Int.toNat_natCast] at hr
 rw [hr]
 congr 3
 have h2 : (madeCells (Value.int .u8 0).cells c).toList = vals (List.replicate c 0) := by
  have := toList_madeCells_one (.int .u8 0) c
  rw [show (Value.int .u8 0).cells = #[.int .u8 0] from rfl, this]
  simp [vals, byte]
 rw [hz1, Nat.mul_one]
 apply Array.toList_inj.1
 rw [h2]
theorem splice_front (n m : Nat) (bs : List Nat) (h : bs.length = n) : splice (vals (List.replicate (n + m) 0)) 0 (vals bs) = vals (bs ++ List.replicate m 0) := by
 subst h
 rw [splice, List.take_zero, List.nil_append, Nat.zero_add, length_vals, vals_append]
 congr 1
 simp [vals]
theorem owns_front {w w' : World} {g n m : Nat} {bs : List Nat} (hn : bs.length = n) (h : Own w' g (bs ++ List.replicate m 0)) (hg : w.heap.size ≤ g) (hm : n + m ≤ maxLen) :
 w'.ownsRow w.heap.size 5 1 (.slice (some ⟨g, 0, none⟩) n (n + m)) n (vals bs) := by
 subst hn
 refine ⟨by rw [length_vals]; omega, .inr ⟨g, _, _, rfl, hg, h, by omega, hm, by simp [vals], ?_⟩⟩
 rw [Nat.mul_one, vals_append, List.take_append_of_le_length (by rw [length_vals]; omega), List.take_of_length_le (by rw [length_vals]; omega)]
theorem roomy_any (w : World) (ad : Option Addr) (len cap n : Nat) (bs : List Nat) (h : Row w ad len cap bs) (hL : len ≤ 140737488355328) (hn : n ≤ 16) :
 Calls Tryz.prog 172 #[.slice ad len cap, .int .i64 n] w (GivesRow w bs) := by
 have HB := qh h
 clear h
 have hmk := fun W => run_make_part W len (len + n) (by omega) (by omega)
 have hcast : ((len + n : Nat) : Int) = (len : Int) + (n : Int) := by omega
 rw [hcast] at hmk
 clear hcast
 have hO := own_new w (List.replicate (len + n) 0)
 have hZ : Below w.heap.size w (w.alloc (.cells (vals (List.replicate (len + n) 0)).toArray 5)) := (bal _ _)
 have HO := qh hO
 have HZ := qh hZ
 have HR := qh (HB.out.keep hZ (Nat.le_refl _))
 clear hO hZ
 go_enter Tryz.func172, Tryz.ntmps172
 go_wp2_with (with_reducible refine wpList_copy_splice rfl (.tmp 13) (.tmp 14) 30 30 rfl 5 Tryz.underlying30 size5 _ _ _ _ _ _ rfl rfl w.heap.size 0 (vals (List.replicate (len + n) 0)) 5 ?_ (vals bs) ?_ ?_ ?_ (vals_one bs) w.heap.size w ?_ (Nat.le_refl _) ?_)
 · exact HO.out
 · rw [length_vals, HB.out.len]; simp
 · intro hp
   rw [length_vals, HB.out.len] at hp
   exact HR.out.1.source hp
 · rw [length_vals, length_vals, HB.out.len]; simp
 · exact HZ.out
 intro w2 HG2 hB2
 have R : Hid (Own w2 w.heap.size (bs ++ List.replicate n 0)) := by
  have h1 := HG2.out
  rw [splice_front _ _ _ HB.out.len] at h1
  exact h1
 clear HG2
 go_wp2
 go_ret
 exact gives_row HB.out.len (owns_front HB.out.len R.out (Nat.le_refl _) (by unfold maxLen; omega)) hB2
theorem low7 (v : Nat) (h : v < 18446744073709551616) : bits .and .u64 (v : Int) 127 = ((v % 128 : Nat) : Int) := by
 have := u64_and_nat v 127 h (by decide)
 rw [nat_mask7] at this
 exact this
theorem nat_or128 : ∀ x : Fin 256, x.val ||| 128 = x.val % 128 + 128 := by decide +kernel
theorem hi7 (x : Nat) (h : x < 256) : bits .or .u8 (x : Int) 128 = ((x % 128 + 128 : Nat) : Int) := by
 have := u8_or_nat x 128 h (by decide)
 rw [nat_or128 ⟨x, h⟩] at this
 exact this
def PutAt (w : World) (bs : List Nat) (u : Nat) (v5 v6 : Value) (wr : World) : Prop :=
 ∃ (f v g cap n : Nat) (pre : List Nat), encU u = pre ++ gr f v ∧ pre.length + f = 9 ∧ v < 2 * 128 ^ f ∧ v < 18446744073709551616 ∧ AllB pre ∧ n = bs.length + pre.length ∧
   v6 = .int .u64 v ∧ v5 = .slice (some ⟨g, 0, none⟩) n cap ∧ wr.ownsRow w.heap.size 5 1 (.slice (some ⟨g, 0, none⟩) n cap) n (vals (bs ++ pre)) ∧ Below w.heap.size w wr
theorem putAt_step {w w' : World} {bs pre : List Nat} {u f v g cap n : Nat} (hu : encU u = pre ++ gr f v) (hf : pre.length + f = 9) (h2 : v < 2 * 128 ^ f) (h6 : v < 18446744073709551616) (ha : AllB pre) (hn : n = bs.length + pre.length) (hv : 127 < v)
 (hown : w'.ownsRow w.heap.size 5 1 (.slice (some ⟨g, 0, none⟩) (n + 1) cap) (n + 1) (vals (bs ++ (pre ++ [v % 128 + 128])))) (hb : Below w.heap.size w w') :
 PutAt w bs u (.slice (some ⟨g, 0, none⟩) (n + 1) cap) (.int .u64 ((v / 128 : Nat) : Int)) w' := by
 cases f with
 | zero => simp at h2; omega
 | succ f =>
   refine ⟨f, v / 128, g, cap, n + 1, pre ++ [v % 128 + 128], ?_, by simp; omega, ?_, by omega, ?_, by simp; omega, rfl, rfl, hown, hb⟩
   · rw [hu, gr_big _ _ (by omega), List.append_assoc]; rfl
   · rw [Nat.pow_succ] at h2; omega
   exact all_append ha (fun x hx => by simp at hx; omega)
theorem putAt_start {w wr : World} {bs : List Nat} {u g cap n : Nat} (hu : u < 18446744073709551616) (hn : bs.length = n) (hown : wr.ownsRow w.heap.size 5 1 (.slice (some ⟨g, 0, none⟩) n cap) n (vals bs)) (hb : Below w.heap.size w wr) :
 PutAt w bs u (.slice (some ⟨g, 0, none⟩) n cap) (.int .u64 (u : Int)) wr :=
 ⟨9, u, g, cap, n, [], rfl, rfl, by rw [pow9]; omega, hu, (fun x hx => by cases hx), by simp [hn], rfl, rfl, by rw [List.append_nil]; exact hown, hb⟩
theorem put_end {pre bs : List Nat} {u f v : Nat} (hu : encU u = pre ++ gr f v) (hv : ¬ 127 < v) : bs ++ (pre ++ [v]) = bs ++ encU u := by
 rw [hu, gr_small _ _ (by omega)]
theorem put_any (w : World) (ad : Option Addr) (len cap : Nat) (bs : List Nat) (n : Int) (h : Row w ad len cap bs) (hL : len ≤ 140737488355300) (h0 : -9223372036854775808 ≤ n) (h1 : n ≤ 9223372036854775807) :
 Calls Tryz.prog 154 #[.slice ad len cap, .int .i64 n] w (GivesRow w (bs ++ encN n)) := by
 have HB := qh h
 have hu := zig_lt h0 h1
 clear h
 go_enter Tryz.func154, Tryz.ntmps154
 go_wp2_with fail
 refine (roomy_any w ad len cap 10 bs HB.out (by omega) (by omega)).mono ?_
 rintro e w1 ⟨g, cp, rfl, hown, hb1⟩
 rw [HB.out.len] at hown ⊢
 have HO := qh hown
 have HB1 := qh hb1
 clear hown hb1
 go_wp2_with fail
 refine (unsigned_any n w1 h0 h1).mono ?_
 rintro e w' ⟨rfl, rfl⟩
 obtain ⟨u, hue⟩ := exq (zig n)
 rw [← hue] at hu ⊢
 have HU := qh hue
 clear hue
 go_wp2
 go_loopw [5, 6] (fun v5 v6 wr => PutAt w bs u v5 v6 wr) (fun _ v6 _ => (intOf v6).toNat)
 case atStart => exact putAt_start hu HB.out.len HO.out HB1.out
 obtain ⟨f, v, g, cap', k, pre, hu', hf, h2, h6, ha, hn, rfl, rfl, hown, hbel⟩ := hrel
 have HU' := qh hu'
 have HF := qh hf
 have HN := qh hn
 have HO' := qh hown
 have HW := qh hbel
 have HA := qh ha
 have H2 := qh h2
 have hk : k ≤ 140737488355320 := by have := HB.out.len; omega
 clear hu' hf hn hown hbel ha h2
 have hand := low7 v h6
 obtain ⟨y, hy⟩ := exq (v % 128)
 rw [← hy] at hand
 have hy8 : y < 128 := by omega
 have hor := hi7 y (by omega)
 have hy2 : y % 128 + 128 = v % 128 + 128 := by omega
 rw [hy2] at hor
 have HY := qh hy
 clear hy hy2
 obtain ⟨z, hz⟩ := exq (v % 128 + 128)
 rw [← hz] at hor
 have hz8 : z < 256 := by omega
 have HZ := qh hz
 clear hz
 by_cases hv : 127 < v
 · have HW2 : Hid (Below w.heap.size w (wr.alloc (.cells #[.int .u8 (z : Int)] 5))) := HW.out.alloc HW.out.size _
   go_wp2_with (at_builtin; refine append_row rfl (.tmp 13) (.tmp 18) rfl w.heap.size k (bs ++ pre) [z] _ rfl (HO'.out.alloc _) (some_ne _ _ _) HW2.out.size _ _ _ rfl (row_byte wr z hz8) (by omega) w HW2.out ?_)
   intro g3 cp3 w3 ho3 hb3
   have HO3 := qh ho3
   have HB3 := qh hb3
   clear ho3 hb3
   go_wp2
   go_roundw
   case rel =>
    have h3 := HO3.out
    rw [HZ.out] at h3
    exact putAt_step HU'.out HF.out H2.out h6 HA.out HN.out hv h3 HB3.out
   simp [intOf]; omega
 have HW2 : Hid (Below w.heap.size w (wr.alloc (.cells #[.int .u8 (v : Int)] 5))) := HW.out.alloc HW.out.size _
 have hv8 : v < 256 := by omega
 go_wp2_with (at_builtin; refine append_row rfl (.tmp 22) (.tmp 25) rfl w.heap.size k (bs ++ pre) [v] _ rfl (HO'.out.alloc _) (some_ne _ _ _) HW2.out.size _ _ _ rfl (row_byte wr v hv8) (by omega) w HW2.out ?_)
 intro g3 cp3 w3 ho3 hb3
 have HO3 := qh ho3
 have HB3 := qh hb3
 clear ho3 hb3
 go_wp2
 go_ret
 have h3 := HO3.out
 rw [put_end HU'.out hv, HU.out] at h3
 refine gives_row ?_ h3 HB3.out
 have := h3.1
 rw [length_vals] at this
 unfold encN; omega
theorem text_len (s : ByteArray) : ((s.size : Nat) : Int) = ((s.data.toList.map UInt8.toNat).length : Int) := by simp
def bytesS (s : ByteArray) : List Nat := s.data.toList.map UInt8.toNat
theorem length_bytesS (s : ByteArray) : (bytesS s).length = s.size := by simp [bytesS]
theorem strCells_vals (s : ByteArray) : Lib.strCells s = vals (bytesS s) := by simp [Lib.strCells, vals, bytesS, byte]
theorem text_any (w : World) (ad : Option Addr) (len cap : Nat) (bs : List Nat) (s : ByteArray) (h : Row w ad len cap bs) (hL : len + s.size ≤ 140737488355300) :
 Calls Tryz.prog 138 #[.slice ad len cap, .string s] w (GivesRow w (bs ++ textB (bytesS s))) := by
 obtain ⟨i0, hi, hz0, hz1, hz2⟩ := info_parts info5
 have HB := qh h
 clear h
 go_enter Tryz.func138, Tryz.ntmps138
 go_wp2_with fail
 refine (put_any w ad len cap bs s.size HB.out (by omega) (by omega) (by omega)).mono ?_
 rintro e w1 ⟨g, cp, rfl, hown, hb1⟩
 have hel := enc_len (zig_lt (n := (s.size : Int)) (by omega) (by omega))
 have hl : (bs ++ encN (s.size : Int)).length ≤ len + 10 := by rw [List.length_append, HB.out.len]; unfold encN; omega
 obtain ⟨k, hk⟩ : ∃ k, k = (bs ++ encN (s.size : Int)).length := ⟨_, rfl⟩
 rw [← hk] at hown hl ⊢
 have HK := qh hk
 have HO := qh hown
 have HB1 := qh hb1
 clear hown hb1 hk hel
 go_wp2_with (at_builtin; refine Lib.wpList_append_own_string _ rfl (.tmp 8) (.tmp 9) 30 9 rfl w.heap.size 5 i0 Tryz.underlying30 Tryz.underlying9 hi hz0 hz1 hz2 _ k _ rfl HO.out s rfl (by unfold maxLen; omega) (by omega) HB1.out.size ?_)
 intro v2 w2 ho2 hgrow2 hn2
 have HB2 : Hid (Below w.heap.size w w2) := HB1.out.grown hgrow2 HB1.out.size (fun j hj => (HO.out.lt j hj).1)
 have hne : v2 ≠ .slice none 0 0 := hn2
 have HO2 : Hid (w2.ownsRow w.heap.size 5 1 v2 (k + s.size) (vals (bs ++ textB (bytesS s)))) := by
  have e : bs ++ textB (bytesS s) = (bs ++ encN (s.size : Int)) ++ bytesS s := by
   unfold textB encN
   rw [length_bytesS, zig_nat, List.append_assoc]
  rw [e, vals_append, ← strCells_vals]
  exact ho2
 clear ho2 hgrow2 hn2
 obtain ⟨g2, cp2, rfl⟩ : ∃ g cp, v2 = .slice (some ⟨g, 0, none⟩) (k + s.size) cp := by
  rcases HO2.out.2 with ⟨h, _⟩ | ⟨g, cp, cur, h, _⟩
  · exact absurd h hne
  exact ⟨g, cp, h⟩
 clear hne
 go_wp2
 go_ret
 refine gives_row ?_ HO2.out HB2.out
 have := HO2.out.1
 rw [length_vals] at this
 omega
theorem take_getD {bs : List Nat} {k : Nat} (h : k < bs.length) : bs.take (k + 1) = bs.take k ++ [bs.getD k 0] := by
 rw [List.take_succ_eq_append_getElem h, List.getD_eq_getElem?_getD, List.getElem?_eq_getElem h]; rfl
theorem split_at {bs : List Nat} {k : Nat} (h : k < bs.length) : bs = bs.take k ++ bs.getD k 0 :: bs.drop (k + 1) := by
 conv => lhs; rw [← List.take_append_drop k bs]
 rw [List.drop_eq_getElem_cons h, List.getD_eq_getElem?_getD, List.getElem?_eq_getElem h]; rfl
theorem pow128 (k : Nat) : (2 : Nat) ^ (7 * k) = 128 ^ k := by rw [Nat.pow_mul]
theorem shl_step (y k : Nat) : IntKind.u64.wrap ((y : Int) * 2 ^ (7 * k)) = ((y * 128 ^ k % 18446744073709551616 : Nat) : Int) := by
 rw [wrap_u64', ← pow128]; simp
theorem or_step (u y k : Nat) (hk : k ≤ 9) (hu : u < 128 ^ k) (hy : y < 128) : bits .or .u64 (u : Int) ((y * 128 ^ k % 18446744073709551616 : Nat) : Int) = (((u + 128 ^ k * y) % 18446744073709551616 : Nat) : Int) := by
 have hb : u < 18446744073709551616 := by
  have : (128 : Nat) ^ k ≤ 128 ^ 9 := Nat.pow_le_pow_right (by omega) hk
  rw [pow9] at this; omega
 rw [u64_or_nat u _ hb (by omega), Nat.or_comm]
 have h1 : y * 128 ^ k % 18446744073709551616 % 2 ^ (7 * k) = 0 := by
  rcases k with _ | _ | _ | _ | _ | _ | _ | _ | _ | _ | k
  all_goals first | (exfalso; omega) | (simp only [Nat.reduceMul, Nat.reduceAdd, Nat.reducePow]; omega)
 rw [nat_join (7 * k) _ u h1 (by rw [pow128]; exact hu)]
 congr 1
 rcases k with _ | _ | _ | _ | _ | _ | _ | _ | _ | _ | k
 all_goals first | (exfalso; omega) | (simp only [Nat.reduceAdd, Nat.reducePow] at hu ⊢; omega)
theorem val_take {bs : List Nat} {k : Nat} (h : k < bs.length) : val (bs.take (k + 1)) = val (bs.take k) + 128 ^ k * (bs.getD k 0 % 128) := by
 rw [take_getD h, val_snoc, List.length_take, Nat.min_eq_left (by omega)]
theorem val_take_lt {bs : List Nat} {k : Nat} (h : k ≤ bs.length) : val (bs.take k) < 128 ^ k := by
 have := val_lt (bs.take k)
 rwa [List.length_take, Nat.min_eq_left h] at this
theorem val_take_mod {bs : List Nat} {k : Nat} (h : k ≤ bs.length) (hk : k ≤ 9) : val (bs.take k) % two64 = val (bs.take k) := by
 have h1 := val_take_lt h
 have h2 : (128 : Nat) ^ k ≤ 128 ^ 9 := Nat.pow_le_pow_right (by omega) hk
 rw [pow9] at h2
 exact Nat.mod_eq_of_lt (by rw [two64_val]; omega)
theorem and127 (x : Nat) (h : x < 256) : bits .and .u8 (x : Int) 127 = ((x % 128 : Nat) : Int) := by
 have := u8_and_nat x 127 h (by decide)
 rw [nat_mask7] at this
 exact this
theorem and128_hi (x : Nat) (h : x < 256) (h2 : 128 ≤ x) : bits .and .u8 (x : Int) 128 = 128 := by
 have := u8_and_nat x 128 h (by decide)
 rw [show (128 : Nat) = 2 ^ 7 from rfl, nat_bit] at this
 have e : x / 2 ^ 7 % 2 * 2 ^ 7 = 128 := by omega
 rw [e] at this
 exact this
theorem and128_lo (x : Nat) (h2 : x < 128) : bits .and .u8 (x : Int) 128 = 0 := by
 have := u8_and_nat x 128 (by omega) (by decide)
 rw [show (128 : Nat) = 2 ^ 7 from rfl, nat_bit] at this
 have e : x / 2 ^ 7 % 2 * 2 ^ 7 = 0 := by omega
 rw [e] at this
 exact this
def GivesGet (bs : List Nat) (w : World) (e : Ending) (w' : World) : Prop := e = .returned (.tuple #[.int .i64 (getB bs).1, .int .i64 ((getB bs).2 : Nat)]) ∧ w = w'
theorem len_take {bs : List Nat} {k : Nat} (h : k ≤ bs.length) : (bs.take k).length = k := by rw [List.length_take, Nat.min_eq_left h]
theorem hi_end {bs : List Nat} {k : Nat} (hp : AllHi (bs.take k)) (hk : bs.length ≤ k) (h10 : bs.length ≤ 10) : getB bs = (0, 0) := by
 rw [List.take_of_length_le hk] at hp
 exact getB_none (scan_all hp h10)
theorem hi_full {bs : List Nat} (hp : AllHi (bs.take 10)) (hk : 10 ≤ bs.length) : getB bs = (0, 0) := by
 apply getB_none
 have h := scan_full hp (bs.drop 10)
 rw [len_take hk, List.take_append_drop] at h
 exact h
theorem hi_scan {bs : List Nat} {k : Nat} (hp : AllHi (bs.take k)) (hk : k < bs.length) (h9 : k ≤ 9) (hx : bs.getD k 0 < 128) : scan 10 bs = some (bs.take (k + 1)) := by
 have h := scan_end hp hx (f := 10) (by rw [len_take (by omega)]; omega) (bs.drop (k + 1))
 rw [← split_at hk, ← take_getD hk] at h
 exact h
theorem hi_get {bs : List Nat} {k : Nat} (hp : AllHi (bs.take k)) (hk : k < bs.length) (h9 : k ≤ 9) (hx : bs.getD k 0 < 128) :
 getB bs = if encU (val (bs.take (k + 1)) % two64) = bs.take (k + 1) then (zag (val (bs.take (k + 1)) % two64), k + 1) else (0, 0) := by
 rw [getB_some (hi_scan hp hk h9 hx), len_take (by omega)]
theorem hi_canon {bs : List Nat} {k : Nat} (hp : AllHi (bs.take k)) (hk : k < bs.length) (h9 : k ≤ 9) (hx : bs.getD k 0 < 128) :
 encU (val (bs.take (k + 1)) % two64) = bs.take (k + 1) ↔ (bs.getD k 0 = 0 → k = 0) ∧ (k = 9 → bs.getD k 0 ≤ 1) := by
 have h := canon hp hx (by rw [len_take (by omega)]; exact h9)
 rw [← take_getD hk, len_take (by omega)] at h
 rw [h]
 have e : bs.take k = [] ↔ k = 0 := by
  constructor
  · intro h0
    have := len_take (bs := bs) (k := k) (by omega)
    rw [h0] at this
    simpa using this.symm
  intro h0; subst h0; rfl
 rw [e]
theorem hi_yes {bs : List Nat} {k : Nat} (hp : AllHi (bs.take k)) (hk : k < bs.length) (h9 : k ≤ 9) (hx : bs.getD k 0 < 128) (h0 : bs.getD k 0 = 0 → k = 0) (h1 : k = 9 → bs.getD k 0 ≤ 1) :
 getB bs = (zag (val (bs.take (k + 1)) % two64), k + 1) := by
 rw [hi_get hp hk h9 hx, if_pos ((hi_canon hp hk h9 hx).2 ⟨h0, h1⟩)]
theorem hi_no {bs : List Nat} {k : Nat} (hp : AllHi (bs.take k)) (hk : k < bs.length) (h9 : k ≤ 9) (hx : bs.getD k 0 < 128) (h : ¬ ((bs.getD k 0 = 0 → k = 0) ∧ (k = 9 → bs.getD k 0 ≤ 1))) :
 getB bs = (0, 0) := by
 rw [hi_get hp hk h9 hx, if_neg (fun e => h ((hi_canon hp hk h9 hx).1 e))]
theorem hi_tenth {bs : List Nat} (ha : AllB bs) (hp : AllHi (bs.take 9)) (hk : 9 < bs.length) (hx : 1 < bs.getD 9 0) : getB bs = (0, 0) := by
 by_cases h : bs.getD 9 0 < 128
 · exact hi_no hp hk (by omega) h (fun h2 => by have := h2.2 rfl; omega)
 refine hi_full ?_ (by omega)
 rw [take_getD hk]
 exact hp.snoc ⟨by omega, getD_all ha 9⟩
theorem hi_step {bs : List Nat} {k : Nat} (ha : AllB bs) (hp : AllHi (bs.take k)) (hk : k < bs.length) (hx : ¬ bs.getD k 0 < 128) : AllHi (bs.take (k + 1)) := by
 rw [take_getD hk]
 exact hp.snoc ⟨by omega, getD_all ha k⟩
theorem gives_get_no {bs : List Nat} {w : World} (h : getB bs = (0, 0)) : GivesGet bs w (.returned (.tuple #[.int .i64 0, .int .i64 0])) w := by
 unfold GivesGet; rw [h]; exact ⟨rfl, rfl⟩
theorem gives_get {bs : List Nat} {w : World} {x : Int} {k : Nat} (h : getB bs = (x, k)) {a b : Int} (ha : a = x) (hb : b = (k : Int)) : GivesGet bs w (.returned (.tuple #[.int .i64 a, .int .i64 b])) w := by
 unfold GivesGet; rw [h, ha, hb]; exact ⟨rfl, rfl⟩
theorem shl_step9 (y : Nat) : IntKind.u64.wrap ((y : Int) * 9223372036854775808) = ((y * 128 ^ 9 % 18446744073709551616 : Nat) : Int) := by
 rw [wrap_u64', pow9]; omega
theorem get_any (w : World) (ad : Option Addr) (len cap : Nat) (bs : List Nat) (h : Byt w ad len cap bs) (hL : len ≤ 140737488355328) :
 Calls Tryz.prog 169 #[.slice ad len cap] w (GivesGet bs w) := by
 obtain ⟨hlen, hfit, hall, hcs⟩ := h
 rcases hcs with h0 | ⟨b, off, rfl, hcell⟩
 · subst h0
   obtain rfl : bs = [] := by simpa using hlen
   clear hlen hfit hall
   go_enter Tryz.func169, Tryz.ntmps169
   go_wp2
   refine wp_loop_rounds 1 ?_
   rw [rounds_succ]
   go_wp2
   go_ret2
   exact gives_get_no getB_nil
 have HC := qh hcell
 have HA := qh hall
 have HL := qh hlen
 clear hlen hcell hall
 go_enter Tryz.func169, Tryz.ntmps169
 go_wp2
 go_loop [4, 9] (fun v4 v9 => ∃ k : Nat, k ≤ len ∧ k ≤ 9 ∧ AllHi (bs.take k) ∧ v9 = .int .i64 k ∧ v4 = .int .u64 (val (bs.take k) % two64 : Nat)) (fun _ i => len - (intOf i).toNat)
 case atStart => exact ⟨0, by omega, by omega, AllHi.nil, rfl, rfl⟩
 obtain ⟨k, hk, hk9, hhi, rfl, rfl⟩ := hrel
 have HH := qh hhi
 clear hhi
 by_cases hlt : k < len
 rotate_left
 · go_wp2
   go_ret2
   exact gives_get_no (hi_end HH.out (by rw [HL.out]; omega) (by rw [HL.out]; omega))
 have hltb : k < bs.length := by rw [HL.out]; exact hlt
 have hc := HC.out k hlt
 have hx8 := getD_all HA.out k
 have hm := val_take_mod (bs := bs) (k := k) (by omega) hk9
 have hu := val_take_lt (bs := bs) (k := k) (by omega)
 have hv := val_take hltb
 obtain ⟨x, hxe⟩ := exq (bs.getD k 0)
 rw [← hxe] at hc hx8 hv
 obtain ⟨u, hue⟩ := exq (val (bs.take k))
 rw [hm, ← hue]
 rw [← hue] at hu hv
 have hand := and127 x hx8
 obtain ⟨y, hye⟩ := exq (x % 128)
 rw [← hye] at hand hv
 have hy8 : y < 128 := by omega
 have hsh := shl_step y k
 have hsh9 := shl_step9 y
 have hor := or_step u y k hk9 hu hy8
 rw [← hv] at hor
 obtain ⟨z, hze⟩ := exq (y * 128 ^ k % 18446744073709551616)
 rw [← hze] at hsh hor
 have HS9 : Hid (k = 9 → IntKind.u64.wrap ((y : Int) * 9223372036854775808) = (z : Int)) := by
  intro e
  rw [hsh9, hze, e]
 clear hsh9
 have HX := qh hxe
 clear hm hv hye hue hze hxe
 obtain ⟨v, hve⟩ := exq (val (bs.take (k + 1)) % 18446744073709551616)
 have hv6 : v < 18446744073709551616 := by rw [hve]; exact Nat.mod_lt _ (by decide)
 rw [← hve] at hor
 have HV : Hid (v = val (bs.take (k + 1)) % two64) := hve
 clear hve
 by_cases h9 : k = 9 ∧ 1 < x
 · obtain ⟨rfl, h1x⟩ := h9
   go_wp2
   go_ret2
   exact gives_get_no (hi_tenth HA.out HH.out hltb (by rw [← HX.out]; exact h1x))
 have hno : k = 9 → bs.getD k 0 ≤ 1 := fun e => by rw [← HX.out]; omega
 have HNO := qh hno
 clear hno
 by_cases hx : x < 128
 rotate_left
 · have h128 := and128_hi x hx8 (by omega)
   have HS : Hid (AllHi (bs.take (k + 1))) := hi_step HA.out HH.out hltb (by rw [← HX.out]; exact hx)
   have hk8 : k < 9 := by
    by_cases h : k = 9
    · exact absurd ⟨h, by omega⟩ h9
    omega
   have hk9b : ((k : Int) == 9) = false := by simp; omega
   go_wp2
   all_goals first
    | (exfalso; omega)
    | (go_round
       case rel => exact ⟨k + 1, by omega, by omega, HS.out, by go_num, by rw [HV.out]⟩
       simp [intOf]; omega)
 have h128 := and128_lo x hx
 have hb0 : ((0 : Int) != 0) = false := by decide
 have hxb : bs.getD k 0 < 128 := by rw [← HX.out]; exact hx
 have HXB := qh hxb
 clear hxb
 by_cases hz : x = 0 ∧ 0 < k
 · have HG : Hid (getB bs = (0, 0)) := hi_no HH.out hltb hk9 HXB.out (fun h => by have h1 := h.1 (by rw [← HX.out]; omega); omega)
   obtain ⟨rfl, hk0⟩ := hz
   go_wp2
   all_goals first
    | (exfalso; omega)
    | (go_ret2; exact gives_get_no HG.out)
 have HG : Hid (getB bs = (zag v, k + 1)) := by
  show _ = _
  rw [HV.out]
  exact hi_yes HH.out hltb hk9 HXB.out (fun h => by rw [← HX.out] at h; omega) HNO.out
 by_cases h9k : k = 9
 · have hs9 := HS9.out h9k
   have hx1 : x ≤ 1 := by
    by_cases h : 1 < x
    · exact absurd ⟨h9k, h⟩ h9
    omega
   have hx0b : ((x : Int) == 0) = false := by simp; omega
   have hx1b : decide ((1 : Int) < (x : Int)) = false := by simp; omega
   clear hsh
   subst h9k
   go_wp2_with (go_at_call 180; refine (signed_any v _ hv6).mono ?_; rintro e w' ⟨rfl, rfl⟩)
   go_ret2
   exact gives_get HG.out rfl rfl
 have hk9b : ((k : Int) == 9) = false := by simp; omega
 by_cases hx0 : x = 0
 · have hk0 : k = 0 := by omega
   have hx0t : ((x : Int) == 0) = true := by simp; omega
   have hk1 : decide ((0 : Int) < (k : Int)) = false := by simp; omega
   have hk2 : decide (0 < k) = false := by simp; omega
   clear hx0 hk0
   go_wp2_with fail
   refine (signed_any v _ hv6).mono ?_
   rintro e w' ⟨rfl, rfl⟩
   go_wp2
   go_ret2
   exact gives_get HG.out rfl rfl
 have hx0b : ((x : Int) == 0) = false := by simp; omega
 go_wp2_with fail
 refine (signed_any v _ hv6).mono ?_
 rintro e w' ⟨rfl, rfl⟩
 go_wp2
 go_ret2
 exact gives_get HG.out rfl rfl
theorem zigr_pos (n : Int) (h0 : 0 ≤ n) (h1 : n ≤ 9223372036854775807) (a b : Int) (ha : a = n * 2) (hb : b = 0) : bits .xor .u64 a b = ((zig n : Nat) : Int) := by
 have h2 := zig_nonneg h0
 have h4 : a = ((zig n : Nat) : Int) := by omega
 have h5 := zig_lt (n := n) (by omega) h1
 rw [hb, h4, u64_keep _ h5]
theorem zigr (n : Int) (h0 : -9223372036854775808 ≤ n) (h1 : n ≤ 9223372036854775807) (a b : Int) (ha : a = n * 2 % 18446744073709551616) (hb : b = n / 9223372036854775808 % 18446744073709551616) : bits .xor .u64 a b = ((zig n : Nat) : Int) := by
 by_cases h : 0 ≤ n
 · exact zigr_pos n h h1 a b (by omega) (by omega)
 exact zig_minus n (by omega) h0 a b ha (by omega)
theorem refPut_any (w : World) (ad : Option Addr) (len cap : Nat) (bs : List Nat) (n : Int) (h : Row w ad len cap bs) (hL : len ≤ 140737488355300) (h0 : -9223372036854775808 ≤ n) (h1 : n ≤ 9223372036854775807) :
 Calls Tryz.prog 139 #[.slice ad len cap, .int .i64 n] w (GivesRow w (bs ++ encN n)) := by
 have HB := qh h
 have hu := zig_lt h0 h1
 clear h
 have HZ1 : Hid (Below w.heap.size w (w.alloc (.cells #[] 5))) := (bal _ _)
 go_enter Tryz.func139, Tryz.ntmps139
 go_wp2_with (at_builtin; refine append_row rfl (.tmp 7) (.tmp 8) rfl w.heap.size 0 [] _ _ rfl (own_empty w _ (Nat.le_refl _)) (some_ne _ _ _) HZ1.out.size _ _ _ rfl (HB.out.keep HZ1.out (Nat.le_refl _)) (by omega) w HZ1.out ?_)
 intro g cp w1 ho1 hb1
 have HO := qh (show w1.ownsRow w.heap.size 5 1 (.slice (some ⟨g, 0, none⟩) len cp) len (vals bs) by simpa using ho1)
 have HB1 := qh hb1
 clear ho1 hb1
 have hx : bits .xor .u64 (IntKind.u64.wrap (wrap64 (n * 2))) (IntKind.u64.wrap (n / 9223372036854775808)) = ((zig n : Nat) : Int) :=
  zigr n h0 h1 _ _ (by rw [wrap_u64']; unfold wrap64; omega) (by rw [wrap_u64'])
 obtain ⟨u, hue⟩ := exq (zig n)
 rw [← hue] at hu hx
 have HU := qh hue
 clear hue
 go_wp2
 clear hx
 go_loopw [5, 6] (fun v5 v6 wr => PutAt w bs u v5 v6 wr) (fun _ v6 _ => (intOf v6).toNat)
 case atStart => exact putAt_start hu HB.out.len HO.out HB1.out
 obtain ⟨f, v, g, cap', k, pre, hu', hf, h2, h6, ha, hn, rfl, rfl, hown, hbel⟩ := hrel
 have HU' := qh hu'
 have HF := qh hf
 have HN := qh hn
 have HO' := qh hown
 have HW := qh hbel
 have HA := qh ha
 have H2 := qh h2
 have hk : k ≤ 140737488355320 := by have := HB.out.len; omega
 clear hu' hf hn hown hbel ha h2
 by_cases hv : 127 < v
 rotate_left
 · have hge : decide ((128 : Int) ≤ (v : Int)) = false := by simp; omega
   have hv8 : v < 256 := by omega
   have HW2 : Hid (Below w.heap.size w (wr.alloc (.cells #[.int .u8 (v : Int)] 5))) := HW.out.alloc HW.out.size _
   go_wp2_with (at_builtin; refine append_row rfl (.tmp 27) (.tmp 30) rfl w.heap.size k (bs ++ pre) [v] _ rfl (HO'.out.alloc _) (some_ne _ _ _) HW2.out.size _ _ _ rfl (row_byte wr v hv8) (by omega) w HW2.out ?_)
   intro g3 cp3 w3 ho3 hb3
   have HO3 := qh ho3
   have HB3 := qh hb3
   clear ho3 hb3
   go_wp2
   go_ret
   have h3 := HO3.out
   rw [put_end HU'.out hv, HU.out] at h3
   refine gives_row ?_ h3 HB3.out
   have := h3.1
   rw [length_vals] at this
   unfold encN; omega
 obtain ⟨y, hy⟩ := exq (v % 256)
 have hwr : IntKind.u8.wrap (v : Int) = (y : Int) := by rw [wrap_u8']; omega
 have hor := hi7 y (by omega)
 have hy2 : y % 128 + 128 = v % 128 + 128 := by omega
 rw [hy2] at hor
 clear hy hy2
 obtain ⟨z, hz⟩ := exq (v % 128 + 128)
 rw [← hz] at hor
 have hz8 : z < 256 := by omega
 have HZ := qh hz
 clear hz
 have hge : decide ((128 : Int) ≤ (v : Int)) = true := by simp; omega
 have HW2 : Hid (Below w.heap.size w (wr.alloc (.cells #[.int .u8 (z : Int)] 5))) := HW.out.alloc HW.out.size _
 go_wp2_with (at_builtin; refine append_row rfl (.tmp 19) (.tmp 23) rfl w.heap.size k (bs ++ pre) [z] _ rfl (HO'.out.alloc _) (some_ne _ _ _) HW2.out.size _ _ _ rfl (row_byte wr z hz8) (by omega) w HW2.out ?_)
 intro g3 cp3 w3 ho3 hb3
 have HO3 := qh ho3
 have HB3 := qh hb3
 clear ho3 hb3
 go_wp2
 go_roundw
 case rel =>
  have h3 := HO3.out
  rw [HZ.out] at h3
  exact putAt_step HU'.out HF.out H2.out h6 HA.out HN.out hv h3 HB3.out
 simp [intOf]; omega
theorem refText_any (w : World) (ad : Option Addr) (len cap : Nat) (bs : List Nat) (s : ByteArray) (h : Row w ad len cap bs) (hL : len + s.size ≤ 140737488355300) :
 Calls Tryz.prog 114 #[.slice ad len cap, .string s] w (GivesRow w (bs ++ textB (bytesS s))) := by
 obtain ⟨i0, hi, hz0, hz1, hz2⟩ := info_parts info5
 have HB := qh h
 clear h
 go_enter Tryz.func114, Tryz.ntmps114
 go_wp2_with fail
 refine (refPut_any w ad len cap bs s.size HB.out (by omega) (by omega) (by omega)).mono ?_
 rintro e w1 ⟨g, cp, rfl, hown, hb1⟩
 have hel := enc_len (zig_lt (n := (s.size : Int)) (by omega) (by omega))
 have hl : (bs ++ encN (s.size : Int)).length ≤ len + 10 := by rw [List.length_append, HB.out.len]; unfold encN; omega
 obtain ⟨k, hk⟩ : ∃ k, k = (bs ++ encN (s.size : Int)).length := ⟨_, rfl⟩
 rw [← hk] at hown hl ⊢
 have HK := qh hk
 have HO := qh hown
 have HB1 := qh hb1
 clear hown hb1 hk hel
 go_wp2_with (at_builtin; refine Lib.wpList_append_own_string _ rfl (.tmp 8) (.tmp 9) 30 9 rfl w.heap.size 5 i0 Tryz.underlying30 Tryz.underlying9 hi hz0 hz1 hz2 _ k _ rfl HO.out s rfl (by unfold maxLen; omega) (by omega) HB1.out.size ?_)
 intro v2 w2 ho2 hgrow2 hn2
 have HB2 : Hid (Below w.heap.size w w2) := HB1.out.grown hgrow2 HB1.out.size (fun j hj => (HO.out.lt j hj).1)
 have hne : v2 ≠ .slice none 0 0 := hn2
 have HO2 : Hid (w2.ownsRow w.heap.size 5 1 v2 (k + s.size) (vals (bs ++ textB (bytesS s)))) := by
  have e : bs ++ textB (bytesS s) = (bs ++ encN (s.size : Int)) ++ bytesS s := by
   unfold textB encN
   rw [length_bytesS, zig_nat, List.append_assoc]
  rw [e, vals_append, ← strCells_vals]
  exact ho2
 clear ho2 hgrow2 hn2
 obtain ⟨g2, cp2, rfl⟩ : ∃ g cp, v2 = .slice (some ⟨g, 0, none⟩) (k + s.size) cp := by
  rcases HO2.out.2 with ⟨h, _⟩ | ⟨g, cp, cur, h, _⟩
  · exact absurd h hne
  exact ⟨g, cp, h⟩
 clear hne
 go_wp2
 go_ret
 refine gives_row ?_ HO2.out HB2.out
 have := HO2.out.1
 rw [length_vals] at this
 omega
theorem u64_eq {a b : Int} (h : a = b) : Value.int .u64 a = Value.int .u64 b := by rw [h]
theorem run_upto (ad : Option Addr) (len cap h : Nat) (hc : h ≤ cap) (w : World) :
 (Instr.slice 30 (.slice ad len cap) none (some (.int .i64 (h : Int))) none).run Tryz.prog w = .ok (.slice ad h cap) w := by
 rw [run_slice_h _ _ _ _ _ elem22 _ _ (by omega) (by omega), sizeElem]
 simp only [Result.andThen, sliced, Int.toNat_natCast]
 rcases ad with _ | a
 · simp
 simp [Addr.add]
theorem or_shift8 (u x : Nat) (hu : u < 72057594037927936) (hx : x < 256) : bits .or .u64 ((u : Int) * 256) (x : Int) = ((u * 256 + x : Nat) : Int) := by
 have e : (u : Int) * 256 = ((u * 256 : Nat) : Int) := by omega
 rw [e, u64_or_nat (u * 256) x (by omega) (by omega), nat_join 8 (u * 256) x (Nat.mul_mod_left _ _) (by simpa using hx)]
theorem wrap64_sg (u : Nat) (hu : u < 18446744073709551616) : wrap64 (u : Int) = sg64 u := by
 unfold wrap64 sg64
 split <;> omega
theorem unbe_small {bs : List Nat} (h : AllB bs) (k : Nat) (hk : k < 8) : unbe (bs.take k) < 72057594037927936 := by
 have h1 := unbe_lt (take_all h k)
 have h2 : (bs.take k).length ≤ 7 := by rw [List.length_take]; omega
 have h3 : (256 : Nat) ^ (bs.take k).length ≤ 256 ^ 7 := Nat.pow_le_pow_right (by omega) h2
 have h4 : (256 : Nat) ^ 7 = 72057594037927936 := by decide
 omega
theorem unbe_eight {bs : List Nat} (h : AllB bs) : unbe (bs.take 8) < 18446744073709551616 := by
 have h1 := unbe_lt (take_all h 8)
 have h2 : (bs.take 8).length ≤ 8 := by rw [List.length_take]; omega
 have h3 : (256 : Nat) ^ (bs.take 8).length ≤ 256 ^ 8 := Nat.pow_le_pow_right (by omega) h2
 rw [pow8] at h3
 omega
def GivesBack (bs : List Nat) (w : World) (e : Ending) (w' : World) : Prop := e = .returned (.tuple #[.int .i64 (backB bs).1, .bool (backB bs).2]) ∧ w = w'
theorem gives_back_no {bs : List Nat} {w : World} (h : bs.length < 8) : GivesBack bs w (.returned (.tuple #[.int .i64 0, .bool false])) w := by
 unfold GivesBack; rw [backB_short h]; exact ⟨rfl, rfl⟩
theorem gives_back {bs : List Nat} {w : World} {x : Int} (h : ¬ bs.length < 8) (hx : x = sg64 (unbe (bs.take 8))) : GivesBack bs w (.returned (.tuple #[.int .i64 x, .bool true])) w := by
 unfold GivesBack backB; rw [if_neg h, hx]; exact ⟨rfl, rfl⟩
theorem back_any (w : World) (ad : Option Addr) (len cap : Nat) (bs : List Nat) (h : Byt w ad len cap bs) (hL : len ≤ 140737488355328) :
 Calls Tryz.prog 130 #[.slice ad len cap] w (GivesBack bs w) := by
 have HL := qh h.length
 by_cases h8 : len < 8
 · have hd : decide ((len : Int) < 8) = true := by simp; omega
   go_enter Tryz.func130, Tryz.ntmps130
   go_wp2
   go_ret2
   exact gives_back_no (by rw [HL.out]; exact h8)
 have hd : decide ((len : Int) < 8) = false := by simp; omega
 obtain ⟨hlen, hfit, hall, hcs⟩ := h
 rcases hcs with h0 | ⟨b, off, rfl, hcell⟩
 · omega
 have hsl := run_upto (some ⟨b, off, none⟩) len cap 8 (by omega)
 have HC := qh hcell
 have HA := qh hall
 clear hlen hcell hall
 go_enter Tryz.func130, Tryz.ntmps130
 go_wp2
 go_loop [4, 13] (fun v4 v13 => ∃ k : Nat, k ≤ 8 ∧ v13 = .int .i64 k ∧ v4 = .int .u64 (unbe (bs.take k) : Nat)) (fun _ i => 8 - (intOf i).toNat)
 case atStart => exact ⟨0, by omega, rfl, rfl⟩
 obtain ⟨k, hk, rfl, rfl⟩ := hrel
 by_cases hlt : k < 8
 rotate_left
 · obtain rfl : k = 8 := by omega
   have hu := unbe_eight HA.out
   obtain ⟨u, hue⟩ := exq (unbe (bs.take 8))
   rw [← hue] at hu ⊢
   have HU := qh hue
   clear hue
   go_wp2
   go_ret2
   exact gives_back (by rw [HL.out]; exact h8) (by rw [← HU.out]; exact wrap64_sg u hu)
 have hu := unbe_small HA.out k hlt
 have hx8 := getD_all HA.out k
 have hc := HC.out k (by omega)
 have hs := unbe_take bs k (by rw [HL.out]; omega)
 obtain ⟨u, hue⟩ := exq (unbe (bs.take k))
 obtain ⟨x, hxe⟩ := exq (bs.getD k 0)
 rw [← hue] at hu hs ⊢
 rw [← hxe] at hx8 hc hs
 have HS := qh hs
 clear hue hxe hs
 have hor := or_shift8 u x hu hx8
 go_wp2
 go_round
 case rel => exact ⟨k + 1, by omega, by go_num, by rw [HS.out]; exact u64_eq (by omega)⟩
 simp [intOf]; omega
theorem refBack_any (w : World) (ad : Option Addr) (len cap : Nat) (bs : List Nat) (h : Byt w ad len cap bs) (hL : len ≤ 140737488355328) :
 Calls Tryz.prog 127 #[.slice ad len cap] w (GivesBack bs w) := by
 have HL := qh h.length
 by_cases h8 : len < 8
 · have hd : decide ((len : Int) < 8) = true := by simp; omega
   go_enter Tryz.func127, Tryz.ntmps127
   go_wp2
   go_ret2
   exact gives_back_no (by rw [HL.out]; exact h8)
 have hd : decide ((len : Int) < 8) = false := by simp; omega
 obtain ⟨hlen, hfit, hall, hcs⟩ := h
 rcases hcs with h0 | ⟨b, off, rfl, hcell⟩
 · omega
 have HC := qh hcell
 have HA := qh hall
 clear hlen hcell hall
 go_enter Tryz.func127, Tryz.ntmps127
 go_wp2
 go_loop [4, 5] (fun v4 v5 => ∃ k : Nat, k ≤ 8 ∧ v5 = .int .i64 k ∧ v4 = .int .u64 (unbe (bs.take k) : Nat)) (fun _ i => 8 - (intOf i).toNat)
 case atStart => exact ⟨0, by omega, rfl, rfl⟩
 obtain ⟨k, hk, rfl, rfl⟩ := hrel
 by_cases hlt : k < 8
 rotate_left
 · obtain rfl : k = 8 := by omega
   have hu := unbe_eight HA.out
   obtain ⟨u, hue⟩ := exq (unbe (bs.take 8))
   rw [← hue] at hu ⊢
   have HU := qh hue
   clear hue
   go_wp2
   go_ret2
   exact gives_back (by rw [HL.out]; exact h8) (by rw [← HU.out]; exact wrap64_sg u hu)
 have hu := unbe_small HA.out k hlt
 have hx8 := getD_all HA.out k
 have hc := HC.out k (by omega)
 have hs := unbe_take bs k (by rw [HL.out]; omega)
 obtain ⟨u, hue⟩ := exq (unbe (bs.take k))
 obtain ⟨x, hxe⟩ := exq (bs.getD k 0)
 rw [← hue] at hu hs ⊢
 rw [← hxe] at hx8 hc hs
 have HS := qh hs
 clear hue hxe hs
 have hor := or_shift8 u x hu hx8
 go_wp2
 go_round
 case rel => exact ⟨k + 1, by omega, by go_num, by rw [HS.out]; exact u64_eq (by omega)⟩
 simp [intOf]; omega
def GivesGetB (bs : List Nat) (w : World) (e : Ending) (w' : World) : Prop := e = .returned (.tuple #[.int .i64 (getB bs).1, .int .i64 ((getB bs).2 : Nat)]) ∧ Below w.heap.size w w'
theorem refGet_any (w : World) (ad : Option Addr) (len cap : Nat) (bs : List Nat) (h : Byt w ad len cap bs) (hL : len ≤ 140737488355328) :
 Calls Tryz.prog 167 #[.slice ad len cap] w (GivesGetB bs w) := by
 obtain ⟨hlen, hfit, hall, hcs⟩ := h
 rcases hcs with h0 | ⟨b, off, rfl, hcell⟩
 · subst h0
   obtain rfl : bs = [] := by simpa using hlen
   clear hlen hfit hall
   go_enter Tryz.func167, Tryz.ntmps167
   go_wp2
   refine wp_loop_rounds 1 ?_
   rw [rounds_succ]
   go_wp2
   go_ret2
   exact ⟨by rw [getB_nil]; rfl, Below.refl _ _⟩
 have HC := qh hcell
 have HA := qh hall
 have HL := qh hlen
 clear hlen hcell hall
 go_enter Tryz.func167, Tryz.ntmps167
 go_wp2
 go_loop [4, 5] (fun v4 v5 => ∃ k : Nat, k ≤ len ∧ k ≤ 10 ∧ AllHi (bs.take k) ∧ v5 = .int .i64 k ∧ v4 = .int .u64 (val (bs.take k) % two64 : Nat)) (fun _ i => len - (intOf i).toNat)
 case atStart => exact ⟨0, by omega, by omega, AllHi.nil, rfl, rfl⟩
 obtain ⟨k, hk, hk9, hhi, rfl, rfl⟩ := hrel
 have HH := qh hhi
 clear hhi
 by_cases hlt : k < len ∧ k < 10
 rotate_left
 · have HN : Hid (getB bs = (0, 0)) := by
    by_cases h10 : k < 10
    · exact hi_end HH.out (by rw [HL.out]; omega) (by rw [HL.out]; omega)
    obtain rfl : k = 10 := by omega
    exact hi_full HH.out (by rw [HL.out]; omega)
   go_wp2
   all_goals first
    | (exfalso; omega)
    | (go_ret2; exact ⟨by rw [HN.out]; rfl, Below.refl _ _⟩)
 obtain ⟨hlt, hk10⟩ := hlt
 have hltb : k < bs.length := by rw [HL.out]; exact hlt
 have hc := HC.out k hlt
 have hx8 := getD_all HA.out k
 have hm := val_take_mod (bs := bs) (k := k) (by omega) (by omega)
 have hu := val_take_lt (bs := bs) (k := k) (by omega)
 have hv := val_take hltb
 obtain ⟨x, hxe⟩ := exq (bs.getD k 0)
 rw [← hxe] at hc hx8 hv
 obtain ⟨u, hue⟩ := exq (val (bs.take k))
 rw [hm, ← hue]
 rw [← hue] at hu hv
 have hand := and127 x hx8
 obtain ⟨y, hye⟩ := exq (x % 128)
 rw [← hye] at hand hv
 have hy8 : y < 128 := by omega
 have hsh := shl_step y k
 have hor := or_step u y k (by omega) hu hy8
 rw [← hv] at hor
 obtain ⟨z, hze⟩ := exq (y * 128 ^ k % 18446744073709551616)
 rw [← hze] at hsh hor
 have HX := qh hxe
 clear hm hv hye hue hze hxe
 obtain ⟨v, hve⟩ := exq (val (bs.take (k + 1)) % 18446744073709551616)
 have hv6 : v < 18446744073709551616 := by rw [hve]; exact Nat.mod_lt _ (by decide)
 rw [← hve] at hor
 have HV : Hid (v = val (bs.take (k + 1)) % two64) := hve
 clear hve
 by_cases hx : x < 128
 rotate_left
 · have HS : Hid (AllHi (bs.take (k + 1))) := hi_step HA.out HH.out hltb (by rw [← HX.out]; exact hx)
   go_wp2
   go_round
   case rel => exact ⟨k + 1, by omega, by omega, HS.out, by go_num, by rw [HV.out]⟩
   simp [intOf]; omega
 have hzag := zag_bits v hv6 _ (zag_arg v hv6)
 have hin := zag_in hv6
 have HG := hi_get HH.out hltb (by omega) (by rw [← HX.out]; exact hx)
 rw [← HV.out] at HG
 obtain ⟨q, hq⟩ := exq (zag v)
 rw [← hq] at hzag hin HG
 have HG := qh HG
 have HQ := qh hq
 clear hq
 have hrow : Row w (some ⟨b, off, none⟩) (k + 1) cap (bs.take (k + 1)) := cut_row (len := len) ⟨⟨HL.out, hfit, HA.out, .inr ⟨b, off, rfl, HC.out⟩⟩, fun h => by cases h⟩ (k + 1) (by omega)
 have HR := qh hrow
 clear hrow
 have hsl := run_upto (some ⟨b, off, none⟩) len cap (k + 1) (by omega)
 rw [show ((k + 1 : Nat) : Int) = (k : Int) + 1 by omega] at hsl
 obtain ⟨s1, hs1⟩ := exq (str (encU v))
 obtain ⟨s2, hs2⟩ := exq (str (bs.take (k + 1)))
 obtain ⟨n1, hn1⟩ : ∃ n1, n1 = (encU v).length := ⟨_, rfl⟩
 have K8 : ∀ W, Below w.heap.size w W → Calls Tryz.prog 139 #[.slice none 0 0, .int .i64 q] W fun e w' => ∃ g cp, e = .returned (.slice (some ⟨g, 0, none⟩) n1 cp) ∧ Hid (Below w.heap.size w w') ∧
  (convert 30 9 (.slice (some ⟨g, 0, none⟩) n1 cp)).run Tryz.prog w' = .ok (.string s1) w' ∧ (convert 30 9 (.slice (some ⟨b, off, none⟩) (k + 1) cap)).run Tryz.prog w' = .ok (.string s2) w' := by
  intro W hW
  refine (refPut_any W none 0 0 [] q ⟨Byt.nil W, fun _ => rfl⟩ (by omega) hin.1 hin.2).mono ?_
  rintro e w' ⟨g, cp, rfl, ho, hb⟩
  have he : [] ++ encN q = encU v := by rw [List.nil_append]; unfold encN; rw [HQ.out, zig_zag]
  rw [he] at ho ⊢
  rw [← hn1] at ho ⊢
  have hb2 : Below w.heap.size w w' := hW.trans (hb.mono hW.size)
  exact ⟨g, cp, rfl, hb2, run_str_at (owns_row ho (enc_all hv6)).1 hs1, run_str_at (HR.out.keep hb2 (Nat.le_refl _)).1 hs2⟩
 have HK := qh K8
 have hcv0 : (convert 30 9 (.slice (some ⟨b, off, none⟩) (k + 1) cap)).run Tryz.prog w = .ok (.string s2) w := run_str_at HR.out.1 hs2
 have hcv1 : (convert 30 9 (.slice (some ⟨b, off, none⟩) (k + 1) cap)).run Tryz.prog w.drew = .ok (.string s2) w.drew := run_str_at (HR.out.keep ((Below.refl _ _).drew) (Nat.le_refl _)).1 hs2
 have H1 := qh hs1
 have H2 := qh hs2
 clear K8 hs1 hs2 hn1
 have hwk : IntKind.i64.wrap ((k : Int) + 1) = (k : Int) + 1 := IntWalk.i64_in _ (by omega)
 by_cases heq : encU v = bs.take (k + 1)
 · have hse : (s1.toList == s2.toList) = true := by rw [H1.out, H2.out, heq, str_same]
   have HE : Hid (getB bs = (q, k + 1)) := by show _ = _; rw [HG.out, if_pos heq]
   clear heq
   go_wp2_with fail
   go_region_with (go_at_call 139; refine (HK.out _ ?_).mono ?_; exact (Below.refl _ _).drew; rintro e w1 ⟨g, cp, rfl, hb1, hca, hcb⟩)
   all_goals
    go_wp2
    go_ret2
    exact ⟨by rw [HE.out]; rfl, hb1.out⟩
 have hse : (s1.toList == s2.toList) = false := by
  have := str_differ (enc_all hv6) HR.out.1.all heq
  rw [← H1.out, ← H2.out] at this
  exact this
 have HE : Hid (getB bs = (0, 0)) := by show _ = _; rw [HG.out, if_neg heq]
 clear heq
 go_wp2_with fail
 go_region_with (go_at_call 139; refine (HK.out _ ?_).mono ?_; exact (Below.refl _ _).drew; rintro e w1 ⟨g, cp, rfl, hb1, hca, hcb⟩)
 all_goals
  go_wp2
  go_ret2
  exact ⟨by rw [HE.out]; rfl, hb1.out⟩
theorem cut_run {w : World} {b off len cap : Nat} {bs : List Nat} (h : Byt w (some ⟨b, off, none⟩) len cap bs) (k m : Nat) (hk : k + m ≤ len) :
 ∃ o c, (∀ W, (Instr.slice 30 (.slice (some ⟨b, off, none⟩) len cap) (some (.int .i64 (k : Int))) (some (.int .i64 ((k : Int) + (m : Int)))) none).run Tryz.prog W = .ok (.slice (some ⟨b, o, none⟩) m c) W) ∧ Byt w (some ⟨b, o, none⟩) m c ((bs.drop k).take m) := by
 refine ⟨if cap = k then off else off + k, cap - k, fun W => ?_, ⟨by rw [List.length_take, List.length_drop, h.length]; omega, by have := h.fits; omega, ?_, ?_⟩⟩
 · rw [run_slice_lh _ _ _ _ _ elem22 _ _ _ _ (by omega) (by omega) (by have := h.fits; omega), sizeElem]
   simp only [Result.andThen, sliced, Nat.mul_one, Int.toNat_natCast]
   have e : ((k : Int) + (m : Int)).toNat = k + m := by omega
   rw [e, Nat.add_sub_cancel_left]
   congr 2
   by_cases h1 : cap = k
   · simp [h1]
   simp [h1, Addr.add]
 · intro x hx
   exact h.all x (List.mem_of_mem_drop (List.mem_of_mem_take hx))
 by_cases hm : m = 0
 · exact .inl hm
 rcases h.cells with h0 | ⟨b', off', e, hc⟩
 · omega
 cases e
 have hf := h.fits
 refine .inr ⟨b, off + k, by rw [if_neg (by omega)], fun i hi => ?_⟩
 rw [Nat.add_assoc, hc (k + i) (by omega)]
 congr 3
 rw [List.getD_eq_getElem?_getD, List.getD_eq_getElem?_getD, List.getElem?_take, if_pos hi, List.getElem?_drop]
def GivesCut (bs : List Nat) (most : Int) (w : World) (e : Ending) (w' : World) : Prop := e = .returned (.tuple #[.string (str (cutB bs most).1), .int .i64 ((cutB bs most).2 : Nat)]) ∧ Below w.heap.size w w'
theorem gives_cut {bs : List Nat} {most : Int} {w w' : World} {l : List Nat} {k : Nat} {s : ByteArray} {x : Int} (h : cutB bs most = (l, k)) (hs : s = str l) (hx : x = (k : Int)) (hb : Below w.heap.size w w') : GivesCut bs most w (.returned (.tuple #[.string s, .int .i64 x])) w' := by
 unfold GivesCut; rw [h, hs, hx]; exact ⟨rfl, hb⟩
theorem str_nil : (⟨#[]⟩ : ByteArray) = str [] := rfl
theorem cut_any (w : World) (ad : Option Addr) (len cap : Nat) (bs : List Nat) (most : Int) (h : Byt w ad len cap bs) (hL : len ≤ 140737488355328) (h0 : -9223372036854775808 ≤ most) (h1 : most ≤ 9223372036854775807) :
 Calls Tryz.prog 148 #[.slice ad len cap, .int .i64 most] w (GivesCut bs most w) := by
 obtain ⟨b2, b3, b4, b5⟩ := getB_bounds bs
 rw [h.length] at b3
 have HN := @cutB_no bs most
 have HY := @cutB_yes bs most
 have HB := qh h
 clear h
 rw [HB.out.length] at HN HY
 have hget := get_any w ad len cap bs HB.out hL
 unfold GivesGet at hget
 obtain ⟨n, hn⟩ : ∃ n, n = (getB bs).1 := ⟨_, rfl⟩
 obtain ⟨k, hk⟩ : ∃ k, k = (getB bs).2 := ⟨_, rfl⟩
 rw [← hn] at b4 b5 HN HY hget
 rw [← hk] at b2 b3 HN HY hget
 have HGET := qh hget
 have HN := qh HN
 have HY := qh HY
 clear hn hk hget
 by_cases hc : k = 0 ∨ n < 0 ∨ most < n ∨ (len : Int) - (k : Int) < n
 · have HC := qh (HN.out hc)
   go_enter Tryz.func148, Tryz.ntmps148
   go_wp2_with (go_at_call 169; refine HGET.out.mono ?_; rintro e w' ⟨rfl, rfl⟩)
   all_goals first
    | (exfalso; omega)
    | (go_ret2; exact gives_cut HC.out str_nil rfl (Below.refl _ _))
 have HC := qh (HY.out hc)
 obtain ⟨m, rfl⟩ : ∃ m : Nat, n = (m : Int) := ⟨n.toNat, by omega⟩
 have hlen := HB.out.cells
 rcases hlen with hl0 | ⟨b, off, rfl, _⟩
 · omega
 obtain ⟨o, c, hsl, hby⟩ := cut_run HB.out k m (by omega)
 obtain ⟨s, hs⟩ := exq (str ((bs.drop k).take m))
 have hcv := run_str_at hby hs
 have HS := qh hs
 clear hs hby
 rw [Int.toNat_natCast] at HC
 have hk0 : ((k : Int) == 0) = false := by simp; omega
 go_enter Tryz.func148, Tryz.ntmps148
 go_wp2_with (go_at_call 169; refine HGET.out.mono ?_; rintro e w' ⟨rfl, rfl⟩)
 all_goals first
  | (exfalso; omega)
  | (go_ret2; exact gives_cut HC.out HS.out (by omega) (Below.refl _ _))
theorem refCut_any (w : World) (ad : Option Addr) (len cap : Nat) (bs : List Nat) (most : Int) (h : Byt w ad len cap bs) (hL : len ≤ 140737488355328) (h0 : -9223372036854775808 ≤ most) (h1 : most ≤ 9223372036854775807) :
 Calls Tryz.prog 145 #[.slice ad len cap, .int .i64 most] w (GivesCut bs most w) := by
 obtain ⟨b2, b3, b4, b5⟩ := getB_bounds bs
 rw [h.length] at b3
 have HN := @cutB_no bs most
 have HY := @cutB_yes bs most
 have HB := qh h
 clear h
 rw [HB.out.length] at HN HY
 have hget := refGet_any w ad len cap bs HB.out hL
 unfold GivesGetB at hget
 obtain ⟨n, hn⟩ : ∃ n, n = (getB bs).1 := ⟨_, rfl⟩
 obtain ⟨k, hk⟩ : ∃ k, k = (getB bs).2 := ⟨_, rfl⟩
 rw [← hn] at b4 b5 HN HY hget
 rw [← hk] at b2 b3 HN HY hget
 have HGET := qh hget
 have HN := qh HN
 have HY := qh HY
 clear hn hk hget
 by_cases hc : k = 0 ∨ n < 0 ∨ most < n ∨ (len : Int) - (k : Int) < n
 · have HC := qh (HN.out hc)
   go_enter Tryz.func145, Tryz.ntmps145
   go_wp2_with (go_at_call 167; refine HGET.out.mono ?_; rintro e w1 ⟨rfl, hb1⟩; have HB1 := qh hb1; clear hb1)
   all_goals first
    | (exfalso; omega)
    | (go_ret2; exact gives_cut HC.out str_nil rfl HB1.out)
 have HC := qh (HY.out hc)
 obtain ⟨m, rfl⟩ : ∃ m : Nat, n = (m : Int) := ⟨n.toNat, by omega⟩
 have hlen := HB.out.cells
 rcases hlen with hl0 | ⟨b, off, rfl, _⟩
 · omega
 obtain ⟨o, c, hsl, hby⟩ := cut_run HB.out k m (by omega)
 obtain ⟨s, hs⟩ := exq (str ((bs.drop k).take m))
 have HCV : Hid (∀ W, Below w.heap.size w W → (convert 30 9 (.slice (some ⟨b, o, none⟩) m c)).run Tryz.prog W = .ok (.string s) W) := fun W hW => run_str_at (hby.keep hW (Nat.le_refl _)) hs
 have HS := qh hs
 clear hs hby
 rw [Int.toNat_natCast] at HC
 have hk0 : ((k : Int) == 0) = false := by simp; omega
 go_enter Tryz.func145, Tryz.ntmps145
 go_wp2_with (go_at_call 167; refine HGET.out.mono ?_; rintro e w1 ⟨rfl, hb1⟩; have HB1 := qh hb1; clear hb1; have hcv1 := HCV.out w1 HB1.out)
 all_goals first
  | (exfalso; omega)
  | (go_ret2; exact gives_cut HC.out HS.out (by omega) HB1.out)
end Go.Proofs.YtjmfdildnojknaaGreat
