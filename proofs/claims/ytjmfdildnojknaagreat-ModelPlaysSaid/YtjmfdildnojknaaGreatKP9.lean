/- Parts of a proof. -/
import Derived.Laws.StructEq
import Derived.Test.YtjmfdildnojknaaGreatKP8
set_option maxRecDepth 100000
set_option maxHeartbeats 16000000
set_option linter.unusedVariables false
namespace Go.Proofs.YtjmfdildnojknaaGreat
open Go.RowKit
open Go.FoMath
open Go.ProdMath
open Go.BatMath hiding AllB getD_lt take_all
theorem infoGt : (Tryz.prog.info? 137).map (fun i => (i.zero, i.size, i.bytes)) = some (some (.agg #[.int .i64 0, .int .i64 0, .string ⟨#[]⟩, .string ⟨#[]⟩]), 4, 48) := by kernel_rfl
def gtK : Kind Gt := ⟨fun g => [.int .i64 g.off, .int .i64 g.prod, .string g.rc.key, .string g.rc.val], 4, 137, 70⟩
theorem gtK_ok : gtK.Ok 48 where
 und := Tryz.underlying70
 info := by
  obtain ⟨i, hi, hz, hs, hb⟩ := info_parts infoGt
  exact ⟨i, _, hi, hz, hs, hb, rfl⟩
 len := fun _ => rfl
 pos := by decide
 one := fun r u hu => by
  simp only [gtK, List.mem_cons, List.not_mem_nil, or_false] at hu
  rcases hu with rfl | rfl | rfl | rfl <;> rfl
 few := by decide
structure GtAt (W : World) (b o : Nat) (x : Gt) : Prop where
 c0 : W.cell? ⟨b, o, none⟩ = some (.int .i64 x.off)
 c1 : W.cell? ⟨b, o + 1, none⟩ = some (.int .i64 x.prod)
 c2 : W.cell? ⟨b, o + 2, none⟩ = some (.string x.rc.key)
 c3 : W.cell? ⟨b, o + 3, none⟩ = some (.string x.rc.val)
theorem gt_get {w : World} {ad : Option Addr} {len cap : Nat} {l : List Gt} (h : RowAt gtK w ad len cap l) {i : Nat} (hi : i < len) : ∃ b off x, ad = some ⟨b, off, none⟩ ∧ b < w.heap.size ∧ l[i]? = some x ∧ GtAt w b (off + i * 4) x := by
 obtain ⟨b, off, x, e, hb, hx, hc⟩ := h.get hi
 exact ⟨b, off, x, e, hb, hx, hc 0 _ rfl, hc 1 _ rfl, hc 2 _ rfl, hc 3 _ rfl⟩
theorem rc_get {w : World} {ad : Option Addr} {len cap : Nat} {l : List Rc} (h : RecsAt w ad len cap l) {i : Nat} (hi : i < len) : ∃ b off x, ad = some ⟨b, off, none⟩ ∧ b < w.heap.size ∧ l[i]? = some x ∧ w.cell? ⟨b, off + i * 2, none⟩ = some (.string x.key) ∧ w.cell? ⟨b, off + i * 2 + 1, none⟩ = some (.string x.val) := by
 obtain ⟨b, off, x, e, hb, hx, hc⟩ := (recsAt_row.1 h).get hi
 exact ⟨b, off, x, e, hb, hx, hc 0 _ rfl, hc 1 _ rfl⟩
def GivesGots (w : World) (l : List Gt) (e : Ending) (w' : World) : Prop :=
 ∃ ad n cap, e = .returned (.slice ad n cap) ∧ RowAt gtK w' ad n cap l ∧ (∀ a, ad = some a → w.heap.size ≤ a.block ∧ a.block < w'.heap.size) ∧ Below w.heap.size w w'
def partG (b : Bat) (i : Nat) (a z : Int) : List Gt := if b.marker = 0 then (recsG b.prod b.base (b.recs.take i)).filter (fun g => decide (a ≤ g.off ∧ g.off < z)) else []
theorem recsG_take {p : Int} : ∀ {l : List Rc} {i : Nat} {r : Rc} (n : Int), l[i]? = some r → recsG p n (l.take (i + 1)) = recsG p n (l.take i) ++ [⟨n + (i : Int), p, r⟩]
 | [], i, r, n, h => by cases h
 | x :: l, 0, r, n, h => by
   cases h
   show [(⟨n, p, x⟩ : Gt)] = [] ++ [⟨n + 0, p, x⟩]
   rw [Int.add_zero]
   rfl
 | x :: l, i + 1, r, n, h => by
   have ih := recsG_take (p := p) (l := l) (i := i) (n + 1) h
   show (⟨n, p, x⟩ : Gt) :: recsG p (n + 1) (l.take (i + 1)) = (⟨n, p, x⟩ :: recsG p (n + 1) (l.take i)) ++ [⟨n + ((i + 1 : Nat) : Int), p, r⟩]
   rw [ih]
   have : n + 1 + (i : Int) = n + ((i + 1 : Nat) : Int) := by omega
   rw [this]
   rfl
theorem partG_zero (b : Bat) (a z : Int) : partG b 0 a z = [] := by unfold partG; split <;> rfl
theorem partG_all (b : Bat) (a z : Int) : partG b b.recs.length a z = batG b a z := by unfold partG batG; rw [List.take_length]
theorem partG_yes {b : Bat} {i : Nat} {a z : Int} {r : Rc} (h : b.recs[i]? = some r) (hm : b.marker = 0) (h1 : a ≤ b.base + (i : Int)) (h2 : b.base + (i : Int) < z) : partG b (i + 1) a z = partG b i a z ++ [⟨b.base + (i : Int), b.prod, r⟩] := by
 unfold partG
 rw [if_pos hm, if_pos hm, recsG_take b.base h, List.filter_append]
 congr 1
 simp [h1, h2]
theorem partG_no {b : Bat} {i : Nat} {a z : Int} {r : Rc} (h : b.recs[i]? = some r) (hn : b.marker ≠ 0 ∨ b.base + (i : Int) < a ∨ z ≤ b.base + (i : Int)) : partG b (i + 1) a z = partG b i a z := by
 unfold partG
 by_cases hm : b.marker = 0
 rotate_left
 · rw [if_neg hm, if_neg hm]
 rw [if_pos hm, if_pos hm, recsG_take b.base h, List.filter_append]
 have : ([(⟨b.base + (i : Int), b.prod, r⟩ : Gt)]).filter (fun g => decide (a ≤ g.off ∧ g.off < z)) = [] := by
  rw [List.filter_cons_of_neg]
  · rfl
  intro h
  have h3 := of_decide_eq_true h
  simp only at h3
  rcases hn with h4 | h4 | h4
  · exact h4 hm
  · omega
  omega
 rw [this, List.append_nil]
theorem partG_len (b : Bat) (i : Nat) (a z : Int) : (partG b i a z).length ≤ i := by
 unfold partG
 split
 rotate_left
 · exact Nat.zero_le _
 refine Nat.le_trans (List.length_filter_le _ _) ?_
 have h1 : ∀ (p n : Int) (l : List Rc), (recsG p n l).length = l.length := fun p n l => by
  induction l generalizing n with
  | nil => rfl
  | cons x l ih => show _ + 1 = _ + 1; rw [ih]
 rw [h1, List.length_take]
 omega
theorem recordsD_snoc : ∀ (l : List Bat) (b : Bat) (a z : Int), recordsD (l ++ [b]) a z = recordsD l a z ++ batG b a z
 | [], b, a, z => by show batG b a z ++ [] = [] ++ batG b a z; rw [List.append_nil]; rfl
 | c :: l, b, a, z => by
   show batG c a z ++ recordsD (l ++ [b]) a z = batG c a z ++ recordsD l a z ++ batG b a z
   rw [recordsD_snoc l b a z, List.append_assoc]
theorem recordsD_few {a z : Int} : ∀ {l : List Bat}, (∀ b ∈ l, b.recs.length ≤ 16) → (recordsD l a z).length ≤ 16 * l.length
 | [], _ => Nat.le_refl _
 | b :: l, h => by
   have h1 := partG_len b b.recs.length a z
   rw [partG_all] at h1
   have h2 := recordsD_few (a := a) (z := z) (l := l) (fun c hc => h c (by simp [hc]))
   have h3 := h b (by simp)
   show (batG b a z ++ recordsD l a z).length ≤ _
   rw [List.length_append, List.length_cons]
   omega
def GotsOk (bs : List Bat) : Prop := ∀ b ∈ bs, 0 ≤ b.base ∧ b.base ≤ 1099511627776 ∧ b.recs.length ≤ 16
theorem refRecords_any (w : World) (ad : Option Addr) (len cap : Nat) (ms : List BM) (h : BatsAt w ad len cap ms) (hL : len ≤ 5000) (hok : GotsOk (bats ms)) (fr t0 : Int) :
 Calls Tryz.prog 97 #[.slice ad len cap, .int .i64 fr, .int .i64 t0] w (GivesGots w (recordsD (bats ms) fr t0)) := by
 have H := qh h
 have hlen := h.row.length
 obtain ⟨bs, hbs⟩ := exq (bats ms)
 have hbl : bs.length = len := by rw [hbs]; unfold bats; rw [List.length_map]; exact hlen
 have HGET : Hid (∀ (i : Nat) m, ms[i]? = some m → bs[i]? = some m.b) := by
  intro i m hm
  rw [hbs]; unfold bats
  rw [List.getElem?_map, hm]; rfl
 rw [← hbs] at hok ⊢
 have HOK := qh hok
 have HBL := qh hbl
 clear h hbs hlen hok hbl
 go_enter Tryz.func97, Tryz.ntmps97
 go_wp2
 go_loopw [7, 15] (fun v7 v15 wr => ∃ (j : Nat) (u : Value), u = v7 ∧ v15 = .int .i64 (j : Int) ∧ j ≤ len ∧ Hid (OwnRow gtK wr w.heap.size u (recordsD (bs.take j) fr t0)) ∧ Hid (Below w.heap.size w wr)) (fun _ v15 _ => len - (intOf v15).toNat)
 case atStart => exact ⟨0, _, rfl, rfl, Nat.zero_le _, ownRow_nil _ _ _, Below.refl _ _⟩
 obtain ⟨j, u, rfl, rfl, hj, HO, HB⟩ := hrel
 obtain ⟨wo, hwo⟩ := exq wr
 subst hwo
 by_cases hlt : j < len
 rotate_left
 · have hd : decide (j < len) = false := decide_eq_false hlt
   have hjl : j = len := by omega
   have HFIN : Hid (OwnRow gtK wo w.heap.size u (recordsD bs fr t0)) := by
    have h1 := HO.out
    rw [hjl, ← HBL.out, List.take_length] at h1
    exact h1
   clear hjl
   go_wp2
   go_ret
   obtain ⟨ad, cap, hv, hr, hk⟩ := OwnRow.at gtK_ok HFIN.out
   exact ⟨ad, _, cap, congrArg Ending.returned hv, hr, hk, HB.out⟩
 have hd : decide (j < len) = true := decide_eq_true hlt
 have hjl : (j : Int) < (len : Int) := by omega
 obtain ⟨bk, off, m, rfl, hbk, hm, hrec, c0, c1, c2, c3, c4, c5, c6⟩ := (H.out.keep HB.out).get hlt
 have hbm := HGET.out j m hm
 obtain ⟨hb0, hb1, hrl⟩ := HOK.out m.b (List.mem_of_getElem? hbm)
 have HTK : Hid (recordsD (bs.take (j + 1)) fr t0 = recordsD (bs.take j) fr t0 ++ batG m.b fr t0) := by show _ = _; rw [List.take_add_one, hbm, Option.toList_some, recordsD_snoc]
 have HACC : Hid ((recordsD (bs.take j) fr t0).length ≤ 80000) := by
  show _ ≤ _
  have h1 := recordsD_few (a := fr) (z := t0) (l := bs.take j) (fun b hb => (HOK.out b (List.mem_of_mem_take hb)).2.2)
  rw [List.length_take] at h1
  omega
 have HRC : Hid (RecsAt w m.ad m.b.recs.length m.cap m.b.recs) := H.out.ins m (List.mem_of_getElem? hm)
 obtain ⟨⟨b0, b1, b2, b3, b4, b5, recs⟩, rd, rc⟩ := m
 simp only at c0 c1 c2 c3 c4 c5 c6 hb0 hb1 hrl HTK HRC
 obtain ⟨rn, hrn⟩ : ∃ n, recs.length = n := ⟨_, rfl⟩
 rw [hrn] at c6 hrl HRC
 have HRN := qh hrn
 clear hbm hm hrec hbk hrn
 go_upto_region 5 with fail
 obtain ⟨W1, hW1⟩ := exq (wo.alloc (.cells #[.int .i64 b0, .int .i64 b1, .int .i64 b2, .int .i64 b3, .bool b4, .int .i64 b5, .slice rd rn rc] 29))
 have hb1' : Below wo.heap.size wo W1 := by rw [hW1]; exact (bal _ _)
 obtain ⟨K, hK⟩ := exq wo.heap.size
 have HX1 := bxq hW1 hK
 have HO1 := qh (HO.out.on hb1')
 have HB1 := qh (HB.out.trans (hb1'.mono HB.out.size))
 have HKW : Hid (w.heap.size ≤ K) := by show _ ≤ _; rw [hK]; exact HB.out.size
 have HUK : Hid (∀ q, u.ownBlock = some q → q < K) := fun q hq => by have := (HO.out.lt q hq).2; rw [hK]; exact this
 have HKK : Hid (K < W1.heap.size) := HX1.out.lt
 rw [← hW1, ← hK]
 clear hW1 hb1' hK c0 c1 c2 c3 c4 c5 c6
 have x6 := HX1.out.c6
 go_wp2
 clear x6
 go_loopw [7, 22] (fun v7 v22 wr => ∃ (i : Nat) (v : Value), v = v7 ∧ v22 = .int .i64 (i : Int) ∧ i ≤ rn ∧ Hid (OwnRow gtK wr w.heap.size v (recordsD (bs.take j) fr t0 ++ partG ⟨b0, b1, b2, b3, b4, b5, recs⟩ i fr t0)) ∧ Hid (∀ q, v.ownBlock = some q → q ≠ K) ∧ Hid (BoxAt wr K b0 b1 b2 b3 b4 b5 (.slice rd rn rc)) ∧ Hid (Below w.heap.size w wr)) (fun _ v22 _ => rn - (intOf v22).toNat)
 case atStart =>
  refine ⟨0, _, rfl, rfl, Nat.zero_le _, ?_, ?_, HX1.out, HB1.out⟩
  · show OwnRow _ _ _ _ _
    rw [partG_zero, List.append_nil]
    exact HO1.out
  exact fun q hq => Nat.ne_of_lt (HUK.out q hq)
 obtain ⟨i, v, rfl, rfl, hi, HV, HNK, HX, HBB⟩ := hrel
 clear HO1 HX1 HB1
 obtain ⟨wi, hwi⟩ := exq wr
 subst hwi
 by_cases hit : i < rn
 rotate_left
 · have hdi : decide (i < rn) = false := decide_eq_false hit
   have hir : i = rn := by omega
   have HO2 : Hid (OwnRow gtK wi w.heap.size v (recordsD (bs.take (j + 1)) fr t0)) := by
    have h1 := HV.out
    rw [hir, ← HRN.out, partG_all, ← HTK.out] at h1
    exact h1
   clear hir
   go_wp2
   go_roundw
   case rel => exact ⟨j + 1, v, rfl, rfl, hlt, HO2.out, HBB.out⟩
   simp [intOf]; omega
 have hdi : decide (i < rn) = true := decide_eq_true hit
 have hil : (i : Int) < (rn : Int) := by omega
 obtain ⟨rb, ro, r, el, hrb, hri, k0, k1⟩ := rc_get (HRC.out.keep HBB.out) hit
 subst el
 have HRI := qh hri
 obtain ⟨n, hn⟩ : ∃ n : Int, n = b0 + (i : Int) := ⟨_, rfl⟩
 have HN := qh hn
 clear hri hn
 obtain ⟨rk, rv⟩ := r
 simp only at k0 k1
 go_upto_region 8 with fail
 obtain ⟨W2, hW2⟩ := exq (wi.alloc (.cells #[.string rk, .string rv] 84))
 obtain ⟨Q, hQ⟩ := exq wi.heap.size
 have hb2 := wbq hW2
 have HRX : Hid (W2.heap[Q]? = some (.cells #[.string rk, .string rv] 84 (0, 0))) := by show _ = _; rw [hW2, hQ]; exact heap_alloc_new wi _
 have HX2 := qh (HX.out.on hb2)
 have HV2 := qh (HV.out.on hb2)
 have HB2 := qh (HBB.out.trans (hb2.mono HBB.out.size))
 (try rw [← hW2, ← hQ])
 clear hW2 hQ hb2 k0 k1 HX HV HBB hrb
 have x0 := HX2.out.c0
 have x1 := HX2.out.c1
 have x5 := HX2.out.c5
 have s0 : W2.cell? ⟨Q, 0, none⟩ = some (.string rk) := by rw [cell_of_row _ _ 0 _ _ _ HRX.out]; rfl
 have s1 : W2.cell? ⟨Q, 1, none⟩ = some (.string rv) := by rw [cell_of_row _ _ 1 _ _ _ HRX.out]; rfl
 go_upto_region 9 with fail
 rw [← HN.out]
 have hcs : (b5 ≠ 0) ∨ (b5 = 0 ∧ ¬ fr ≤ n) ∨ (b5 = 0 ∧ fr ≤ n ∧ ¬ n < t0) ∨ (b5 = 0 ∧ fr ≤ n ∧ n < t0) := by omega
 rcases hcs with h5 | ⟨h5, h6⟩ | ⟨h5, h6, h7⟩ | ⟨h5, h6, h7⟩
 · have hd5 : (b5 == 0) = false := beq_false_of_ne h5
   have HP : Hid (partG ⟨b0, b1, b2, b3, b4, b5, recs⟩ (i + 1) fr t0 = partG ⟨b0, b1, b2, b3, b4, b5, recs⟩ i fr t0) := partG_no HRI.out (.inl h5)
   clear h5
   go_wp2
   go_roundw
   case rel => exact ⟨i + 1, v, rfl, rfl, hit, by rw [HP.out]; exact HV2.out, HNK.out, HX2.out, HB2.out⟩
   simp [intOf]; omega
 · have hd5 : (b5 == 0) = true := by rw [h5]; rfl
   have hd6 : decide (fr ≤ n) = false := decide_eq_false h6
   have HP : Hid (partG ⟨b0, b1, b2, b3, b4, b5, recs⟩ (i + 1) fr t0 = partG ⟨b0, b1, b2, b3, b4, b5, recs⟩ i fr t0) := partG_no HRI.out (.inr (.inl (by have := HN.out; simp only; omega)))
   clear h5 h6
   go_wp2
   go_roundw
   case rel => exact ⟨i + 1, v, rfl, rfl, hit, by rw [HP.out]; exact HV2.out, HNK.out, HX2.out, HB2.out⟩
   simp [intOf]; omega
 · have hd5 : (b5 == 0) = true := by rw [h5]; rfl
   have hd6 : decide (fr ≤ n) = true := decide_eq_true h6
   have hd7 : decide (n < t0) = false := decide_eq_false h7
   have HP : Hid (partG ⟨b0, b1, b2, b3, b4, b5, recs⟩ (i + 1) fr t0 = partG ⟨b0, b1, b2, b3, b4, b5, recs⟩ i fr t0) := partG_no HRI.out (.inr (.inr (by have := HN.out; simp only; omega)))
   clear h5 h6 h7
   go_wp2
   go_roundw
   case rel => exact ⟨i + 1, v, rfl, rfl, hit, by rw [HP.out]; exact HV2.out, HNK.out, HX2.out, HB2.out⟩
   simp [intOf]; omega
 have hd5 : (b5 == 0) = true := by rw [h5]; rfl
 have hd6 : decide (fr ≤ n) = true := decide_eq_true h6
 have hd7 : decide (n < t0) = true := decide_eq_true h7
 have HP : Hid (partG ⟨b0, b1, b2, b3, b4, b5, recs⟩ (i + 1) fr t0 = partG ⟨b0, b1, b2, b3, b4, b5, recs⟩ i fr t0 ++ [⟨n, b1, ⟨rk, rv⟩⟩]) := by
  show _ = _
  rw [HN.out]
  exact partG_yes HRI.out h5 (by have := HN.out; simp only; omega) (by have := HN.out; simp only; omega)
 have HPL : Hid ((recordsD (bs.take j) fr t0 ++ partG ⟨b0, b1, b2, b3, b4, b5, recs⟩ i fr t0).length ≤ 90000) := by
  show _ ≤ _
  have h1 := partG_len ⟨b0, b1, b2, b3, b4, b5, recs⟩ i fr t0
  have h2 := HACC.out
  rw [List.length_append]
  omega
 clear h5 h6 h7
 obtain ⟨W3, hW3⟩ := exq (W2.alloc (.cells #[.int .i64 n, .int .i64 b1, .string rk, .string rv] 137))
 have hb3 := wbq hW3
 have HLIT : Hid (RowAt gtK W3 (some ⟨W2.heap.size, 0, none⟩) 1 1 [⟨n, b1, ⟨rk, rv⟩⟩]) := by
  show RowAt _ _ _ _ _ _
  rw [hW3]
  exact rowAt_lit gtK_ok W2 [⟨n, b1, ⟨rk, rv⟩⟩] (by simp) _ rfl 1 rfl
 have HX3 := qh (HX2.out.on hb3)
 have HV3 := qh (HV2.out.on hb3)
 have HB3 := qh (HB2.out.trans (hb3.mono HB2.out.size))
 have HW3 := qh hW3
 clear hb3 hW3
 go_wp2_with (at_builtin; rw [← HW3.out]; refine list_row (by rfl) gtK_ok (.tmp 44) (.tmp 50) rfl w.heap.size (recordsD (bs.take j) fr t0 ++ partG ⟨b0, b1, b2, b3, b4, b5, recs⟩ i fr t0) [⟨n, b1, ⟨rk, rv⟩⟩] v rfl HV3.out HB3.out.size (some ⟨W2.heap.size, 0, none⟩) 1 1 rfl HLIT.out (by have := HPL.out; omega) ?_)
 intro v4 w4 hap
 have HV4 : Hid (OwnRow gtK w4 w.heap.size v4 (recordsD (bs.take j) fr t0 ++ partG ⟨b0, b1, b2, b3, b4, b5, recs⟩ (i + 1) fr t0)) := by
  show OwnRow _ _ _ _ _
  rw [HP.out]
  exact hap.1
 have HX4 : Hid (BoxAt w4 K b0 b1 b2 b3 b4 b5 (.slice (some ⟨rb, ro, none⟩) rn rc)) := (hap.2.1.block K HX3.out.lt (fun e => HNK.out K e.symm rfl)).trans HX3.out
 have HN4 : Hid (∀ q, v4.ownBlock = some q → q ≠ K) := fun q hq => by
  rcases hap.2.2.2 q hq with h1 | h1
  · exact HNK.out q h1
  have := HX3.out.lt; omega
 have HB4 : Hid (Below w.heap.size w w4) := HB3.out.grown hap.2.1 HB3.out.size (fun q hq => (HV3.out.lt q hq).1)
 clear hap HV3 HX3 HB3 HLIT HW3 HV2 HX2 HB2 HRX x0 x1 x5 s0 s1
 go_wp2
 go_roundw
 case rel => exact ⟨i + 1, v4, rfl, rfl, hit, HV4.out, HN4.out, HX4.out, HB4.out⟩
 simp [intOf]; omega
end Go.Proofs.YtjmfdildnojknaaGreat
namespace Go.ProdMath
open Go.SeqMath
open Go.BatMath
def TrOk (x : Tr) : Prop := 0 ≤ gapI x.f x.l ∧ gapI x.f x.l < 16 ∧ 0 ≤ x.b ∧ x.b ≤ 1099511627776
def TrNext (y x : Tr) : Prop := y.b < x.b ∧ followsB y.l x.f = true
def StepOk (l : List Tr) (j : Nat) : Prop := ∀ x, l[j]? = some x → TrOk x ∧ ∀ y, 0 < j → l[j - 1]? = some y → TrNext y x
def RightP (p : Pd) : Prop := (0 ≤ p.id ∧ 0 ≤ p.epoch ∧ p.epoch ≤ 32767 ∧ -1 ≤ p.opn ∧ p.opn ≤ 1099511627776 ∧ p.last.length ≤ 5) ∧ ∀ j, StepOk p.last j
end Go.ProdMath
namespace Go.SnapMath
open Go.ProdMath
open Go.BatMath (In64)
open Go.VarMath (encN getB enc_len enc_all zig zig_lt encU AllB)
def trS (x : Tr) : List Nat := encN x.f ++ (encN x.l ++ encN x.b)
def trsS : List Tr → List Nat
 | [] => []
 | x :: l => trS x ++ trsS l
def pdS (p : Pd) : List Nat := encN p.id ++ (encN p.epoch ++ (encN p.opn ++ (encN (p.last.length : Int) ++ trsS p.last)))
def pdsS : List Pd → List Nat
 | [] => []
 | p :: l => pdS p ++ pdsS l
def bodyS (l : List Pd) (n : Int) : List Nat := encN n ++ (encN (l.length : Int) ++ pdsS l)
def snapS (l : List Pd) (n : Int) : List Nat := CrcMath.sealB (bodyS l n)
end Go.SnapMath
namespace Go.SnapMath
open Go.ProdMath
open Go.BatMath (In64)
open Go.VarMath (encN getB getB_bounds AllB)
def rdN (bs : List Nat) (fell : Bool) : Int × List Nat × Bool := if fell = true ∨ (getB bs).2 = 0 then (0, bs, true) else ((getB bs).1, bs.drop (getB bs).2, false)
def rdTr (bs : List Nat) (f : Bool) : Tr × List Nat × Bool :=
 (⟨(rdN bs f).1, (rdN (rdN bs f).2.1 (rdN bs f).2.2).1, (rdN (rdN (rdN bs f).2.1 (rdN bs f).2.2).2.1 (rdN (rdN bs f).2.1 (rdN bs f).2.2).2.2).1⟩, (rdN (rdN (rdN bs f).2.1 (rdN bs f).2.2).2.1 (rdN (rdN bs f).2.1 (rdN bs f).2.2).2.2).2)
def rdTrs : Nat → List Nat → Bool → List Tr × List Nat × Bool
 | 0, bs, f => ([], bs, f)
 | k + 1, bs, f => if f = true then ([], bs, f) else ((rdTr bs f).1 :: (rdTrs k (rdTr bs f).2.1 (rdTr bs f).2.2).1, (rdTrs k (rdTr bs f).2.1 (rdTr bs f).2.2).2)
def rdPd (bs : List Nat) (f : Bool) : Pd × List Nat × Bool :=
 let a := rdN bs f
 let b := rdN a.2.1 a.2.2
 let c := rdN b.2.1 b.2.2
 let d := rdN c.2.1 c.2.2
 let e := rdTrs d.1.toNat d.2.1 d.2.2
 (⟨a.1, b.1, e.1, c.1⟩, e.2)
noncomputable def okP (p : Pd) : Bool := @decide (RightP p) (Classical.propDecidable _)
def lastId (acc : List Pd) (p : Pd) : Bool := match acc.getLast? with
 | none => true
 | some q => decide (q.id < p.id)
noncomputable def rdPds : Nat → List Pd → List Nat → Bool → Option (List Pd × List Nat × Bool)
 | 0, acc, bs, f => some (acc, bs, f)
 | n + 1, acc, bs, f => if f = true then some (acc, bs, f) else if (okP (rdPd bs f).1 && lastId acc (rdPd bs f).1) = true then rdPds n (acc ++ [(rdPd bs f).1]) (rdPd bs f).2.1 (rdPd bs f).2.2 else none
def openS (bs : List Nat) : List Nat × Bool := if CrcMath.okB bs = true then (bs.drop 4, false) else ([], true)
noncomputable def rdAll (bs : List Nat) : Int × Option (List Pd × List Nat × Bool) :=
 let a := rdN (openS bs).1 (openS bs).2
 let c := rdN a.2.1 a.2.2
 (a.1, rdPds c.1.toNat [] c.2.1 c.2.2)
structure AccOk (acc : List Pd) : Prop where
 right : ∀ p ∈ acc, RightP p
 ids : ∀ p ∈ acc, In64 p.id
 asc : Asc acc
def IsSnap (bs : List Nat) (l : List Pd) (n : Int) : Prop := AccOk l ∧ (0 ≤ n ∧ n ≤ 1099511627776) ∧ bs = snapS l n
end Go.SnapMath
namespace Go.SnapMath
open Go.ProdMath
open Go.BatMath (In64 Bat Ok ok_of rightE head_of headB noneB none_of)
open Go.SeqMath (gapI followsB lastI addI)
end Go.SnapMath
namespace Go.SnapMath
open Go.ProdMath
open Go.BatMath (In64 Bat)
theorem tapply_len (l : List Pd) (b : Bat) : (tapplyD l b).length ≤ l.length + 1 := by
 unfold tapplyD
 split
 · omega
 split
 · rw [List.length_set]; omega
 rw [List.length_append, List.length_cons, List.length_take, List.length_drop]
 have := atD_le l b.prod
 omega
theorem fold_len : ∀ (bs : List Bat) (l : List Pd), (foldP l bs).length ≤ l.length + bs.length
 | [], l => Nat.le_refl _
 | b :: bs, l => by
   have h1 := fold_len bs (tapplyD l b)
   have h2 := tapply_len l b
   show (foldP (tapplyD l b) bs).length ≤ _
   rw [List.length_cons]
   omega
end Go.SnapMath
namespace Go.AbMath
open Go.ProdMath
open Go.SnapMath
open Go.BatMath (In64 Bat)
def DrOk (d : Dr) : Prop := 0 ≤ d.prod ∧ 0 ≤ d.first ∧ d.first < d.last ∧ d.last ≤ 1099511627776
def AscL (l : List Dr) : Prop := l.Pairwise fun a b => a.last < b.last
def lastD (l : List Dr) : Int := match l.getLast? with
 | none => -1
 | some d => d.last
def okD (z : Int) (d : Dr) : Prop := DrOk d ∧ z < d.last
instance (d : Dr) : Decidable (DrOk d) := by unfold DrOk; infer_instance
instance (z : Int) (d : Dr) : Decidable (okD z d) := by unfold okD; infer_instance
def withinD (l : List Dr) (a b : Int) : List Dr := l.filter fun d => decide (a < b ∧ d.first < b ∧ a ≤ d.last)
structure DrsOk (l : List Dr) : Prop where
 each : ∀ d ∈ l, DrOk d
 asc : AscL l
theorem DrsOk.nil : DrsOk [] := ⟨fun d h => (by cases h), List.Pairwise.nil⟩
theorem lastD_snoc (l : List Dr) (d : Dr) : lastD (l ++ [d]) = d.last := by unfold lastD; rw [List.getLast?_append, List.getLast?_singleton]; rfl
theorem lastD_lt {l : List Dr} (h : DrsOk l) {z : Int} (hz : -1 < z) : lastD l < z ↔ ∀ d ∈ l, d.last < z := by
 rcases List.eq_nil_or_concat l with e | ⟨i, q, e⟩
 · subst e
   exact ⟨fun _ d hd => (by cases hd), fun _ => hz⟩
 rw [List.concat_eq_append] at e
 subst e
 rw [lastD_snoc]
 refine ⟨fun hq d hd => ?_, fun hall => hall q (by simp)⟩
 rcases List.mem_append.1 hd with hd | hd
 · have := (List.pairwise_append.1 h.asc).2.2 d hd q (by simp)
   omega
 rw [List.mem_singleton.1 hd]; exact hq
theorem DrsOk.snoc {l : List Dr} (h : DrsOk l) {d : Dr} (hd : okD (lastD l) d) : DrsOk (l ++ [d]) := by
 have h1 := (lastD_lt h (z := d.last) (by have := hd.1; unfold DrOk at this; omega)).1 hd.2
 refine ⟨fun x hx => ?_, List.pairwise_append.2 ⟨h.asc, List.pairwise_singleton _ _, fun a ha b hb => by rw [List.mem_singleton.1 hb]; exact h1 a ha⟩⟩
 rcases List.mem_append.1 hx with hx | hx
 · exact h.each x hx
 rw [List.mem_singleton.1 hx]; exact hd.1
theorem tdrop_is {l : List Pd} {b : Bat} {d : Dr} (ha : Asc l) (h : tdropD l b = some d) : 0 ≤ b.prod ∧ ∃ p ∈ l, 0 ≤ p.opn ∧ d = ⟨b.prod, p.opn, b.base⟩ := by
 unfold tdropD at h
 split at h
 · cases h
 rename_i h1
 split at h
 · rename_i h2
   unfold dropsB at h2
   simp only [Bool.and_eq_true, decide_eq_true_eq] at h2
   obtain ⟨h3, _, h4⟩ := h2
   have hlk := has_look ha b.prod
   rw [hlk.1] at h3
   obtain ⟨p, hp⟩ := Option.isSome_iff_exists.1 h3
   rw [hlk.2, hp] at h h4
   refine ⟨by omega, p, (look_id hp).2, h4, ?_⟩
   exact (Option.some.inj h).symm
 cases h
theorem drops_len : ∀ (bs : List Bat) (l : List Pd), (foldR l bs).length ≤ bs.length
 | [], l => Nat.le_refl _
 | b :: bs, l => by
   have h := drops_len bs (tapplyD l b)
   show ((tdropD l b).toList ++ foldR (tapplyD l b) bs).length ≤ _
   rw [List.length_append, List.length_cons]
   have h2 : (tdropD l b).toList.length ≤ 1 := by cases tdropD l b <;> simp
   omega
end Go.AbMath
namespace Go.Proofs.YtjmfdildnojknaaGreat
open Go.RowKit
open Go.SeqMath
theorem seq_wrap (n : Int) (w : World) (v : Int) (h0 : -2147483648 ≤ n) (h1 : n ≤ 4294967295) (hv : n % 2147483648 = v) :
 Calls Tryz.prog 181 #[.int .i64 n] w fun e w' => e = .returned (.int .i64 v) ∧ w = w' := by
 have HV := qh hv
 clear hv
 go_enter Tryz.func181, Tryz.ntmps181
 go_wp2
 go_ret
 exact ⟨seq_ret (by have := HV.out; omega), rfl⟩
theorem seq_add (n k : Int) (w : World) (v : Int) (k0 : -9223372036854775808 ≤ k) (k1 : k ≤ 9223372036854775807) (hv : addI n k = v) :
 Calls Tryz.prog 171 #[.int .i64 n, .int .i64 k] w fun e w' => e = .returned (.int .i64 v) ∧ w = w' := by
 rcases hr : rightB n with _ | _
 · have HV : Hid (v = -1) := by show _ = _; rw [← hv, add_no hr]
   have HR := qh hr
   clear hv hr
   go_enter Tryz.func171, Tryz.ntmps171
   go_wp2_with (go_at_call 109; refine (seq_right n _ false HR.out).mono ?_; rintro e w' ⟨rfl, rfl⟩)
   go_ret
   exact ⟨seq_ret HV.out.symm, rfl⟩
 obtain ⟨n0, n1⟩ := of_right hr
 have HV : Hid ((n + k) % 2147483648 = v) := by show _ = _; rw [← hv, add_yes n0 n1]
 have HR := qh hr
 clear hv hr
 by_cases hk : 0 ≤ k
 · go_enter Tryz.func171, Tryz.ntmps171
   go_wp2_with (first | (go_at_call 109; refine (seq_right n _ true HR.out).mono ?_; rintro e w' ⟨rfl, rfl⟩) | (go_at_call 181; refine (seq_wrap _ _ v (by omega) (by omega) (by have := HV.out; omega)).mono ?_; rintro e w' ⟨rfl, rfl⟩))
   go_ret
   exact ⟨rfl, rfl⟩
 have hk' : k < 0 := by omega
 obtain ⟨t, ht⟩ := exq (k.tmod 2147483648)
 have ht2 : t = -((-k) % 2147483648) := by
  rw [ht, ← Int.tmod_eq_emod_of_nonneg (by omega : 0 ≤ -k), Int.neg_tmod, Int.neg_neg]
 have HT : Hid (k.tmod 2147483648 = t) := ht.symm
 have HT2 := qh ht2
 have t0 : -2147483648 < t := by omega
 have t1 : t ≤ 0 := by omega
 have htt := HT.out
 clear ht ht2
 go_enter Tryz.func171, Tryz.ntmps171
 go_wp2_with (first | (go_at_call 109; refine (seq_right n _ true HR.out).mono ?_; rintro e w' ⟨rfl, rfl⟩) | (go_at_call 181; refine (seq_wrap _ _ v (by omega) (by omega) (by have := HV.out; have := HT2.out; omega)).mono ?_; rintro e w' ⟨rfl, rfl⟩))
 go_ret
 exact ⟨rfl, rfl⟩
theorem seq_last (n c : Int) (w : World) (v : Int) (c0 : -9223372036854775808 ≤ c) (c1 : c ≤ 9223372036854775807) (hv : lastI n c = v) :
 Calls Tryz.prog 152 #[.int .i64 n, .int .i64 c] w fun e w' => e = .returned (.int .i64 v) ∧ w = w' := by
 by_cases h0 : c < 1
 · have HV : Hid (v = -1) := by show _ = _; rw [← hv, last_no (.inl h0)]
   clear hv
   go_enter Tryz.func152, Tryz.ntmps152
   go_wp2
   go_ret
   exact ⟨seq_ret HV.out.symm, rfl⟩
 have h0' : 1 ≤ c := by omega
 by_cases h1 : 16 < c
 · have HV : Hid (v = -1) := by show _ = _; rw [← hv, last_no (.inr h1)]
   clear hv
   go_enter Tryz.func152, Tryz.ntmps152
   go_wp2
   go_ret
   exact ⟨seq_ret HV.out.symm, rfl⟩
 have h1' : c ≤ 16 := by omega
 have HV : Hid (addI n (c - 1) = v) := by show _ = _; rw [← hv, last_yes h0' h1']
 clear hv
 go_enter Tryz.func152, Tryz.ntmps152
 go_wp2_with (go_at_call 171; refine (seq_add n _ _ v (by omega) (by omega) HV.out).mono ?_; rintro e w' ⟨rfl, rfl⟩)
 go_ret
 exact ⟨rfl, rfl⟩
theorem seq_follows (l f : Int) (w : World) (r : Bool) (hr : followsB l f = r) :
 Calls Tryz.prog 170 #[.int .i64 l, .int .i64 f] w fun e w' => e = .returned (.bool r) ∧ w = w' := by
 by_cases hl : l = -1
 · subst hl
   rw [follows_none] at hr
   by_cases hf : f = 0
   · subst hf
     obtain rfl : r = true := by rw [← hr]; rfl
     clear hr
     go_enter Tryz.func170, Tryz.ntmps170
     go_wp2
     go_ret
     exact ⟨rfl, rfl⟩
   obtain rfl : r = false := by rw [← hr]; exact decide_eq_false hf
   have hf1 : (f == 0) = false := by simpa using hf
   clear hr
   go_enter Tryz.func170, Tryz.ntmps170
   go_wp2
   go_ret
   exact ⟨rfl, rfl⟩
 have hl1 : (l == -1) = false := by simpa using hl
 rcases hq : rightB l with _ | _
 · obtain rfl : r = false := by rw [← hr, follows_no hl hq]
   have HQ := qh hq
   clear hr hq
   go_enter Tryz.func170, Tryz.ntmps170
   go_wp2_with (go_at_call 109; refine (seq_right l _ false HQ.out).mono ?_; rintro e w' ⟨rfl, rfl⟩)
   go_ret
   exact ⟨rfl, rfl⟩
 obtain ⟨l0, l1⟩ := of_right hq
 rw [follows_yes l0 l1] at hr
 obtain ⟨v, hv⟩ : ∃ v, addI l 1 = v := ⟨_, rfl⟩
 rw [hv] at hr
 have HV := qh hv
 have HQ := qh hq
 by_cases hf : f = v
 · subst hf
   obtain rfl : r = true := by rw [← hr]; exact decide_eq_true rfl
   clear hr hv hq
   go_enter Tryz.func170, Tryz.ntmps170
   go_wp2_with (first | (go_at_call 109; refine (seq_right l _ true HQ.out).mono ?_; rintro e w' ⟨rfl, rfl⟩) | (go_at_call 171; refine (seq_add l _ _ f (by omega) (by omega) HV.out).mono ?_; rintro e w' ⟨rfl, rfl⟩))
   go_ret
   exact ⟨rfl, rfl⟩
 obtain rfl : r = false := by rw [← hr]; exact decide_eq_false hf
 have hf1 : (f == v) = false := by simpa using hf
 clear hr hv hq
 go_enter Tryz.func170, Tryz.ntmps170
 go_wp2_with (first | (go_at_call 109; refine (seq_right l _ true HQ.out).mono ?_; rintro e w' ⟨rfl, rfl⟩) | (go_at_call 171; refine (seq_add l _ _ v (by omega) (by omega) HV.out).mono ?_; rintro e w' ⟨rfl, rfl⟩))
 go_ret
 exact ⟨rfl, rfl⟩
end Go.Proofs.YtjmfdildnojknaaGreat
namespace Go.Proofs.YtjmfdildnojknaaGreat
open Go.RowKit
open Go.SeqMath
open Go.ProdMath
open Go.BatMath hiding AllB getD_lt take_all
theorem eq_three (a b c d e f : Int) (w : World) : (Op.equalIn 10000 59 (.agg #[.int .i64 a, .int .i64 b, .int .i64 c]) (.agg #[.int .i64 d, .int .i64 e, .int .i64 f])).run Tryz.prog w = .ok (a == d && (b == e && c == f)) w := by
 have u3 := Tryz.underlying2
 have a3 := Tryz.isAgg2
 have z3 := Tryz.sizeOf2
 rw [show (10000 : Nat) = 9999 + 1 from rfl, Op.equalIn]
 simp only [Sem.run_bind, run_underlying Tryz.underlying59, Result.andThen_ok]
 simp only [Std.Legacy.Range.forIn_eq_forIn_range', Std.Legacy.Range.size, Nat.sub_zero, Nat.add_sub_cancel, Nat.div_one, List.range'_succ, List.range'_zero, List.forIn_cons, List.forIn_nil]
 go_simp
 by_cases h1 : a = d <;> by_cases h2 : b = e <;> by_cases h3 : c = f <;> simp [h1, h2, h3]
theorem guard_three : Tryz.prog.eqGuardType Tryz.prog.depth 59 = false := by kernel_rfl
theorem neq_three (a b c d e f : Int) (r : Bool) (hr : (a == d && (b == e && c == f)) = r) (w : World) : (binOp .neq 59 (.agg #[.int .i64 a, .int .i64 b, .int .i64 c]) (.agg #[.int .i64 d, .int .i64 e, .int .i64 f])).run Tryz.prog w = .ok (.bool (!r)) w := by
 rw [run_neq_struct, eq_three, hr]; rfl
theorem prOpen_any (w : World) (id ep op : Int) (ad : Option Addr) (n cap : Nat) (r : Bool) (hr : decide (0 ≤ op) = r) :
 Calls Tryz.prog 135 #[.agg #[.int .i64 id, .int .i64 ep, .slice ad n cap, .int .i64 op]] w fun e w' => e = .returned (.bool r) ∧ Below w.heap.size w w' := by
 have HR := qh hr
 clear hr
 obtain ⟨W0, hW0⟩ : ∃ W0, W0 = (w.alloc (.cells #[.int .i64 id, .int .i64 ep, .slice ad n cap, .int .i64 op] 58)) := ⟨_, rfl⟩
 have HB0 := hwq hW0
 have HP0 : Hid (PBox W0 w.heap.size (id) (ep) (.slice ad n cap) (op)) := by
  show PBox _ w.heap.size (id) (ep) (.slice ad n cap) (op)
  rw [hW0]
  have h1 := pbox_new w (id) (ep) (.slice ad n cap) (op)
  simpa using h1
 have HW0 := qh hW0
 clear hW0
 obtain ⟨B1, hB1⟩ := exq w.heap.size
 rw [← hB1] at HP0
 go_enter Tryz.func135, Tryz.ntmps135
 go_upto_region 1 with fail
 rw [← HW0.out, ← hB1]
 clear HW0 hB1
 have q3 := HP0.out.c3
 go_wp2
 go_ret
 exact ⟨by rw [← HR.out]; rfl, HB0.out⟩
theorem prEnd_any (w : World) (b0 b1 b2 b3 : Int) (b4 : Bool) (b5 : Int) (rd : Option Addr) (rn rc : Nat) (hm : b5 = 0) (hrn : rn ≤ 140737488355328) (v : Int) (hv : lastI b3 rn = v) :
 Calls Tryz.prog 134 #[.agg #[.int .i64 b0, .int .i64 b1, .int .i64 b2, .int .i64 b3, .bool b4, .int .i64 b5, .slice rd rn rc]] w fun e w' => e = .returned (.int .i64 v) ∧ Below w.heap.size w w' := by
 have HM := qh hm
 have HV := qh hv
 clear hm hv
 obtain ⟨W0, hW0⟩ : ∃ W0, W0 = (w.alloc (.cells #[.int .i64 b0, .int .i64 b1, .int .i64 b2, .int .i64 b3, .bool b4, .int .i64 b5, .slice rd rn rc] 29)) := ⟨_, rfl⟩
 have HB0 := hwq hW0
 have HX0 : Hid (BoxAt W0 w.heap.size b0 b1 b2 b3 b4 b5 (.slice rd rn rc)) := by
  show BoxAt _ w.heap.size b0 b1 b2 b3 b4 b5 (.slice rd rn rc)
  rw [hW0]
  have h1 := boxAt_new w b0 b1 b2 b3 b4 b5 (.slice rd rn rc)
  simpa using h1
 have HW0 := qh hW0
 clear hW0
 obtain ⟨B1, hB1⟩ := exq w.heap.size
 rw [← hB1] at HX0
 go_enter Tryz.func134, Tryz.ntmps134
 go_upto_region 1 with fail
 rw [← HW0.out, ← hB1]
 clear HW0 hB1
 have KS : Hid (∀ W, Below W0.heap.size W0 W → (fun (W : World) => W.cell? ⟨B1, 0, none⟩ = some (.int .i64 b0) ∧ W.cell? ⟨B1, 1, none⟩ = some (.int .i64 b1) ∧ W.cell? ⟨B1, 2, none⟩ = some (.int .i64 b2) ∧ W.cell? ⟨B1, 3, none⟩ = some (.int .i64 b3) ∧ W.cell? ⟨B1, 4, none⟩ = some (.bool b4) ∧ W.cell? ⟨B1, 5, none⟩ = some (.int .i64 b5) ∧ W.cell? ⟨B1, 6, none⟩ = some (.slice rd rn rc) ∧ Below W0.heap.size W0 W) W) := by
  intro W hW
  have hX := HX0.out.on hW
  exact ⟨hX.c0, hX.c1, hX.c2, hX.c3, hX.c4, hX.c5, hX.c6, hW⟩
 refine wp_region_noPanic ?_
 refine zk [] KS ?_
 have hHeld := KS.out _ (Below.refl _ W0).drew
 obtain ⟨u0, hu0⟩ := exq W0.drew
 have HU0 : Hid (Below W0.heap.size W0 u0) := by rw [hu0]; exact (Below.refl _ W0).drew
 rw [← hu0] at hHeld
 rw [← hu0]
 clear hu0
 refine zt 0 ?_
 refine zt 1 ?_
 refine zt 2 ?_
 refine zr 3 (fun C hC => ?_)
 go_simp
 refine (batCount_any u0 b0 b1 b2 b3 b4 b5 rd rn rc (rn : Int) (by rw [if_neg (fun h => h HM.out)])).mono ?_
 rintro e u1 ⟨rfl, hb1⟩
 have HU1 := qh (HU0.out.trans (hb1.mono HU0.out.size))
 clear hb1
 go_wp2_with fail
 have hHeld := KS.out _ HU1.out
 refine zc hC hHeld ?_
 clear hC C
 refine zr 4 (fun C hC => ?_)
 go_simp
 refine (seq_last b3 rn u1 v (by omega) (by omega) HV.out).mono ?_
 rintro e u2 ⟨rfl, rfl⟩
 go_wp2_with fail
 have hHeld := hq KS _ (hHeld)
 refine zc hC hHeld ?_
 clear hC C
 refine zt 5 ?_
 refine zd ?_
 clear hHeld
 go_wp2
 go_ret
 exact ⟨rfl, HB0.out.trans (HU1.out.mono HB0.out.size)⟩
def GivesBool (w : World) (r : Bool) (e : Ending) (w' : World) : Prop := e = .returned (.bool r) ∧ Below w.heap.size w w'
theorem gives_bool {w w' : World} {r k : Bool} (h : r = k) (hb : Below w.heap.size w w') : GivesBool w r (.returned (.bool k)) w' := ⟨by rw [h], hb⟩
end Go.Proofs.YtjmfdildnojknaaGreat
namespace Go.Proofs.YtjmfdildnojknaaGreat
open Go.RowKit
open Go.AbMath
open Go.ProdMath
open Go.BatMath hiding AllB getD_lt take_all
theorem eq_dr (a b c d e f : Int) (w : World) : (Op.equalIn 10000 116 (.agg #[.int .i64 a, .int .i64 b, .int .i64 c]) (.agg #[.int .i64 d, .int .i64 e, .int .i64 f])).run Tryz.prog w = .ok (a == d && (b == e && c == f)) w := by
 have u3 := Tryz.underlying2
 have a3 := Tryz.isAgg2
 have z3 := Tryz.sizeOf2
 have hS : Tryz.prog.underlying 116 = some (.struct (Tryz.prog.fieldsOf 116)) := by simp only [Program.fieldsOf, Tryz.underlying116]
 rw [show (10000 : Nat) = 9999 + 1 from rfl, run_equalIn_agg w 9999 116 _ _ hS (by kernel_rfl)]
 simp only [Program.fieldsOf, Tryz.underlying116]
 go_simp
 by_cases h1 : a = d <;> by_cases h2 : b = e <;> by_cases h3 : c = f <;> simp [h1, h2, h3]
theorem guard_dr : Tryz.prog.eqGuardType Tryz.prog.depth 116 = false := by kernel_rfl
theorem neq_dr (a b c d e f : Int) (r : Bool) (hr : (a == d && (b == e && c == f)) = r) (w : World) : (binOp .neq 116 (.agg #[.int .i64 a, .int .i64 b, .int .i64 c]) (.agg #[.int .i64 d, .int .i64 e, .int .i64 f])).run Tryz.prog w = .ok (.bool (!r)) w := by
 rw [run_neq_struct, eq_dr, hr]; rfl
theorem dr_get {w : World} {ad : Option Addr} {len cap : Nat} {l : List Dr} (h : RowAt drK w ad len cap l) {i : Nat} (hi : i < len) : ∃ b off x, ad = some ⟨b, off, none⟩ ∧ b < w.heap.size ∧ l[i]? = some x ∧ w.cell? ⟨b, off + i * 3, none⟩ = some (.int .i64 x.prod) ∧ w.cell? ⟨b, off + i * 3 + 1, none⟩ = some (.int .i64 x.first) ∧ w.cell? ⟨b, off + i * 3 + 2, none⟩ = some (.int .i64 x.last) := by
 obtain ⟨b, off, x, e, hb, hx, hc⟩ := h.get hi
 exact ⟨b, off, x, e, hb, hx, hc 0 _ rfl, hc 1 _ rfl, hc 2 _ rfl⟩
theorem drSame_any (w : World) (a1 a2 : Option Addr) (n c1 c2 : Nat) (l : List Dr) (h1 : RowAt drK w a1 n c1 l) (h2 : RowAt drK w a2 n c2 l) (hn : n ≤ 1000000) :
 Calls Tryz.prog 64 #[.slice a1 n c1, .slice a2 n c2] w (GivesBool w true) := by
 have H1 := qh h1
 have H2 := qh h2
 have hg := guard_dr
 clear h1 h2
 go_enter Tryz.func64, Tryz.ntmps64
 go_wp2
 go_loopw [13] (fun v13 wr => ∃ i : Nat, v13 = .int .i64 (i : Int) ∧ i ≤ n ∧ Hid (Below w.heap.size w wr)) (fun v13 _ => n - (intOf v13).toNat)
 case atStart => exact ⟨0, rfl, Nat.zero_le _, Below.refl _ _⟩
 obtain ⟨i, rfl, hi, HB⟩ := hrel
 obtain ⟨wo, hwo⟩ := exq wr
 subst hwo
 by_cases hlt : i < n
 rotate_left
 · have hd : decide (i < n) = false := decide_eq_false hlt
   go_wp2
   go_ret
   exact ⟨rfl, HB.out⟩
 have hd : decide (i < n) = true := decide_eq_true hlt
 have hil : (i : Int) < (n : Int) := by omega
 obtain ⟨b1, o1, x, rfl, hb1, hs, p0, p1, p2⟩ := dr_get (H1.out.keep HB.out) hlt
 obtain ⟨b2, o2, x2, rfl, hb2, hs2, q0, q1, q2⟩ := dr_get (H2.out.keep HB.out) hlt
 obtain rfl : x = x2 := by rw [hs] at hs2; exact Option.some.inj hs2
 obtain ⟨x0, x1, x2⟩ := x
 have hi0 : (0 : Int) ≤ (i : Int) := by omega
 have hne := neq_dr x0 x1 x2 x0 x1 x2 true (by simp)
 have KS : Hid (∀ V, Below wo.heap.size wo V → (fun (V : World) => V.cell? ⟨b1, o1 + i * 3, none⟩ = some (.int .i64 x0) ∧ V.cell? ⟨b1, o1 + i * 3 + 1, none⟩ = some (.int .i64 x1) ∧ V.cell? ⟨b1, o1 + i * 3 + 2, none⟩ = some (.int .i64 x2) ∧ V.cell? ⟨b2, o2 + i * 3, none⟩ = some (.int .i64 x0) ∧ V.cell? ⟨b2, o2 + i * 3 + 1, none⟩ = some (.int .i64 x1) ∧ V.cell? ⟨b2, o2 + i * 3 + 2, none⟩ = some (.int .i64 x2)) V) := fun V hV => ⟨(hV.cell (p := ⟨b1, o1 + i * 3, none⟩) hb1).trans p0, (hV.cell (p := ⟨b1, o1 + i * 3 + 1, none⟩) hb1).trans p1, (hV.cell (p := ⟨b1, o1 + i * 3 + 2, none⟩) hb1).trans p2, (hV.cell (p := ⟨b2, o2 + i * 3, none⟩) hb2).trans q0, (hV.cell (p := ⟨b2, o2 + i * 3 + 1, none⟩) hb2).trans q1, (hV.cell (p := ⟨b2, o2 + i * 3 + 2, none⟩) hb2).trans q2⟩
 clear hs hs2 p0 p1 p2 q0 q1 q2
 go_upto_region 6 with fail
 have hdrw : Below wo.heap.size wo wo.drew := (Below.refl _ wo).drew
 refine wp_region_noPanic ?_
 refine zk [] KS ?_
 have hHeld := KS.out _ hdrw
 obtain ⟨u0, hu0⟩ := exq wo.drew
 rw [← hu0] at hHeld hdrw
 rw [← hu0]
 clear hu0
 have HU0 := qh hdrw
 clear hdrw
 refine zt 0 ?_
 refine zt 1 ?_
 refine zt 2 ?_
 refine zt 3 ?_
 refine zt 4 ?_
 refine zt 5 ?_
 refine zt 6 ?_
 refine zt 7 ?_
 refine zt 8 ?_
 refine zd ?_
 clear hHeld
 have HBZ := qh (HB.out.trans (HU0.out.mono HB.out.size))
 clear KS HU0 hb1 hb2
 go_wp2
 go_roundw
 case rel => exact ⟨i + 1, rfl, by omega, HBZ.out⟩
 simp [intOf]; omega
def GivesDrs (w : World) (l : List Dr) (e : Ending) (w' : World) : Prop := ∃ ad n cap, e = .returned (.slice ad n cap) ∧ RowAt drK w' ad n cap l ∧ Below w.heap.size w w'
theorem within_take {l : List Dr} {j : Nat} {x : Dr} (a b : Int) (h : l[j]? = some x) : withinD (l.take (j + 1)) a b = withinD (l.take j) a b ++ (if a < b ∧ x.first < b ∧ a ≤ x.last then [x] else []) := by
 unfold withinD
 rw [List.take_add_one, h, List.filter_append]
 congr 1
 show List.filter _ [x] = _
 by_cases hc : a < b ∧ x.first < b ∧ a ≤ x.last
 · rw [if_pos hc, List.filter_cons_of_pos (by simpa using hc)]; rfl
 rw [if_neg hc, List.filter_cons_of_neg (by simpa using hc)]; rfl
theorem within_len (l : List Dr) (a b : Int) : (withinD l a b).length ≤ l.length := List.length_filter_le _ _
theorem refWithin_any (w : World) (ad : Option Addr) (n cap : Nat) (l : List Dr) (h : RowAt drK w ad n cap l) (hn : n ≤ 1000000) (fr t0 : Int) :
 Calls Tryz.prog 98 #[.slice ad n cap, .int .i64 fr, .int .i64 t0] w (GivesDrs w (withinD l fr t0)) := by
 have H := qh h
 have HNL := qh h.length
 clear h
 go_enter Tryz.func98, Tryz.ntmps98
 go_wp2
 go_loopw [7, 12] (fun v7 v12 wr => ∃ (j : Nat) (u : Value), u = v7 ∧ v12 = .int .i64 (j : Int) ∧ j ≤ n ∧ Hid (OwnRow drK wr w.heap.size u (withinD (l.take j) fr t0)) ∧ Hid (Below w.heap.size w wr)) (fun _ v12 _ => n - (intOf v12).toNat)
 case atStart => exact ⟨0, _, rfl, rfl, Nat.zero_le _, ownRow_nil _ _ _, Below.refl _ _⟩
 obtain ⟨j, u, rfl, rfl, hj, HO, HB⟩ := hrel
 obtain ⟨wo, hwo⟩ := exq wr
 subst hwo
 by_cases hlt : j < n
 rotate_left
 · have hd : decide (j < n) = false := decide_eq_false hlt
   have hjn : j = n := by omega
   have HFIN : Hid (OwnRow drK wo w.heap.size u (withinD l fr t0)) := by
    have h1 := HO.out
    rw [hjn, List.take_of_length_le (by rw [HNL.out]; exact Nat.le_refl _)] at h1
    exact h1
   clear hjn
   obtain ⟨ad9, cap9, rfl, hr9, _⟩ := OwnRow.row drK_ok HFIN.out rfl
   have HR9 := qh hr9
   clear hr9
   go_wp2
   go_ret
   exact ⟨_, _, _, rfl, HR9.out, HB.out⟩
 have hd : decide (j < n) = true := decide_eq_true hlt
 have hjl : (j : Int) < (n : Int) := by omega
 obtain ⟨bk, off, x, rfl, hbk, hx, p0, p1, p2⟩ := dr_get (H.out.keep HB.out) hlt
 have HT := qh (within_take fr t0 hx)
 have HLEN : Hid ((withinD (l.take j) fr t0).length ≤ 1000000) := by
  show _ ≤ _
  have h1 := within_len (l.take j) fr t0
  rw [List.length_take] at h1
  omega
 obtain ⟨x0, x1, x2⟩ := x
 simp only at p0 p1 p2
 clear hx
 go_upto_region 5 with fail
 obtain ⟨W1, hW1⟩ := exq (wo.alloc (.cells #[.int .i64 x0, .int .i64 x1, .int .i64 x2] 116))
 obtain ⟨P, hP⟩ := exq wo.heap.size
 have hb := wbq hW1
 have HP : Hid (DBox W1 P ⟨x0, x1, x2⟩) := by rw [hW1, hP]; exact dbox_new wo ⟨x0, x1, x2⟩
 have HO1 := qh (HO.out.on hb)
 have HB1 := qh (HB.out.trans (hb.mono HB.out.size))
 rw [← hW1, ← hP]
 clear hW1 hP hb p0 p1 p2 hbk HO HB
 have r0 := HP.out.c0
 have r1 := HP.out.c1
 have r2 := HP.out.c2
 by_cases hc : fr < t0 ∧ x1 < t0 ∧ fr ≤ x2
 rotate_left
 · have HO7 : Hid (OwnRow drK W1 w.heap.size u (withinD (l.take (j + 1)) fr t0)) := by
    show OwnRow _ _ _ _ _
    rw [HT.out, if_neg hc, List.append_nil]
    exact HO1.out
   have hcs : decide (fr < t0) = false ∨ (decide (fr < t0) = true ∧ decide (x1 < t0) = false) ∨ (decide (fr < t0) = true ∧ decide (x1 < t0) = true ∧ decide (fr ≤ x2) = false) := by
    simp only [decide_eq_true_eq, decide_eq_false_iff_not]
    omega
   clear hc HT HO1
   rcases hcs with d1 | ⟨d1, d2⟩ | ⟨d1, d2, d3⟩
   · go_wp2
     go_roundw
     case rel => exact ⟨j + 1, u, rfl, rfl, by omega, HO7.out, HB1.out⟩
     simp [intOf]; omega
   · go_wp2
     go_roundw
     case rel => exact ⟨j + 1, u, rfl, rfl, by omega, HO7.out, HB1.out⟩
     simp [intOf]; omega
   go_wp2
   go_roundw
   case rel => exact ⟨j + 1, u, rfl, rfl, by omega, HO7.out, HB1.out⟩
   simp [intOf]; omega
 obtain ⟨h1, h2, h3⟩ := hc
 have d1 : decide (fr < t0) = true := decide_eq_true h1
 have d2 : decide (x1 < t0) = true := decide_eq_true h2
 have d3 : decide (fr ≤ x2) = true := decide_eq_true h3
 have HT2 : Hid (withinD (l.take (j + 1)) fr t0 = withinD (l.take j) fr t0 ++ [⟨x0, x1, x2⟩]) := by show _ = _; rw [HT.out, if_pos ⟨h1, h2, h3⟩]
 clear h1 h2 h3 HT
 obtain ⟨W6, hW6⟩ := exq (W1.alloc (.cells #[.int .i64 x0, .int .i64 x1, .int .i64 x2] 116))
 have hb6 := wbq hW6
 have HLIT : Hid (RowAt drK W6 (some ⟨W1.heap.size, 0, none⟩) 1 1 [⟨x0, x1, x2⟩]) := by
  show RowAt _ _ _ _ _ _
  rw [hW6]
  exact rowAt_lit drK_ok W1 [⟨x0, x1, x2⟩] (by simp) _ rfl 1 rfl
 have HO6 := qh (HO1.out.on hb6)
 have HB6 := qh (HB1.out.trans (hb6.mono HB1.out.size))
 have HW6 := qh hW6
 clear hb6 hW6
 go_wp2_with (at_builtin; rw [← HW6.out]; refine list_row (by rfl) drK_ok (.tmp 31) (.tmp 33) rfl w.heap.size (withinD (l.take j) fr t0) [⟨x0, x1, x2⟩] u rfl HO6.out HB6.out.size (some ⟨W1.heap.size, 0, none⟩) 1 1 rfl HLIT.out (by have := HLEN.out; omega) ?_)
 intro v7 w7 hap
 have HO7 : Hid (OwnRow drK w7 w.heap.size v7 (withinD (l.take (j + 1)) fr t0)) := by
  show OwnRow _ _ _ _ _
  rw [HT2.out]
  exact hap.1
 have HB7 : Hid (Below w.heap.size w w7) := appended_below hap HO6.out HB6.out (Nat.le_refl _) HB6.out.size
 clear hap HO6 HB6 HLIT HW6 HO1 HB1
 go_wp2
 go_roundw
 case rel => exact ⟨j + 1, v7, rfl, rfl, by omega, HO7.out, HB7.out⟩
 simp [intOf]; omega
end Go.Proofs.YtjmfdildnojknaaGreat
namespace Go.Proofs.YtjmfdildnojknaaGreat
open Go.RowKit
open Go.FoMath
open Go.ProdMath
open Go.BatMath hiding AllB getD_lt take_all
theorem eq_rc (k v : ByteArray) (n : Nat) (w : World) : (Op.equalIn (n + 2) 84 (.agg #[.string k, .string v]) (.agg #[.string k, .string v])).run Tryz.prog w = .ok true w := by
 have u3 := Tryz.underlying9
 have a3 := Tryz.isAgg9
 have z3 := Tryz.sizeOf9
 have hS : Tryz.prog.underlying 84 = some (.struct (Tryz.prog.fieldsOf 84)) := by simp only [Program.fieldsOf, Tryz.underlying84]
 rw [run_equalIn_agg w (n + 1) 84 _ _ hS (by kernel_rfl)]
 simp only [Program.fieldsOf, Tryz.underlying84]
 go_simp
theorem eq_gt (a b : Int) (k v : ByteArray) (w : World) : (Op.equalIn 10000 137 (.agg #[.int .i64 a, .int .i64 b, .string k, .string v]) (.agg #[.int .i64 a, .int .i64 b, .string k, .string v])).run Tryz.prog w = .ok true w := by
 have u3 := Tryz.underlying2
 have a3 := Tryz.isAgg2
 have z3 := Tryz.sizeOf2
 have zR := Tryz.sizeOf84
 have aR := Tryz.isAgg84
 have hR := eq_rc k v 9997 w
 have hS : Tryz.prog.underlying 137 = some (.struct (Tryz.prog.fieldsOf 137)) := by simp only [Program.fieldsOf, Tryz.underlying137]
 rw [show (10000 : Nat) = 9999 + 1 from rfl, run_equalIn_agg w 9999 137 _ _ hS (by kernel_rfl)]
 simp only [Program.fieldsOf, Tryz.underlying137]
 go_simp
theorem guard_gt : Tryz.prog.eqGuardType Tryz.prog.depth 137 = false := by kernel_rfl
theorem neq_gt (a b : Int) (k v : ByteArray) (w : World) : (binOp .neq 137 (.agg #[.int .i64 a, .int .i64 b, .string k, .string v]) (.agg #[.int .i64 a, .int .i64 b, .string k, .string v])).run Tryz.prog w = .ok (.bool false) w := by
 rw [run_neq_struct, eq_gt]; rfl
theorem refGots_any (w : World) (a1 a2 : Option Addr) (n1 n2 c1 c2 : Nat) (l : List Gt) (h1 : RowAt gtK w a1 n1 c1 l) (h2 : RowAt gtK w a2 n2 c2 l) (hl : l.length ≤ 1000000) :
 Calls Tryz.prog 63 #[.slice a1 n1 c1, .slice a2 n2 c2] w (GivesBool w true) := by
 obtain rfl : n1 = n2 := h1.length.symm.trans h2.length
 have hn : n1 ≤ 1000000 := by rw [← h1.length]; exact hl
 have H1 := qh h1
 have H2 := qh h2
 have hg := guard_gt
 clear h1 h2 hl
 go_enter Tryz.func63, Tryz.ntmps63
 go_wp2
 go_loopw [13] (fun v13 wr => ∃ i : Nat, v13 = .int .i64 (i : Int) ∧ i ≤ n1 ∧ Hid (Below w.heap.size w wr)) (fun v13 _ => n1 - (intOf v13).toNat)
 case atStart => exact ⟨0, rfl, Nat.zero_le _, Below.refl _ _⟩
 obtain ⟨i, rfl, hi, HB⟩ := hrel
 obtain ⟨wo, hwo⟩ := exq wr
 subst hwo
 by_cases hlt : i < n1
 rotate_left
 · have hd : decide (i < n1) = false := decide_eq_false hlt
   go_wp2
   go_ret
   exact ⟨rfl, HB.out⟩
 have hd : decide (i < n1) = true := decide_eq_true hlt
 have hil : (i : Int) < (n1 : Int) := by omega
 obtain ⟨b1, o1, x, rfl, hb1, hs, hp⟩ := gt_get (H1.out.keep HB.out) hlt
 obtain ⟨b2, o2, x2, rfl, hb2, hs2, hq⟩ := gt_get (H2.out.keep HB.out) hlt
 obtain rfl : x = x2 := by rw [hs] at hs2; exact Option.some.inj hs2
 obtain ⟨x0, x1, xk, xv⟩ := x
 have p0 := hp.c0
 have p1 := hp.c1
 have p2 := hp.c2
 have p3 := hp.c3
 have q0 := hq.c0
 have q1 := hq.c1
 have q2 := hq.c2
 have q3 := hq.c3
 simp only at p0 p1 p2 p3 q0 q1 q2 q3
 have hne := neq_gt x0 x1 xk xv
 clear hs hs2 hp hq
 go_upto_region 6 with fail
 go_quiet (fail)
 clear p0 p1 p2 p3 q0 q1 q2 q3 hne
 obtain ⟨u1, hu⟩ := exq (wo.drewN nq)
 have HB1 : Hid (Below w.heap.size w u1) := by rw [hu]; exact below_drewN HB.out nq
 rw [← hu]
 clear hu HB
 go_wp2
 go_roundw
 case rel => exact ⟨i + 1, rfl, hlt, HB1.out⟩
 simp [intOf]; omega
end Go.Proofs.YtjmfdildnojknaaGreat
namespace Go.Proofs.YtjmfdildnojknaaGreat
open Go.ProdMath
theorem least_nil : IsLeast [] (-1) := .inl ⟨rfl, fun p hp => by cases hp⟩
theorem least_perm {l l' : List Pd} {v : Int} (h : IsLeast l v) (hp : l.Perm l') : IsLeast l' v := by
 rcases h with ⟨e, h⟩ | ⟨h0, ⟨p, hpm, hv⟩, hm⟩
 · exact .inl ⟨e, fun p h2 => h p (hp.mem_iff.2 h2)⟩
 exact .inr ⟨h0, ⟨p, hp.mem_iff.1 hpm, hv⟩, fun q hq => hm q (hp.mem_iff.2 hq)⟩
theorem least_low {l : List Pd} {v : Int} (h : IsLeast l v) : v = -1 ∨ 0 ≤ v := by
 rcases h with ⟨e, _⟩ | ⟨h0, _⟩
 · exact .inl e
 exact .inr h0
theorem least_skip {l : List Pd} {v : Int} {p : Pd} (h : IsLeast l v) (hp : p.opn < 0 ∨ (v ≠ -1 ∧ v ≤ p.opn)) : IsLeast (l ++ [p]) v := by
 rcases h with ⟨e, h⟩ | ⟨h0, ⟨q, hq, hv⟩, hm⟩
 · refine .inl ⟨e, fun q hq => ?_⟩
   rcases List.mem_append.1 hq with hq | hq
   · exact h q hq
   rw [List.mem_singleton.1 hq]
   rcases hp with h1 | h1
   · exact h1
   exact absurd e h1.1
 refine .inr ⟨h0, ⟨q, List.mem_append.2 (.inl hq), hv⟩, fun q2 hq2 h2 => ?_⟩
 rcases List.mem_append.1 hq2 with hq2 | hq2
 · exact hm q2 hq2 h2
 rw [List.mem_singleton.1 hq2] at h2 ⊢
 rcases hp with h1 | h1
 · omega
 exact h1.2
theorem least_take {l : List Pd} {v : Int} {p : Pd} (h : IsLeast l v) (hp : 0 ≤ p.opn) (hv : v = -1 ∨ p.opn ≤ v) : IsLeast (l ++ [p]) p.opn := by
 refine .inr ⟨hp, ⟨p, by simp, rfl⟩, fun q hq h2 => ?_⟩
 rcases List.mem_append.1 hq with hq | hq
 · rcases h with ⟨e, h⟩ | ⟨h0, _, hm⟩
   · have := h q hq; omega
   have := hm q hq h2
   rcases hv with hv | hv
   · omega
   omega
 rw [List.mem_singleton.1 hq]; omega
end Go.Proofs.YtjmfdildnojknaaGreat
namespace Go.Proofs.YtjmfdildnojknaaGreat
open Go.RowKit
open Go.SeqMath
open Go.ProdMath
open Go.BatMath hiding AllB getD_lt take_all
def GivesTabOpen (w : World) (l : List Pd) (e : Ending) (w' : World) : Prop := ∃ v, IsLeast l v ∧ e = .returned (.tuple #[.int .i64 v, .bool (decide (0 ≤ v))]) ∧ Below w.heap.size w w'
theorem tabOpen_any (w : World) (kt : Nat) (ad : Option Addr) (len cap : Nat) (ms : List PM) (h : TabAt w kt ad len cap ms) (hL : len ≤ 1000000) :
 Calls Tryz.prog 59 #[.pointer (some ⟨kt, 0, none⟩)] w (GivesTabOpen w (pds ms)) := by
 have H := qh h
 have hlen := h.pds.row.length
 have HLEN := qh hlen
 have t0 := h.box.c0
 clear h hlen
 go_enter Tryz.func59, Tryz.ntmps59
 go_wp2
 clear t0
 go_loopw [4, 12] (fun v4 v12 wr => ∃ (v : Int) (j : Nat), v4 = .int .i64 v ∧ v12 = .int .i64 (j : Int) ∧ j ≤ len ∧ Hid (IsLeast ((pds ms).take j) v) ∧ Hid (Below w.heap.size w wr)) (fun _ v12 _ => len - (intOf v12).toNat)
 case atStart => exact ⟨-1, 0, rfl, rfl, Nat.zero_le _, least_nil, Below.refl _ _⟩
 obtain ⟨v, j, rfl, rfl, hj, HLE, HB⟩ := hrel
 obtain ⟨wo, hwo⟩ := exq wr
 subst hwo
 by_cases hlt : j < len
 rotate_left
 · have hd : decide (j < len) = false := decide_eq_false hlt
   have HFIN : Hid (IsLeast (pds ms) v) := by
    have h1 := HLE.out
    have h2 := HLEN.out
    rw [List.take_of_length_le (by unfold pds; rw [List.length_map]; omega)] at h1
    exact h1
   go_wp2
   go_ret2
   exact ⟨v, HFIN.out, rfl, HB.out⟩
 have hd : decide (j < len) = true := decide_eq_true hlt
 have hjl : (j : Int) < (len : Int) := by omega
 obtain ⟨bk, off, m, rfl, hbk, hm, hla, c0, c1, c2, c3⟩ := (H.out.keep HB.out).pds.get hlt
 have htk : (pds ms).take (j + 1) = (pds ms).take j ++ [m.p] := by
  have : (pds ms)[j]? = some m.p := by unfold pds; rw [List.getElem?_map, hm]; rfl
  rw [List.take_add_one, this]; rfl
 have HTK := qh htk
 obtain ⟨⟨pid, pep, pl, po⟩, pd, pc⟩ := m
 simp only at c0 c1 c2 c3 HTK
 obtain ⟨pn, hpn⟩ := exq pl.length
 rw [← hpn] at c2
 clear htk hm hla hbk hpn
 go_upto_region 5 with fail
 obtain ⟨W1, hW1⟩ := exq (wo.alloc (.cells #[.int .i64 pid, .int .i64 pep, .slice pd pn pc, .int .i64 po] 58))
 obtain ⟨P, hP⟩ := exq wo.heap.size
 have HP1 : Hid (PBox W1 P pid pep (.slice pd pn pc) po) := by rw [hW1, hP]; exact pbox_new wo _ _ _ _
 have HB1 : Hid (Below w.heap.size w W1) := by rw [hW1]; exact HB.out.trans ((bal _ _).mono HB.out.size)
 rw [← hW1, ← hP]
 clear hW1 hP c0 c1 c2 c3
 have q3 := HP1.out.c3
 by_cases ho : 0 ≤ po
 rotate_left
 · have hd1 : decide (0 ≤ po) = false := decide_eq_false ho
   have HL2 : Hid (IsLeast ((pds ms).take (j + 1)) v) := by
    show IsLeast _ _
    rw [HTK.out]
    exact least_skip (p := ⟨pid, pep, pl, po⟩) HLE.out (.inl (by show po < 0; omega))
   clear ho
   go_wp2
   go_roundw
   case rel => exact ⟨v, j + 1, rfl, rfl, by omega, HL2.out, HB1.out⟩
   simp [intOf]; omega
 have hd1 : decide (0 ≤ po) = true := decide_eq_true ho
 have HOO := qh ho
 by_cases hv : v < 0
 · have hd2 : decide (v < 0) = true := decide_eq_true hv
   have HL2 : Hid (IsLeast ((pds ms).take (j + 1)) po) := by
    show IsLeast _ _
    rw [HTK.out]
    have hv1 : v = -1 := by rcases least_low HLE.out with h | h <;> omega
    exact least_take (p := ⟨pid, pep, pl, po⟩) HLE.out HOO.out (.inl hv1)
   clear hv ho
   go_wp2
   go_roundw
   case rel => exact ⟨po, j + 1, rfl, rfl, by omega, HL2.out, HB1.out⟩
   simp [intOf]; omega
 have hd2 : decide (v < 0) = false := decide_eq_false hv
 by_cases hpv : po < v
 · have hd3 : decide (po < v) = true := decide_eq_true hpv
   have HL2 : Hid (IsLeast ((pds ms).take (j + 1)) po) := by
    show IsLeast _ _
    rw [HTK.out]
    exact least_take (p := ⟨pid, pep, pl, po⟩) HLE.out HOO.out (.inr (Int.le_of_lt hpv))
   clear hv ho hpv
   go_wp2
   go_roundw
   case rel => exact ⟨po, j + 1, rfl, rfl, by omega, HL2.out, HB1.out⟩
   simp [intOf]; omega
 have hd3 : decide (po < v) = false := decide_eq_false hpv
 have HL2 : Hid (IsLeast ((pds ms).take (j + 1)) v) := by
  show IsLeast _ _
  rw [HTK.out]
  exact least_skip (p := ⟨pid, pep, pl, po⟩) HLE.out (.inr ⟨by omega, by show v ≤ po; omega⟩)
 clear hv ho hpv
 go_wp2
 go_roundw
 case rel => exact ⟨v, j + 1, rfl, rfl, by omega, HL2.out, HB1.out⟩
 simp [intOf]; omega
end Go.Proofs.YtjmfdildnojknaaGreat
namespace Go.Proofs.YtjmfdildnojknaaGreat
open Go.RowKit
open Go.FoMath
open Go.ProdMath
open Go.BatMath hiding AllB getD_lt take_all
def GivesI (w : World) (v : Int) (e : Ending) (w' : World) : Prop := e = .returned (.int .i64 v) ∧ Below w.heap.size w w'
structure FoRow (start : Int) (bs : List Bat) : Prop where
 ok : RowOk bs
 least : IsLeast (foldP [] bs) (firstOpen bs)
 chain : Chain (endD start bs) bs
 few : GotsOk bs
theorem refStable_any (w : World) (start : Int) (ad : Option Addr) (len cap : Nat) (ms : List BM) (h : BatsAt w ad len cap ms) (hL : len ≤ 5000) (hr : FoRow start (bats ms)) :
 Calls Tryz.prog 28 #[.int .i64 start, .slice ad len cap] w (GivesI w (stableD start (bats ms))) := by
 have H := qh h
 have HR := qh hr
 have HLL : Hid (len ≤ 5000) := hL
 clear h hr hL
 go_enter Tryz.func28, Tryz.ntmps28
 go_wp2_with fail
 refine (fold_any w ad len cap ms H.out (Nat.le_trans HLL.out (by decide)) (batsOk_of HR.out.ok)).mono ?_
 rintro e w1 ⟨kt, ta, tn, tc, ps, dd, dn, dc, rfl, htab, hps, -, -, hb⟩
 have HT := qh htab
 have HPS := qh hps
 have HB1 := qh hb
 have HTN : Hid (tn ≤ 1000000) := by
  show _ ≤ _
  have h1 := SnapMath.fold_len (bats ms) []
  have h2 : (bats ms).length = len := by unfold bats; rw [List.length_map]; exact H.out.row.length
  have h3 : ps.length = tn := htab.tab.pds.row.length
  have h4 := congrArg List.length hps
  unfold pds at h4
  rw [List.length_map] at h4
  have h5 := HLL.out
  rw [h2, List.length_nil] at h1
  omega
 clear htab hps hb
 go_wp2_with fail
 refine (tabOpen_any w1 kt ta tn tc ps HT.out.tab HTN.out).mono ?_
 rintro e w2 ⟨v, hv, rfl, hb⟩
 have HB2 := qh (HB1.out.trans (hb.mono HB1.out.size))
 rw [HPS.out] at hv
 have hvf : v = firstOpen (bats ms) := least_one hv HR.out.least
 have hlow := least_low HR.out.least
 subst hvf
 obtain ⟨f, hf⟩ := exq (firstOpen (bats ms))
 rw [← hf] at hlow ⊢
 have HF := qh hf
 clear hv hb hf
 by_cases h0 : 0 ≤ f
 · have hd : decide (0 ≤ f) = true := decide_eq_true h0
   have HS : Hid (stableD start (bats ms) = f) := by
    show stableD _ _ = _
    unfold stableD
    rw [← HF.out, if_neg (by omega)]
   clear hlow h0
   go_wp2
   go_ret
   exact ⟨by rw [HS.out]; rfl, HB2.out⟩
 have hd : decide (0 ≤ f) = false := decide_eq_false h0
 have HS : Hid (stableD start (bats ms) = endD start (bats ms)) := by
  show stableD _ _ = _
  unfold stableD
  rw [← HF.out, if_pos (by omega)]
 clear hlow h0
 go_wp2_with fail
 refine (refEnd_any w2 start ad len cap ms (H.out.keep HB2.out) (Nat.le_trans HLL.out (by decide)) HR.out.ok _ rfl).mono ?_
 rintro e w3 ⟨rfl, hb⟩
 have HB3 := qh (HB2.out.trans (hb.mono HB2.out.size))
 clear hb
 go_wp2
 go_ret
 exact ⟨by rw [HS.out]; rfl, HB3.out⟩
end Go.Proofs.YtjmfdildnojknaaGreat
