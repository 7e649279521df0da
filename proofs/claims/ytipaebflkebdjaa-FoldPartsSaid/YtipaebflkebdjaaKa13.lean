/- Parts of a proof, merged: FoDrop, FoOne, FoComm, FoIface. -/
import Derived.Test.YtipaebflkebdjaaKa1
import Derived.Test.YtipaebflkebdjaaKa7
import Derived.Test.YtipaebflkebdjaaKa10
import Derived.Test.YtipaebflkebdjaaKa12
namespace Go.FoMath
open Go.ProdMath
open Go.BatMath
open Go.SnapMath (row_states)
open Go.AbMath (tdrop_is row_drops)
set_option linter.unusedVariables false

def hitG (g : Gt) (d : Dr) : Bool := decide (g.prod ≠ -1 ∧ d.prod = g.prod ∧ d.first ≤ g.off ∧ g.off ≤ d.last)
def keptG (l : List Gt) (ds : List Dr) : List Gt := l.filter fun g => !(ds.any (hitG g))

/-- What the table knows of a producer that has something open. -/
theorem look_open {l : List Bat} (hl : ∀ b ∈ l, rightE b = 0 ∧ 0 ≤ b.base) {k : Int} (hk : 0 ≤ k) (ho : 0 ≤ pOpen k l) : ∃ p, lookD (foldP [] l) k = some p ∧ p.opn = pOpen k l := by
 have h2 := state_opn k hk none l (Int.le_refl _) hl
 rw [if_neg (fun h => by have h7 : (0 : Int) ≤ -1 := h.2; omega)] at h2
 rw [← fold_state] at h2
 cases hp : lookD (foldP [] l) k with
 | none => rw [hp] at h2; have h3 : (-1 : Int) = pOpen k l := h2; omega
 | some p => rw [hp] at h2; exact ⟨p, rfl, h2⟩
theorem tdrop_yes {l : List Bat} (hl : ∀ b ∈ l, rightE b = 0 ∧ 0 ≤ b.base) {c : Bat} (hr : rightE c = 0) (hk : 0 ≤ c.prod) (hm : c.marker = 2) (ho : 0 ≤ pOpen c.prod l) : tdropD (foldP [] l) c = some ⟨c.prod, pOpen c.prod l, c.base⟩ := by
 obtain ⟨p, hp, he⟩ := look_open hl hk ho
 have hlk := has_look (fold_asc l asc_nil) c.prod
 rw [hp] at hlk
 have h1 : hasD (foldP [] l) c.prod = true := hlk.1
 have h2 : getD (foldP [] l) c.prod = p := hlk.2
 have h3 : dropsB (foldP [] l) c = true := by
  unfold dropsB
  rw [h1, h2, he, decide_eq_true hm, decide_eq_true ho]
  rfl
 unfold tdropD
 rw [if_neg (by omega), if_pos h3, h2, he]
/-- What is taken of a producer that has something open is of it. -/
theorem check_txn {start : Int} {l : List Bat} (hrow : RowD start l) (h0 : 0 ≤ start) (h1 : start ≤ 1099511627776) {c : Bat} (hc : (tcheckD (foldP [] l) c).2 = 0) (hn : (tcheckD (foldP [] l) c).1 < 0) (hk : 0 ≤ c.prod) (hm : c.marker = 0) (ho : 0 ≤ pOpen c.prod l) : c.txn = true := by
 have hl : ∀ b ∈ l, rightE b = 0 ∧ 0 ≤ b.base := fun b hb => ⟨(rowD_ok hrow b hb).1, ((row_bases hrow h0).2.1 b hb).1⟩
 have hr := tcheck_right hc
 obtain ⟨p, hp, he⟩ := look_open hl hk ho
 have hlk := has_look (fold_asc l asc_nil) c.prod
 rw [hp] at hlk
 have g1 : hasD (foldP [] l) c.prod = true := hlk.1
 have g2 : getD (foldP [] l) c.prod = p := hlk.2
 have hst := ((row_states hrow h0 h1).2 p (look_id hp).2).1.right
 have hbase : ∀ n, dupL p.last c.seq c.recs.length = some n → 0 ≤ n := fun n hd => by
  unfold dupL at hd
  cases hf : p.last.find? (fun x => ProdMath.hitB x c.seq c.recs.length) with
  | none => rw [hf] at hd; cases hd
  | some x =>
    rw [hf] at hd
    have e : x.b = n := by simpa using hd
    obtain ⟨j, hj⟩ := List.mem_iff_getElem?.1 (List.mem_of_find?_eq_some hf)
    have := (hst.2 j x hj).1
    rw [← e]
    exact this.2.2.1
 unfold tcheckD at hc hn
 rw [if_neg (by omega), if_neg (by omega), g1, g2] at hc hn
 unfold checkD at hc hn
 rw [if_neg (by omega), if_neg (by decide)] at hc hn
 by_cases e1 : c.epoch < p.epoch
 · rw [if_pos e1] at hc; simp at hc
 · rw [if_neg e1] at hc hn
   by_cases e2 : p.epoch < c.epoch
   · rw [if_pos e2, if_pos (by omega)] at hc; simp at hc
   · rw [if_neg e2] at hc hn
     cases hd : dupL p.last c.seq c.recs.length with
     | some n =>
       rw [hd] at hn
       have := hbase n hd
       simp only at hn
       omega
     | none =>
       rw [hd] at hc
       simp only at hc
       split at hc
       · simp at hc
       · split at hc
         · simp at hc
         · rename_i h5
           cases ht : c.txn
           · exact absurd ⟨by omega, ht⟩ h5
           · rfl
theorem pOpen_app {k : Int} {m : Bat} : ∀ {l : List Bat}, (∀ b ∈ l, 0 ≤ b.base) → (m.marker = 0 ∨ m.prod ≠ k) → pOpen k (l ++ [m]) = if pOpen k l = -1 then pOpen k [m] else pOpen k l
 | [], _, _ => by show pOpen k [m] = if (-1 : Int) = -1 then pOpen k [m] else -1; rw [if_pos rfl]
 | b :: l, h, hm => by
   have ih := pOpen_app (k := k) (m := m) (l := l) (fun c hc => h c (by simp [hc])) hm
   have hb := h b (by simp)
   show (if b.prod = k ∧ opensB b (l ++ [m]) = true then b.base else pOpen k (l ++ [m])) = if (if b.prod = k ∧ opensB b l = true then b.base else pOpen k l) = -1 then pOpen k [m] else if b.prod = k ∧ opensB b l = true then b.base else pOpen k l
   by_cases hbk : b.prod = k
   · have e : opensB b (l ++ [m]) = opensB b l := by
      unfold opensB
      rw [ends_app]
      have : endsB b.prod [m] = false := by
       unfold endsB
       rw [hbk]
       rcases hm with hm | hm
       · simp [hm]
       · simp [hm]
      rw [this, Bool.or_false]
     rw [e]
     by_cases h1 : b.prod = k ∧ opensB b l = true
     · rw [if_pos h1, if_pos h1, if_neg (by omega)]
     · rw [if_neg h1, if_neg h1, ih]
   · rw [if_neg (show ¬ (b.prod = k ∧ opensB b (l ++ [m]) = true) from fun h => hbk h.1), if_neg (show ¬ (b.prod = k ∧ opensB b l = true) from fun h => hbk h.1), ih]
theorem pOpen_end {k : Int} {m : Bat} (hm : m.marker ≠ 0) (hk : m.prod = k) : ∀ {l : List Bat}, pOpen k (l ++ [m]) = -1
 | [] => by
   show (if m.prod = k ∧ opensB m [] = true then m.base else -1) = -1
   rw [if_neg]
   intro h
   have h2 := h.2
   unfold opensB at h2
   rw [decide_eq_false hm] at h2
   simp at h2
 | b :: l => by
   have ih := pOpen_end hm hk (l := l)
   show (if b.prod = k ∧ opensB b (l ++ [m]) = true then b.base else pOpen k (l ++ [m])) = -1
   rw [ih, if_neg]
   intro h
   have h2 := h.2
   unfold opensB at h2
   rw [h.1, ends_one hm hk] at h2
   simp at h2
/-- One that has no marker behind it, or lies behind the one that is open first: what is known of it. -/
theorem pOpen_of {k E : Int} {b : Bat} {post : List Bat} (hbk : b.prod = k) (ht : b.txn = true) (hm : b.marker = 0) (he : endsB k post = false) : ∀ {pre : List Bat}, Chain E (pre ++ b :: post) → pOpen k (pre ++ b :: post) ≠ -1 ∧ pOpen k (pre ++ b :: post) ≤ b.base
 | [], h => by
   have h0 := h.2.1
   show (if b.prod = k ∧ opensB b post = true then b.base else pOpen k post) ≠ -1 ∧ (if b.prod = k ∧ opensB b post = true then b.base else pOpen k post) ≤ b.base
   rw [if_pos ⟨hbk, by unfold opensB; rw [ht, hbk, he, decide_eq_true hm]; rfl⟩]
   omega
 | c :: pre, h => by
   have ih := pOpen_of hbk ht hm he (pre := pre) h.2.2.2.2
   have h0 := h.2.1
   have h1 := h.1
   have h4 := h.2.2.2.1 b (by simp)
   show (if c.prod = k ∧ opensB c (pre ++ b :: post) = true then c.base else pOpen k (pre ++ b :: post)) ≠ -1 ∧ (if c.prod = k ∧ opensB c (pre ++ b :: post) = true then c.base else pOpen k (pre ++ b :: post)) ≤ b.base
   split
   · omega
   · exact ih
theorem next_snoc {k : Int} {m : Bat} : ∀ {l : List Bat}, endsB k l = false → nextMark k (l ++ [m]) = if m.marker ≠ 0 ∧ m.prod = k then m.marker else 1
 | [], _ => rfl
 | c :: l, h => by
   rw [ends_cons, Bool.or_eq_false_iff] at h
   have ih := next_snoc (k := k) (m := m) h.2
   show (if c.marker ≠ 0 ∧ c.prod = k then c.marker else nextMark k (l ++ [m])) = _
   rw [if_neg, ih]
   intro h2
   have := h.1
   rw [decide_eq_true h2.1, decide_eq_true h2.2] at this
   cases this
theorem next_no {k : Int} : ∀ {l : List Bat}, endsB k l = false → nextMark k l = 1
 | [], _ => rfl
 | c :: l, h => by
   rw [ends_cons, Bool.or_eq_false_iff] at h
   show (if c.marker ≠ 0 ∧ c.prod = k then c.marker else nextMark k l) = _
   rw [if_neg, next_no h.2]
   intro h2
   have := h.1
   rw [decide_eq_true h2.1, decide_eq_true h2.2] at this
   cases this
theorem ends_snoc {k : Int} {m : Bat} {l : List Bat} : endsB k (l ++ [m]) = (endsB k l || (decide (m.marker ≠ 0) && decide (m.prod = k))) := by
 rw [ends_app]
 unfold endsB
 simp
/-- A batch of records among the others of a row, and what the row says of it. -/
structure Fate (l : List Bat) (ds : List Dr) (b : Bat) (post : List Bat) : Prop where
 gone : b.txn = true → nextMark b.prod post = 2 → ∃ d ∈ ds, d.prod = b.prod ∧ d.first ≤ b.base ∧ b.base + countD b ≤ d.last
 only : ∀ d ∈ ds, d.prod = b.prod → d.first < b.base + countD b → b.base ≤ d.last → b.txn = true ∧ nextMark b.prod post = 2
 opens : pOpen b.prod l ≠ -1 → pOpen b.prod l < b.base + countD b → b.txn = true ∧ endsB b.prod post = false
theorem split_snoc {α : Type} {l pre post : List α} {c b : α} (h : l ++ [c] = pre ++ b :: post) : (∃ post', post = post' ++ [c] ∧ l = pre ++ b :: post') ∨ (post = [] ∧ b = c ∧ l = pre) := by
 rcases List.eq_nil_or_concat post with rfl | ⟨post', x, rfl⟩
 · have h2 := List.append_inj' h rfl
   refine .inr ⟨rfl, ?_, h2.1⟩
   have := h2.2
   cases this
   rfl
 · rw [List.concat_eq_append, show pre ++ b :: (post' ++ [x]) = (pre ++ b :: post') ++ [x] by simp] at h
   have h2 := List.append_inj' h rfl
   have e : x = c := by have := h2.2; cases this; rfl
   refine .inl ⟨post', ?_, h2.1⟩
   rw [List.concat_eq_append, e]
theorem tdrop_pd {l : List Bat} (hl : ∀ b ∈ l, rightE b = 0 ∧ 0 ≤ b.base) {c : Bat} {d : Dr} (h : tdropD (foldP [] l) c = some d) : 0 ≤ c.prod ∧ c.marker = 2 ∧ d.prod = c.prod ∧ d.first = pOpen c.prod l ∧ 0 ≤ d.first ∧ d.last = c.base := by
 have hlk := has_look (fold_asc l asc_nil) c.prod
 unfold tdropD at h
 split at h
 · cases h
 · rename_i h1
   split at h
   · rename_i h2
     unfold dropsB at h2
     rw [hlk.1, hlk.2] at h2
     rw [hlk.2] at h
     simp only [Bool.and_eq_true, decide_eq_true_eq] at h2
     obtain ⟨h3, h4, h5⟩ := h2
     obtain ⟨p, hp⟩ := Option.isSome_iff_exists.1 h3
     rw [hp] at h5 h
     have hop := opn_p hl (look_id hp).2 (by rw [(look_id hp).1]; omega)
     rw [(look_id hp).1] at hop
     have e := Option.some.inj h
     rw [← e]
     exact ⟨by omega, h4, rfl, hop, h5, rfl⟩
   · cases h
theorem row_fate {start : Int} {bs : List Bat} (h : RowD start bs) (h0 : 0 ≤ start) (h1 : start ≤ 1099511627776) : ∀ pre b post, bs = pre ++ b :: post → b.marker = 0 → 0 ≤ b.prod → Fate bs (foldR [] bs) b post := by
 induction h with
 | nil => intro pre b post h; cases pre <;> cases h
 | @snoc l c hl hb hw hc hn he ih =>
   intro pre b post hs hm hk
   have hcl := (row_chain hl h0).1
   have hrc := tcheck_right hc
   have hcnt := right_count hrc
   have hall : ∀ b ∈ l, rightE b = 0 ∧ 0 ≤ b.base := fun b hb => ⟨(rowD_ok hl b hb).1, ((row_bases hl h0).2.1 b hb).1⟩
   have hc0 : 0 ≤ c.base := by rw [hb]; have := (row_bases hl h0).2.2; omega
   have hlast := (row_drops hl h0 h1).2
   have hnew : ∀ d ∈ foldR [] l ++ (tdropD (foldP [] l) c).toList, d ∈ foldR [] l ∨ (c.marker = 2 ∧ d.prod = c.prod ∧ d.first = pOpen c.prod l ∧ 0 ≤ d.first ∧ d.last = c.base) := fun d hd => by
    rcases List.mem_append.1 hd with hd | hd
    · exact .inl hd
    · cases htd : tdropD (foldP [] l) c with
      | none => rw [htd] at hd; cases hd
      | some d' =>
        rw [htd] at hd
        rw [List.mem_singleton.1 (show d ∈ [d'] from hd)]
        exact .inr (tdrop_pd hall htd).2
   rw [foldR_snoc]
   rcases split_snoc hs with ⟨post', rfl, hl2⟩ | ⟨rfl, rfl, rfl⟩
   · have F := ih pre b post' hl2 hm hk
     have hbl : b ∈ l := by rw [hl2]; simp
     have hbe : b.base + countD b ≤ c.base := by rw [hb]; exact (hcl.base b hbl).2.2
     have hbc := (hcl.base b hbl).2.1
     by_cases hcm : c.marker ≠ 0 ∧ c.prod = b.prod
     · cases hep : endsB b.prod post' with
       | true =>
         have hnx : nextMark b.prod (post' ++ [c]) = nextMark b.prod post' := next_app [c] hep
         refine ⟨fun ht h2 => ?_, fun d hd hdp hd1 hd2 => ?_, fun h2 h3 => ?_⟩
         · obtain ⟨d, hd, hh⟩ := F.gone ht (hnx ▸ h2)
           exact ⟨d, List.mem_append.2 (.inl hd), hh⟩
         · rw [hnx]
           rcases hnew d hd with hd | ⟨e1, e2, e3, e4, e5⟩
           · exact F.only d hd hdp hd1 hd2
           · rw [hcm.2] at e3
             have := (F.opens (by omega) (by omega)).2
             rw [hep] at this
             cases this
         · rw [pOpen_end hcm.1 hcm.2] at h2; exact absurd rfl h2
       | false =>
         have hnx : nextMark b.prod (post' ++ [c]) = c.marker := by rw [next_snoc hep, if_pos hcm]
         refine ⟨fun ht h2 => ?_, fun d hd hdp hd1 hd2 => ?_, fun h2 h3 => ?_⟩
         · rw [hnx] at h2
           have hp := pOpen_of (E := endD start l) rfl ht hm hep (pre := pre) (by rw [← hl2]; exact hcl)
           rw [← hl2] at hp
           have hp0 : 0 ≤ pOpen c.prod l := by
            rw [hcm.2]
            rcases pOpen_base b.prod l with e | ⟨x, hx, e⟩
            · exact absurd e hp.1
            · rw [e]; exact (hall x hx).2
           have htd := tdrop_yes hall hrc (by rw [hcm.2]; exact hk) h2 hp0
           refine ⟨_, List.mem_append.2 (.inr (by rw [htd]; exact List.mem_singleton.2 rfl)), hcm.2, ?_, hbe⟩
           show pOpen c.prod l ≤ b.base
           rw [hcm.2]
           exact hp.2
         · rcases hnew d hd with hd | ⟨e1, e2, e3, e4, e5⟩
           · have := (F.only d hd hdp hd1 hd2).2
             rw [next_no hep] at this
             omega
           · rw [hcm.2] at e3
             rw [hnx]
             exact ⟨(F.opens (by omega) (by omega)).1, e1⟩
         · rw [pOpen_end hcm.1 hcm.2] at h2; exact absurd rfl h2
     · have hes : endsB b.prod (post' ++ [c]) = endsB b.prod post' := by
        rw [ends_snoc]
        by_cases h2 : c.marker = 0
        · simp [h2]
        · have h3 : ¬ c.prod = b.prod := fun h => hcm ⟨h2, h⟩
          simp [h3]
       have hnx : nextMark b.prod (post' ++ [c]) = nextMark b.prod post' := by
        cases hep : endsB b.prod post' with
        | true => exact next_app [c] hep
        | false => rw [next_snoc hep, if_neg hcm, next_no hep]
       refine ⟨fun ht h2 => ?_, fun d hd hdp hd1 hd2 => ?_, fun h2 h3 => ?_⟩
       · obtain ⟨d, hd, hh⟩ := F.gone ht (hnx ▸ h2)
         exact ⟨d, List.mem_append.2 (.inl hd), hh⟩
       · rw [hnx]
         rcases hnew d hd with hd | ⟨e1, e2, e3, e4, e5⟩
         · exact F.only d hd hdp hd1 hd2
         · exact absurd ⟨by omega, by rw [← e2]; exact hdp⟩ hcm
       · rw [hes]
         have hm2 : c.marker = 0 ∨ c.prod ≠ b.prod := by
          by_cases h4 : c.marker = 0
          · exact .inl h4
          · exact .inr fun h => hcm ⟨h4, h⟩
         rw [pOpen_app (fun x hx => (hall x hx).2) hm2] at h2 h3
         by_cases h4 : pOpen b.prod l = -1
         · rw [if_pos h4] at h2 h3
           rcases pOpen_base b.prod [c] with e | ⟨x, hx, e⟩
           · exact absurd e h2
           · rw [List.mem_singleton.1 hx] at e
             omega
         · rw [if_neg h4] at h2 h3
           exact F.opens h2 h3
   · refine ⟨fun ht h2 => ?_, fun d hd hdp hd1 hd2 => ?_, fun h2 h3 => ?_⟩
     · have h4 : (1 : Int) = 2 := h2
       omega
     · rcases hnew d hd with hd | ⟨e1, e2, e3, e4, e5⟩
       · have := hlast d hd
         omega
       · omega
     · refine ⟨?_, rfl⟩
       rw [pOpen_app (fun x hx => (hall x hx).2) (.inl hm)] at h2
       by_cases h4 : pOpen b.prod l = -1
       · rw [if_pos h4] at h2
         cases ht : b.txn
         · exfalso
           apply h2
           show (if b.prod = b.prod ∧ opensB b [] = true then b.base else -1) = -1
           rw [if_neg]
           intro h5
           have h6 := h5.2
           unfold opensB at h6
           rw [ht] at h6
           simp at h6
         · rfl
       · have h5 : 0 ≤ pOpen b.prod l := by
          rcases pOpen_base b.prod l with e | ⟨x, hx, e⟩
          · exact absurd e h4
          · rw [e]; exact (hall x hx).2
         exact check_txn hl h0 h1 hc hn hk hm h5
theorem recsG_prod {p : Int} : ∀ {l : List Rc} {n : Int} {g : Gt}, g ∈ recsG p n l → g.prod = p
 | [], n, g, h => by cases h
 | r :: l, n, g, h => by
   rcases List.mem_cons.1 h with rfl | h
   · rfl
   · exact recsG_prod h
theorem batG_prod {b : Bat} {a z : Int} {g : Gt} (h : g ∈ batG b a z) : g.prod = b.prod := by
 unfold batG at h
 split at h
 · exact recsG_prod (List.mem_filter.1 h).1
 · cases h
theorem batG_least {b : Bat} {a a' z : Int} (h : a ≤ b.base) (h' : a' ≤ b.base) : batG b a z = batG b a' z := by
 unfold batG
 split
 · apply List.filter_congr
   intro g hg
   have := recsG_mem hg
   apply decide_eq_decide.2
   omega
 · rfl
theorem keptG_app (l m : List Gt) (ds : List Dr) : keptG (l ++ m) ds = keptG l ds ++ keptG m ds := List.filter_append ..
theorem kept_all {l : List Gt} {ds : List Dr} (h : ∀ g ∈ l, ds.any (hitG g) = false) : keptG l ds = l := by
 unfold keptG
 rw [List.filter_eq_self]
 intro g hg
 rw [h g hg]
 rfl
theorem kept_none {l : List Gt} {ds : List Dr} (h : ∀ g ∈ l, ds.any (hitG g) = true) : keptG l ds = [] := by
 unfold keptG
 rw [List.filter_eq_nil_iff]
 intro g hg
 rw [h g hg]
 decide
theorem any_no {g : Gt} {ds : List Dr} (h : ∀ d ∈ ds, g.prod ≠ -1 → d.prod = g.prod → d.first ≤ g.off → g.off ≤ d.last → False) : ds.any (hitG g) = false := by
 rw [List.any_eq_false]
 intro d hd hh
 obtain ⟨h1, h2, h3, h4⟩ := of_decide_eq_true hh
 exact h d hd h1 h2 h3 h4
theorem mark_few {k : Int} : ∀ {l : List Bat}, (∀ b ∈ l, rightE b = 0) → nextMark k l = 1 ∨ nextMark k l = 2
 | [], _ => .inl rfl
 | c :: l, h => by
   have h1 := ok_of (h c (by simp))
   have ih := mark_few (k := k) (l := l) (fun b hb => h b (by simp [hb]))
   have m0 := h1.marker0
   have m1 := h1.marker1
   show (if c.marker ≠ 0 ∧ c.prod = k then c.marker else nextMark k l) = 1 ∨ (if c.marker ≠ 0 ∧ c.prod = k then c.marker else nextMark k l) = 2
   split
   · omega
   · exact ih
theorem bat_fate {start : Int} {bs : List Bat} (h : RowD start bs) (h0 : 0 ≤ start) (h1 : start ≤ 1099511627776) {pre : List Bat} {b : Bat} {post : List Bat} (hs : bs = pre ++ b :: post) {a z : Int} (ha : a ≤ start) : keptG (batG b a z) (foldR [] bs) = if b.txn = false ∨ nextMark b.prod post = 1 then batG b start z else [] := by
 have hb : b ∈ bs := by rw [hs]; simp
 have hbase : start ≤ b.base := by
  have := (row_split h h0 0).2.1 b (by rw [List.drop_zero]; exact hb)
  rw [List.take_zero] at this
  exact this
 have hr := (rowD_ok h b hb).1
 have e := batG_least (b := b) (z := z) (Int.le_trans ha hbase) hbase
 rw [e]
 by_cases hm : b.marker = 0
 · by_cases hk : 0 ≤ b.prod
   · have F := row_fate h h0 h1 pre b post hs hm hk
     have hin : ∀ g ∈ batG b start z, g.prod = b.prod ∧ b.base ≤ g.off ∧ g.off < b.base + countD b := fun g hg => ⟨batG_prod hg, (batG_mem hg).2.1, (batG_mem hg).2.2.1⟩
     by_cases hc : b.txn = false ∨ nextMark b.prod post = 1
     · rw [if_pos hc]
       refine kept_all fun g hg => any_no fun d hd _ h3 h4 h5 => ?_
       obtain ⟨g1, g2, g3⟩ := hin g hg
       have h6 := F.only d hd (by omega) (by omega) (by omega)
       rcases hc with hc | hc
       · rw [hc] at h6; cases h6.1
       · omega
     · rw [if_neg hc]
       have ht : b.txn = true := by
        cases hx : b.txn
        · exact absurd (.inl hx) hc
        · rfl
       have hn : nextMark b.prod post = 2 := by
        rcases mark_few (k := b.prod) (l := post) (fun x hx => (rowD_ok h x (by rw [hs]; simp [hx])).1) with h6 | h6
        · exact absurd (.inr h6) hc
        · exact h6
       obtain ⟨d, hd, d1, d2, d3⟩ := F.gone ht hn
       refine kept_none fun g hg => ?_
       obtain ⟨g1, g2, g3⟩ := hin g hg
       rw [List.any_eq_true]
       exact ⟨d, hd, decide_eq_true ⟨by omega, by omega, by omega, by omega⟩⟩
   · have ht : b.txn = false := by
      cases hx : b.txn
      · rfl
      · exact absurd (right_txn hr hx) hk
     rw [if_pos (.inl ht)]
     refine kept_all fun g hg => any_no fun d hd h2 _ _ _ => ?_
     have g1 := batG_prod hg
     have := (ok_of hr).prod
     omega
 · have hz : batG b start z = [] := by unfold batG; rw [if_neg hm]
   rw [hz]
   split <;> rfl
theorem rows_fate {start : Int} {bs : List Bat} (h : RowD start bs) (h0 : 0 ≤ start) (h1 : start ≤ 1099511627776) {a z : Int} (ha : a ≤ start) : ∀ (pre l : List Bat), bs = pre ++ l → keptG (recordsD l a z) (foldR [] bs) = commG start z l
 | pre, [], hs => rfl
 | pre, b :: l, hs => by
   have ih := rows_fate h h0 h1 (z := z) ha (pre ++ [b]) l (by rw [hs]; simp)
   show keptG (batG b a z ++ recordsD l a z) _ = (if b.txn = false ∨ nextMark b.prod l = 1 then batG b start z else []) ++ commG start z l
   rw [keptG_app, ih, bat_fate h h0 h1 hs ha]
/-- What is committed: what is stable and was not aborted. -/
theorem committed_is {start : Int} {bs : List Bat} (h : RowD start bs) (h0 : 0 ≤ start) (h1 : start ≤ 1099511627776) {a : Int} (ha : a ≤ start) : keptG (recordsD bs a (stableD start bs)) (foldR [] bs) = committedD start bs := rows_fate h h0 h1 ha [] bs rfl
end Go.FoMath
namespace Go.Proofs.Ytipaebflkebdjaa
open Go.RowKit
open Go.FoMath
open Go.ProdMath
open Go.BatMath hiding AllB getD_lt take_all
set_option linter.unusedVariables false

theorem row_bit {α : Type} {K : Kind α} {w : World} {b off len cap : Nat} {l : List α} (h : RowAt K w (some ⟨b, off, none⟩) len cap l) (i : Nat) (hi : i < len) {x : α} (hx : l[i]? = some x) : RowAt K w (some ⟨b, off + i * K.size, none⟩) 1 (cap - i) [x] := by
 have hf := h.fits
 refine ⟨rfl, by omega, (fun e => by cases e), ?_⟩
 rcases h.cells with h1 | ⟨b', off', e, hlt, hc⟩
 · omega
 · cases e
   refine .inr ⟨b, off + i * K.size, rfl, hlt, fun j z hj k u hk => ?_⟩
   cases j with
   | zero =>
     cases hj
     have := hc i x hx k u hk
     rw [show off + i * K.size + (0 * K.size + k) = off + (i * K.size + k) by omega]
     exact this
   | succ j => cases hj
def cG (a z : Int) (l : List Bat) (i : Nat) : List Gt := match l[i]? with
 | some b => if b.txn = false ∨ nextMark b.prod (l.drop (i + 1)) = 1 then batG b a z else []
 | none => []
def commN (a z : Int) (l : List Bat) : Nat → List Gt
 | 0 => []
 | j + 1 => commN a z l j ++ cG a z l j
theorem commN_cons (a z : Int) (b : Bat) (l : List Bat) : ∀ j, commN a z (b :: l) (j + 1) = cG a z (b :: l) 0 ++ commN a z l j
 | 0 => by show [] ++ cG a z (b :: l) 0 = cG a z (b :: l) 0 ++ []; rw [List.append_nil]; rfl
 | j + 1 => by
   have ih := commN_cons a z b l j
   show commN a z (b :: l) (j + 1) ++ cG a z (b :: l) (j + 1) = cG a z (b :: l) 0 ++ (commN a z l j ++ cG a z l j)
   rw [ih, List.append_assoc]
   rfl
theorem commN_all (a z : Int) : ∀ l : List Bat, commN a z l l.length = commG a z l
 | [] => rfl
 | b :: l => by
   show commN a z (b :: l) (l.length + 1) = _
   rw [commN_cons, commN_all a z l]
   rfl
theorem cG_len {a z : Int} {l : List Bat} {j : Nat} {b : Bat} (h : l[j]? = some b) (hb : b.recs.length ≤ 16) : (cG a z l j).length ≤ 16 := by
 unfold cG
 rw [h]
 simp only
 split
 · have := partG_len b b.recs.length a z
   rw [partG_all] at this
   omega
 · exact Nat.zero_le _
theorem commN_len {a z : Int} {l : List Bat} (h : ∀ b ∈ l, b.recs.length ≤ 16) : ∀ j, (commN a z l j).length ≤ 16 * j
 | 0 => Nat.zero_le _
 | j + 1 => by
   have ih := commN_len (a := a) (z := z) h j
   show (commN a z l j ++ cG a z l j).length ≤ _
   rw [List.length_append]
   cases hj : l[j]? with
   | none =>
     have : cG a z l j = [] := by unfold cG; rw [hj]
     rw [this]
     simp only [List.length_nil]
     omega
   | some b =>
     have := cG_len (a := a) (z := z) hj (h b (List.mem_of_getElem? hj))
     omega
theorem next_drop {k : Int} {l : List Bat} {i : Nat} {c : Bat} (h : l[i]? = some c) : nextMark k (l.drop i) = if c.marker ≠ 0 ∧ c.prod = k then c.marker else nextMark k (l.drop (i + 1)) := by
 obtain ⟨hi, rfl⟩ := List.getElem?_eq_some_iff.1 h
 rw [List.drop_eq_getElem_cons hi]
 rfl
theorem next_end {k : Int} {l : List Bat} {i : Nat} (h : l.length ≤ i) : nextMark k (l.drop i) = 1 := by
 rw [List.drop_of_length_le h]
 rfl
end Go.Proofs.Ytipaebflkebdjaa
namespace Go.Proofs.Ytipaebflkebdjaa
open Go.RowKit
open Go.FoMath
open Go.ProdMath
open Go.BatMath hiding AllB getD_lt take_all
set_option linter.unusedVariables false

set_option maxRecDepth 100000 in
set_option maxHeartbeats 8000000 in
theorem refCommitted_any (w : World) (start : Int) (ad : Option Addr) (len cap : Nat) (ms : List BM) (h : BatsAt w ad len cap ms) (hL : len ≤ 5000) (hr : FoRow start (bats ms)) :
 Calls Try.prog 28 #[.int .i64 start, .slice ad len cap] w (GivesGots w (committedD start (bats ms))) := by
 have H := Lib.hid h
 have HR := Lib.hid hr
 have HLL : Hid (len ≤ 5000) := hL
 have hlen := h.row.length
 obtain ⟨bs, hbs⟩ : ∃ bs, bs = bats ms := ⟨_, rfl⟩
 have HBS := Lib.hid hbs
 have HBL : Hid (bs.length = len) := by show _ = _; rw [hbs]; unfold bats; rw [List.length_map]; exact hlen
 have HGET : Hid (∀ (i : Nat) m, ms[i]? = some m → bs[i]? = some m.b) := by
  intro i m hm
  rw [hbs]; unfold bats
  rw [List.getElem?_map, hm]; rfl
 have HFEW : Hid (∀ b ∈ bs, b.recs.length ≤ 16) := fun b hb => (hr.few b (by rw [← hbs]; exact hb)).2.2
 clear h hr hlen hbs
 go_enter Try.func28, Try.ntmps28
 go_wp2_with fail
 refine (refStable_any w start ad len cap ms H.out HLL.out HR.out).mono ?_
 rintro e w1 ⟨rfl, hb⟩
 obtain ⟨st, hst⟩ : ∃ st, st = stableD start (bats ms) := ⟨_, rfl⟩
 rw [← hst]
 have HST := Lib.hid hst
 have HB1 := Lib.hid hb
 clear hb hst
 go_wp2
 go_loopw [5, 16] (fun v5 v16 wr => ∃ (j : Nat) (u : Value), u = v5 ∧ v16 = .int .i64 (j : Int) ∧ j ≤ len ∧ Hid (OwnRow gtK wr w1.heap.size u (commN start st bs j)) ∧ Hid (Below w1.heap.size w1 wr)) (fun _ v16 _ => len - (intOf v16).toNat)
 case atStart => exact ⟨0, _, rfl, rfl, Nat.zero_le _, ownRow_nil _ _ _, Below.refl _ _⟩
 case round =>
  obtain ⟨j, u, rfl, rfl, hj, HO, HB⟩ := hrel
  obtain ⟨wo, hwo⟩ : ∃ wo : World, wo = wr := ⟨_, rfl⟩
  subst hwo
  by_cases hlt : j < len
  · have hd : decide (j < len) = true := decide_eq_true hlt
    have hjl : (j : Int) < (len : Int) := by omega
    have HBW : Hid (Below w.heap.size w wo) := HB1.out.trans (HB.out.mono HB1.out.size)
    obtain ⟨bk, off, m, el, hbk, hm, hrec, c0, c1, c2, c3, c4, c5, c6⟩ := (H.out.keep HBW.out).get hlt
    have hbm := HGET.out j m hm
    have HJ := Lib.hid hbm
    have HRM : Hid (RecAt w m) := H.out.ins m (List.mem_of_getElem? hm)
    have HML := Lib.hid hm
    have HACC : Hid ((commN start st bs j).length ≤ 80000) := by
     show _ ≤ _
     have h1 := commN_len (a := start) (z := st) HFEW.out j
     have h2 := HLL.out
     omega
    obtain ⟨⟨b0, b1, b2, b3, b4, b5, recs⟩, rd, rc⟩ := m
    simp only at c0 c1 c2 c3 c4 c5 c6 HJ
    obtain ⟨rn, hrn⟩ : ∃ n, recs.length = n := ⟨_, rfl⟩
    rw [hrn] at c6
    have HRN := Lib.hid hrn
    subst el
    have HSUB := Lib.hid (row_bit (H.out.keep HBW.out).row j hlt HML.out)
    clear hbm hm hrec hbk hrn
    go_upto_region 6 with fail
    obtain ⟨W1, hW1⟩ : ∃ W1, W1 = wo.alloc (.cells #[.int .i64 b0, .int .i64 b1, .int .i64 b2, .int .i64 b3, .bool b4, .int .i64 b5, .slice rd rn rc] 52) := ⟨_, rfl⟩
    obtain ⟨K, hK⟩ : ∃ K, K = wo.heap.size := ⟨_, rfl⟩
    have hb1' : Below wo.heap.size wo W1 := by rw [hW1]; exact (Below.refl _ _).alloc (Nat.le_refl _) _
    have HX1 : Hid (BoxAt W1 K b0 b1 b2 b3 b4 b5 (.slice rd rn rc)) := by show BoxAt _ _ _ _ _ _ _ _ _; rw [hW1, hK]; exact boxAt_new wo _ _ _ _ _ _ _
    have HO1 := Lib.hid (HO.out.on hb1')
    have HB1' := Lib.hid (HB.out.trans (hb1'.mono HB.out.size))
    have HBOW : Hid (Below wo.heap.size wo W1) := hb1'
    rw [← hW1, ← hK]
    clear hW1 hb1' hK c0 c1 c2 c3 c4 c5 c6 HO HB
    have hlw : wrap64 ((len : Int) - 1) = ((len - 1 : Nat) : Int) := by have := HLL.out; unfold wrap64; omega
    have hlw2 : (len : Int) - 1 = ((len - 1 : Nat) : Int) := by omega
    obtain ⟨l1, hl1⟩ : ∃ l1, l1 = len - 1 := ⟨_, rfl⟩
    rw [← hl1] at hlw hlw2
    have HL1 := Lib.hid hl1
    clear hl1
    go_wp2
    clear hlw hlw2
    go_loopw [9, 10] (fun v9 v10 wr => ∃ (k : Nat) (mk : Int), v9 = .int .i64 mk ∧ v10 = .int .i64 (k : Int) ∧ j ≤ k ∧ k < len ∧ Hid (mk = if b4 = true then nextMark b1 (bs.drop (k + 1)) else 1) ∧ Hid (Below W1.heap.size W1 wr)) (fun _ v10 _ => (intOf v10).toNat)
    case atStart =>
     refine ⟨l1, 1, rfl, rfl, by have := HL1.out; omega, by have := HL1.out; omega, ?_, Below.refl _ _⟩
     show _ = _
     rw [next_end (by rw [HBL.out]; have := HL1.out; omega)]
     simp
    case round =>
     obtain ⟨k, mk, rfl, rfl, hjk, hkl, HMK, HBB⟩ := hrel
     obtain ⟨wi, hwi⟩ : ∃ wi : World, wi = wr := ⟨_, rfl⟩
     subst hwi
     have x4 := (HX1.out.on HBB.out).c4
     by_cases hgo : j < k ∧ b4 = true
     · obtain ⟨hjk2, hb4⟩ := hgo
       subst hb4
       have hd1 : decide (j < k) = true := decide_eq_true hjk2
       have hd1i : decide ((j : Int) < (k : Int)) = true := decide_eq_true (by omega)
       have hki : (k : Int) < (len : Int) := by omega
       have HBK : Hid (Below w.heap.size w wi) := HB1.out.trans ((HB1'.out.trans (HBB.out.mono HB1'.out.size)).mono HB1.out.size)
       obtain ⟨ck, coff, mc, el, hck, hmc, hrecc, d0, d1, d2, d3, d4, d5, d6⟩ := (H.out.keep HBK.out).get hkl
       cases el
       have hcm := HGET.out k mc hmc
       have HNK := Lib.hid (next_drop (k := b1) hcm)
       obtain ⟨⟨e0, e1, e2, e3, e4, e5, erecs⟩, erd, erc⟩ := mc
       simp only at d0 d1 d2 d3 d4 d5 d6 HNK
       have x1 := (HX1.out.on HBB.out).c1
       have hkw : wrap64 ((k : Int) - 1) = ((k - 1 : Nat) : Int) := by unfold wrap64; omega
       have hkw2 : (k : Int) - 1 = ((k - 1 : Nat) : Int) := by omega
       obtain ⟨k1, hk1⟩ : ∃ k1, k1 = k - 1 := ⟨_, rfl⟩
       rw [← hk1] at hkw hkw2
       have HK1 : Hid (k1 + 1 = k) := by show _ = _; omega
       have hm2 := HMK.out
       rw [if_pos rfl] at hm2
       have HM2 := Lib.hid hm2
       clear hcm hmc hrecc hck d0 d2 d3 d4 d6 hk1 hm2 HMK
       have hcs : e5 = 0 ∨ (e5 ≠ 0 ∧ e1 ≠ b1) ∨ (e5 ≠ 0 ∧ e1 = b1) := by omega
       rcases hcs with h5 | ⟨h5, h6⟩ | ⟨h5, h6⟩
       · have t5 : (e5 == 0) = true := by rw [h5]; rfl
         have t5n : (e5 != 0) = false := by rw [h5]; rfl
         have HM3 : Hid (mk = if true = true then nextMark b1 (bs.drop (k1 + 1)) else 1) := by show _ = _; rw [if_pos rfl, HK1.out, HNK.out, if_neg (fun h => h.1 h5)]; exact HM2.out
         clear h5 HM2 HNK
         go_upto_region 10 with fail
         go_quiet (fail)
         obtain ⟨u1, hu⟩ : ∃ u, u = wi.drewN nq := ⟨_, rfl⟩
         have HB3 : Hid (Below W1.heap.size W1 u1) := by show Below _ _ _; rw [hu]; exact below_drewN HBB.out nq
         rw [← hu]
         clear hu d5 d1 x1 x4 HBB
         go_wp2
         go_roundw
         case rel => exact ⟨k1, mk, rfl, rfl, by have := HK1.out; omega, by have := HK1.out; omega, HM3.out, HB3.out⟩
         case measure => simp [intOf]; have := HK1.out; omega
       · have t5 : (e5 == 0) = false := beq_false_of_ne h5
         have t5n : (e5 != 0) = true := by simp [h5]
         have t6 : (e1 == b1) = false := beq_false_of_ne h6
         have HM3 : Hid (mk = if true = true then nextMark b1 (bs.drop (k1 + 1)) else 1) := by show _ = _; rw [if_pos rfl, HK1.out, HNK.out, if_neg (fun h => h6 h.2)]; exact HM2.out
         clear h5 h6 HM2 HNK
         go_upto_region 10 with fail
         go_quiet (fail)
         obtain ⟨u1, hu⟩ : ∃ u, u = wi.drewN nq := ⟨_, rfl⟩
         have HB3 : Hid (Below W1.heap.size W1 u1) := by show Below _ _ _; rw [hu]; exact below_drewN HBB.out nq
         rw [← hu]
         clear hu d5 d1 x1 x4 HBB
         go_wp2
         go_roundw
         case rel => exact ⟨k1, mk, rfl, rfl, by have := HK1.out; omega, by have := HK1.out; omega, HM3.out, HB3.out⟩
         case measure => simp [intOf]; have := HK1.out; omega
       · have t5 : (e5 == 0) = false := beq_false_of_ne h5
         have t5n : (e5 != 0) = true := by simp [h5]
         have t6 : (e1 == b1) = true := by rw [h6]; exact beq_self_eq_true b1
         have HM3 : Hid (e5 = if true = true then nextMark b1 (bs.drop (k1 + 1)) else 1) := by show _ = _; rw [if_pos rfl, HK1.out, HNK.out, if_pos ⟨h5, h6⟩]
         clear h5 h6 HM2 HNK
         go_upto_region 10 with fail
         go_quiet (fail)
         obtain ⟨u1, hu⟩ : ∃ u, u = wi.drewN nq := ⟨_, rfl⟩
         have HB3 : Hid (Below W1.heap.size W1 u1) := by show Below _ _ _; rw [hu]; exact below_drewN HBB.out nq
         have d5' : u1.cell? ⟨bk, off + k * 7 + 5, none⟩ = some (.int .i64 e5) := by rw [hu]; simpa using d5
         rw [← hu]
         clear hu d5 d1 x1 x4 HBB
         go_wp2
         go_roundw
         case rel => exact ⟨k1, e5, rfl, rfl, by have := HK1.out; omega, by have := HK1.out; omega, HM3.out, HB3.out⟩
         case measure => simp [intOf]; have := HK1.out; omega
     · have hex : decide (j < k) = false ∧ decide ((j : Int) < (k : Int)) = false ∨ decide (j < k) = true ∧ decide ((j : Int) < (k : Int)) = true ∧ b4 = false := by
        by_cases h1 : j < k
        · refine .inr ⟨decide_eq_true h1, decide_eq_true (by omega), ?_⟩
          cases b4
          · rfl
          · exact absurd ⟨h1, rfl⟩ hgo
        · exact .inl ⟨decide_eq_false h1, decide_eq_false (by omega)⟩
       have HFIN : Hid (cG start st bs j = if mk = 1 then batG ⟨b0, b1, b2, b3, b4, b5, recs⟩ start st else []) := by
        show _ = _
        unfold cG
        rw [HJ.out]
        simp only
        have h1 := HMK.out
        cases b4 with
        | false =>
          rw [if_neg (by decide)] at h1
          rw [if_pos (.inl rfl), if_pos h1]
        | true =>
          have hk2 : k = j := by
           have : ¬ j < k := fun h => hgo ⟨h, rfl⟩
           omega
          rw [if_pos rfl, hk2] at h1
          rw [← h1]
          by_cases h2 : mk = 1
          · rw [if_pos (.inr h2), if_pos h2]
          · rw [if_neg (fun h => by rcases h with h | h; cases h; exact h2 h), if_neg h2]
       have HO2 := Lib.hid (HO1.out.on HBB.out)
       have HB2 := Lib.hid (HB1'.out.trans (HBB.out.mono HB1'.out.size))
       have HBX : Hid (Below wo.heap.size wo wi) := by
        have := HBB.out
        exact HBOW.out.trans (this.mono HBOW.out.size)
       clear hgo HMK HO1 HB1' HBB
       by_cases h1 : mk = 1
       · have t1 : (mk == 1) = true := by rw [h1]; rfl
         have HSTEP : Hid (commN start st bs (j + 1) = commN start st bs j ++ batG ⟨b0, b1, b2, b3, b4, b5, recs⟩ start st) := by show commN start st bs j ++ cG start st bs j = _; rw [HFIN.out, if_pos h1]
         have hcf := (H.out.keep HBW.out).row.fits
         have hc1 : (j : Int) + 1 ≤ (cap : Int) := by omega
         have hc2 : ¬ cap = j := by omega
         have hc3 : ((j : Int) + 1).toNat = j + 1 := by omega
         have hc4 : j + 1 - j = 1 := by omega
         have HONE : Hid (BatsAt wi (some ⟨bk, off + j * 7, none⟩) 1 (cap - j) [⟨⟨b0, b1, b2, b3, b4, b5, recs⟩, rd, rc⟩]) := ⟨HSUB.out.keep HBX.out, fun q hq => by
          rw [List.mem_singleton.1 hq]
          exact HRM.out.keep (HB1.out.trans (HB2.out.mono HB1.out.size))⟩
         have HOK1 : Hid (GotsOk (bats [(⟨⟨b0, b1, b2, b3, b4, b5, recs⟩, rd, rc⟩ : BM)])) := fun b hb => by
          have h2 : b = ⟨b0, b1, b2, b3, b4, b5, recs⟩ := by
           unfold bats at hb
           simpa using hb
          rw [h2]
          exact HR.out.few _ (by rw [← HBS.out]; exact List.mem_of_getElem? HJ.out)
         clear HFIN h1 hcf
         rcases hex with ⟨g1, g2⟩ | ⟨g1, g2, g3⟩
         · go_wp2_with fail
           clear x4
           refine (refRecords_any wi (some ⟨bk, off + j * 7, none⟩) 1 (cap - j) _ HONE.out (by decide) HOK1.out start st).mono ?_
           rintro e w7 ⟨qa, qn, qc, rfl, hrow, -, hb⟩
           have HO7 := Lib.hid (HO2.out.on hb)
           have HB7 := Lib.hid (HB2.out.trans (hb.mono HB2.out.size))
           have hbat : recordsD (bats [(⟨⟨b0, b1, b2, b3, b4, b5, recs⟩, rd, rc⟩ : BM)]) start st = batG ⟨b0, b1, b2, b3, b4, b5, recs⟩ start st := by show batG _ _ _ ++ [] = _; rw [List.append_nil]
           rw [hbat] at hrow
           have HQ := Lib.hid hrow
           have hq16 : qn ≤ 16 := by
            have h5 := partG_len ⟨b0, b1, b2, b3, b4, b5, recs⟩ recs.length start st
            have h6 := HFEW.out _ (List.mem_of_getElem? HJ.out)
            rw [partG_all] at h5
            have h7 := hrow.length
            simp only at h6
            have h8 : (batG ⟨b0, b1, b2, b3, b4, b5, recs⟩ start st).length ≤ recs.length := h5
            omega
           clear hb hrow hbat HO2 HB2 HONE HOK1
           go_wp2_with (at_builtin; refine list_row (by rfl) gtK_ok (.tmp 56) (.tmp 64) rfl w1.heap.size (commN start st bs j) _ u rfl HO7.out HB7.out.size qa qn qc rfl HQ.out (by have := HACC.out; omega) ?_)
           intro v8 w8 hap
           have HO8 : Hid (OwnRow gtK w8 w1.heap.size v8 (commN start st bs (j + 1))) := by show OwnRow _ _ _ _ _; rw [HSTEP.out]; exact hap.1
           have HB8 : Hid (Below w1.heap.size w1 w8) := HB7.out.grown hap.2.1 HB7.out.size (fun q hq => (HO7.out.lt q hq).1)
           clear hap HO7 HB7 HQ hc1 hc2 hc3 hc4
           go_wp2
           go_roundw
           case rel => exact ⟨j + 1, v8, rfl, rfl, hlt, HO8.out, HB8.out⟩
           case measure => simp [intOf]; omega
         · subst g3
           go_wp2_with fail
           clear x4
           refine (refRecords_any wi (some ⟨bk, off + j * 7, none⟩) 1 (cap - j) _ HONE.out (by decide) HOK1.out start st).mono ?_
           rintro e w7 ⟨qa, qn, qc, rfl, hrow, -, hb⟩
           have HO7 := Lib.hid (HO2.out.on hb)
           have HB7 := Lib.hid (HB2.out.trans (hb.mono HB2.out.size))
           have hbat : recordsD (bats [(⟨⟨b0, b1, b2, b3, false, b5, recs⟩, rd, rc⟩ : BM)]) start st = batG ⟨b0, b1, b2, b3, false, b5, recs⟩ start st := by show batG _ _ _ ++ [] = _; rw [List.append_nil]
           rw [hbat] at hrow
           have HQ := Lib.hid hrow
           have hq16 : qn ≤ 16 := by
            have h5 := partG_len ⟨b0, b1, b2, b3, false, b5, recs⟩ recs.length start st
            have h6 := HFEW.out _ (List.mem_of_getElem? HJ.out)
            rw [partG_all] at h5
            have h7 := hrow.length
            simp only at h6
            have h8 : (batG ⟨b0, b1, b2, b3, false, b5, recs⟩ start st).length ≤ recs.length := h5
            omega
           clear hb hrow hbat HO2 HB2 HONE HOK1
           go_wp2_with (at_builtin; refine list_row (by rfl) gtK_ok (.tmp 56) (.tmp 64) rfl w1.heap.size (commN start st bs j) _ u rfl HO7.out HB7.out.size qa qn qc rfl HQ.out (by have := HACC.out; omega) ?_)
           intro v8 w8 hap
           have HO8 : Hid (OwnRow gtK w8 w1.heap.size v8 (commN start st bs (j + 1))) := by show OwnRow _ _ _ _ _; rw [HSTEP.out]; exact hap.1
           have HB8 : Hid (Below w1.heap.size w1 w8) := HB7.out.grown hap.2.1 HB7.out.size (fun q hq => (HO7.out.lt q hq).1)
           clear hap HO7 HB7 HQ hc1 hc2 hc3 hc4
           go_wp2
           go_roundw
           case rel => exact ⟨j + 1, v8, rfl, rfl, hlt, HO8.out, HB8.out⟩
           case measure => simp [intOf]; omega
       · have t1 : (mk == 1) = false := beq_false_of_ne h1
         have HO3 : Hid (OwnRow gtK wi w1.heap.size u (commN start st bs (j + 1))) := by
          show OwnRow _ _ _ _ (commN start st bs j ++ cG start st bs j)
          rw [HFIN.out, if_neg h1, List.append_nil]
          exact HO2.out
         clear HO2 h1 HFIN
         rcases hex with ⟨g1, g2⟩ | ⟨g1, g2, g3⟩
         · go_wp2
           go_roundw
           case rel => exact ⟨j + 1, u, rfl, rfl, hlt, HO3.out, HB2.out⟩
           case measure => simp [intOf]; omega
         · subst g3
           go_wp2
           go_roundw
           case rel => exact ⟨j + 1, u, rfl, rfl, hlt, HO3.out, HB2.out⟩
           case measure => simp [intOf]; omega
  · have hd : decide (j < len) = false := decide_eq_false hlt
    have hjn : j = len := by omega
    have HFIN : Hid (OwnRow gtK wo w1.heap.size u (committedD start (bats ms))) := by
     have h1 := HO.out
     rw [hjn, ← HBL.out, commN_all, HST.out, HBS.out] at h1
     exact h1
    clear hjn
    go_wp2
    go_ret
    obtain ⟨ad, cap, hv, hr, hk⟩ := OwnRow.at gtK_ok HFIN.out
    exact ⟨ad, _, cap, congrArg Ending.returned hv, hr, (fun a ha => ⟨Nat.le_trans HB1.out.size (hk a ha).1, (hk a ha).2⟩), HB1.out.trans (HB.out.mono HB1.out.size)⟩
end Go.Proofs.Ytipaebflkebdjaa
namespace Go.Proofs.Ytipaebflkebdjaa
open Go.RowKit
open Go.FoMath
open Go.ProdMath
open Go.BatMath hiding AllB getD_lt take_all
set_option linter.unusedVariables false

/-- A row of batches that a partition may have, in memory. -/
structure FoBats (W : World) (start : Int) (ad : Option Addr) (len cap : Nat) (ms : List BM) : Prop where
 at_ : BatsAt W ad len cap ms
 few : len ≤ 5000
 row : RowD start (bats ms)
 lo : 0 ≤ start
 hi : start ≤ 1099511627776
theorem endD_hi {start : Int} {bs : List Bat} (h : RowD start bs) (hs : start ≤ 1099511627776) : endD start bs ≤ 1099511627776 := by
 cases h with
 | nil => exact hs
 | @snoc l b h2 hb hw hr hc he =>
   have e : endD start (l ++ [b]) = endD start l + countD b := by rw [end_last (b := b) (by simp), hb]
   rw [e]
   exact he
theorem FoBats.foRow {W : World} {start : Int} {ad : Option Addr} {len cap : Nat} {ms : List BM} (h : FoBats W start ad len cap ms) : FoRow start (bats ms) := foRow_of h.row h.lo (endD_hi h.row h.hi)
theorem FoBats.keep {W W' : World} {start : Int} {ad : Option Addr} {len cap : Nat} {ms : List BM} (h : FoBats W start ad len cap ms) (hb : Below W.heap.size W W') : FoBats W' start ad len cap ms := ⟨h.at_.keep hb, h.few, h.row, h.lo, h.hi⟩
theorem FoBats.take {W : World} {start : Int} {ad : Option Addr} {len cap : Nat} {ms : List BM} (h : FoBats W start ad len cap ms) (k : Nat) (hk : k ≤ len) : FoBats W start ad k cap (ms.take k) := by
 have e : bats (ms.take k) = (bats ms).take k := by unfold bats; rw [List.map_take]
 exact ⟨abBats_take h.at_ k hk, Nat.le_trans hk h.few, by rw [e]; exact abRow_take h.row k, h.lo, h.hi⟩
theorem bats_take (ms : List BM) (k : Nat) : bats (ms.take k) = (bats ms).take k := by unfold bats; rw [List.map_take]
/-- The code's fold. -/
structure FoCode : Prop where
 end_ : ∀ W start ad len cap ms, FoBats W start ad len cap ms → Calls Try.prog 19 #[.int .i64 start, .slice ad len cap] W (GivesI W (endD start (bats ms)))
 stable : ∀ W start ad len cap ms, FoBats W start ad len cap ms → Calls Try.prog 18 #[.int .i64 start, .slice ad len cap] W (GivesI W (stableD start (bats ms)))
 records : ∀ W start ad len cap ms (a z : Int), FoBats W start ad len cap ms → Calls Try.prog 32 #[.int .i64 start, .slice ad len cap, .int .i64 a, .int .i64 z] W (GivesGots W (recordsD (bats ms) a z))
 fetch : ∀ W start ad len cap ms (o n : Int) (only : Bool), FoBats W start ad len cap ms → Calls Try.prog 23 #[.int .i64 start, .slice ad len cap, .int .i64 o, .int .i64 n, .bool only] W (GivesFd W (fetchD start (bats ms) o n only))
 committed : ∀ W start ad len cap ms, FoBats W start ad len cap ms → Calls Try.prog 22 #[.int .i64 start, .slice ad len cap] W (GivesGots W (committedD start (bats ms)))
 deliver : ∀ W v f, FdAt W v f → f.recs.length ≤ 100000 → f.drs.length ≤ 140737488355328 → Calls Try.prog 15 #[v] W (GivesGots W (deliverD f.recs f.drs))
theorem comm_few {start : Int} {ms : List BM} {W : World} {ad : Option Addr} {len cap : Nat} (h : FoBats W start ad len cap ms) : (committedD start (bats ms)).length ≤ 80000 := by
 unfold committedD
 rw [← commN_all]
 have h1 := commN_len (a := start) (z := stableD start (bats ms)) (fun b hb => (h.foRow.few b hb).2.2) (bats ms).length
 have h2 : (bats ms).length = len := by unfold bats; rw [List.length_map]; exact h.at_.row.length
 have h3 := h.few
 omega
end Go.Proofs.Ytipaebflkebdjaa
