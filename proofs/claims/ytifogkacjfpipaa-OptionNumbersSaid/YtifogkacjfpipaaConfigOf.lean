/- The contract of Config, at a slice that the caller owns, nil or not. -/
import Derived.Test.YtifogkacjfpipaaConfig
namespace Go.Proofs.Ytifogkacjfpipaa
open Go.RowKit
open Go.RuneMath
set_option linter.unusedVariables false

theorem valid_dflt (w : World) : Calls Try.prog 21 #[.agg #[.int .i64 1024, .int .i64 128, .int .i64 4, .int .i64 1048576]] w fun e w' => e = .returned (.bool true) ∧ Below w.heap.size w w' := valid_any w Cf.dflt
set_option maxHeartbeats 1000000 in
theorem config_nil (w : World) : Calls Try.prog 9 #[.slice none 0 0] w (Configs [] w) := by
  go_enter Try.func9, Try.ntmps9
  go_wp2_with fail
  refine (default_lit _).mono ?_
  rintro e w1 ⟨rfl, hb⟩
  have hs := hb.size
  rw [alloc_size] at hs hb
  have hK := rest_start (l := []) (g := 0) (cap := 0) (N := 0) rfl (Nat.le_refl _) hs hb
  have HS := Lib.hid hs
  have HR := Lib.hid hK
  clear hs hb hK
  go_wp2
  refine wp_loop_rounds 1 ?_
  rw [rounds_succ]
  have c0 := HR.out.conf.cell0
  have c1 := HR.out.conf.cell1
  have c2 := HR.out.conf.cell2
  have c3 := HR.out.conf.cell3
  go_wp2_with fail
  refine (valid_dflt _).mono ?_
  rintro e w2 ⟨rfl, h2⟩
  have hlt := HR.out.res.lt
  have hb2 := HR.out.below.trans (h2.mono (by omega))
  have hz2 := HR.out.res.below h2 (by omega)
  have hc2 := HR.out.conf.below h2 HR.out.conf.lt
  have z0 := hz2.cell0
  have z1 := hz2.cell1
  have z2 := hz2.cell2
  have z3 := hz2.cell3
  have y0 := hz2.free 0
  have y1 := hz2.free 1
  have y2 := hz2.free 2
  have y3 := hz2.free 3
  have x0 := hc2.cell0
  have x1 := hc2.cell1
  have x2 := hc2.cell2
  have x3 := hc2.cell3
  have HB2 := Lib.hid hb2
  have HZ := Lib.hid hz2
  clear h2 hb2 hz2 hc2 c0 c1 c2 c3 hlt
  go_wp2
  have hput := fill_at HZ.out Cf.dflt
  exact bodyPost_ret (v := .tuple #[Cf.dflt.val, .int .i64 0]) (results9 hput.1 rfl) rfl (configs_mk rfl rfl (HB2.out.trans hput.2))
/-- The caller's own row of options. -/
def Opts (w : World) (base : Nat) (v : Value) (l : List El) : Prop := w.ownsRow base 20 1 v l.length (l.map El.val)
theorem opts_at {w : World} {base : Nat} {v : Value} {l : List El} (h : Opts w base v l) : (v = .slice none 0 0 ∧ l = []) ∨ ∃ g cap, v = .slice (some ⟨g, 0, none⟩) l.length cap ∧ l.length ≤ cap ∧ cap ≤ maxLen ∧ base ≤ g ∧ g < w.heap.size ∧ AnysAt w g 0 l := by
  rcases h.2 with ⟨hv, hn⟩ | ⟨g, cap, cur, rfl, hg, hh, hc, hm, hsz, ht⟩
  · exact .inl ⟨hv, List.eq_nil_of_length_eq_zero hn⟩
  · refine .inr ⟨g, cap, rfl, hc, hm, hg, lt_of_block hh, fun i u hi => ?_⟩
    have hil : i < l.length := (List.getElem?_eq_some_iff.1 hi).1
    rw [Nat.zero_add, cell_of_row w g i _ _ _ hh]
    have h1 : (cur.toList.take (l.length * 1))[i]? = cur[i]? := by rw [List.getElem?_take, if_pos (by omega)]; simp
    rw [← h1, ht, List.getElem?_map, hi]
    rfl
theorem config_opts (w : World) (base : Nat) (v : Value) (l : List El) (h : Opts w base v l) (hgood : ∀ u ∈ l, u.good) : Calls Try.prog 9 #[v] w (Configs l w) := by
  rcases opts_at h with ⟨rfl, rfl⟩ | ⟨g, cap, rfl, hc, hm, _, hg, ha⟩
  · exact config_nil w
  · exact config_any w g cap l hc hm hg hgood ha
/-- A slice that is written out. -/
theorem opts_built (w : World) (base : Nat) (l : List El) (hb : base ≤ w.heap.size) (hl : l.length ≤ maxLen) : Opts (w.alloc (.cells (l.map El.val).toArray 20)) base (.slice (some ⟨w.heap.size, 0, none⟩) l.length l.length) l :=
  ⟨by simp, .inr ⟨w.heap.size, l.length, (l.map El.val).toArray, rfl, hb, heap_alloc_new w _, Nat.le_refl _, hl, by simp, by simp [List.take_of_length_le]⟩⟩
theorem config_built (w : World) (l : List El) (hl : l.length ≤ maxLen) (hgood : ∀ u ∈ l, u.good) : Calls Try.prog 9 #[.slice (some ⟨w.heap.size, 0, none⟩) l.length l.length] (w.alloc (.cells (l.map El.val).toArray 20)) (Configs l (w.alloc (.cells (l.map El.val).toArray 20))) :=
  config_opts _ 0 _ l (opts_built w 0 l (Nat.zero_le _) hl) hgood
end Go.Proofs.Ytifogkacjfpipaa
