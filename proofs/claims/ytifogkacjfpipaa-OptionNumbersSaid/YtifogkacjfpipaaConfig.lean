/- The contract of Config. -/
import Derived.Test.YtifogkacjfpipaaChange
namespace Go.Proofs.Ytifogkacjfpipaa
open Go.RowKit
open Go.RuneMath
set_option linter.unusedVariables false

theorem elem46 : Try.prog.underlying 46 = some (.slice (Try.prog.elem 46)) := by kernel_rfl
theorem sizeElem46 (w : World) : (sizeOf (Try.prog.elem 46)).run Try.prog w = .ok 1 w := by kernel_rfl
theorem run_tail46 (b off len cap l : Nat) (h : l ≤ len) (w : World) :
    (Instr.slice 46 (.slice (some ⟨b, off, none⟩) len cap) (some (.int .i64 l)) none none).run Try.prog w = .ok (.slice (some ⟨b, if cap = l then off else off + l, none⟩) (len - l) (cap - l)) w := by
  rw [run_slice_l _ _ _ _ _ elem46 _ _ (by omega) (by omega), sizeElem46]
  simp only [Result.andThen, sliced, Nat.mul_one, Int.toNat_natCast]
  congr 2
  by_cases h1 : cap = l
  · simp [h1]
  · simp [h1, Addr.add]
def Configs (l : List El) (w : World) (e : Ending) (w' : World) : Prop := e = .returned (.tuple #[(cfgC l).val, .int .i64 (cfgE l)]) ∧ Below w.heap.size w w'
theorem configs_mk {l : List El} {x : Cf} {n : Int} {w w' : World} (h1 : cfgC l = x) (h2 : cfgE l = n) (hb : Below w.heap.size w w') : Configs l w (.returned (.tuple #[x.val, .int .i64 n])) w' := ⟨by rw [h1, h2], hb⟩
/-- Where the loop of Config stands: the rest of the list, what is left of it, the configuration. -/
structure Rest (l : List El) (w : World) (g cap K : Nat) (v : Value) (wr : World) (i n off c : Nat) (x : Cf) : Prop where
  v : v = .slice (some ⟨g, off, none⟩) n c
  sum : i + n = l.length
  le : n ≤ c
  top : c ≤ cap
  off : 0 < n → off = i
  conf : CfAt wr K x
  res : CfAt wr w.heap.size Cf.zero
  below : Below w.heap.size w wr
  run : run x (l.drop i) = run Cf.dflt l
def lenOf : Value → Nat
  | .slice _ n _ => n
  | _ => 0
theorem cfg_none {l : List El} (h : run Cf.dflt l = none) : cfgC l = Cf.zero ∧ cfgE l = 1 := by
  unfold cfgC cfgE
  rw [h]
  exact ⟨rfl, rfl⟩
theorem cfg_bad {l : List El} {x : Cf} (h : run Cf.dflt l = some x) (hv : x.valid = false) : cfgC l = Cf.zero ∧ cfgE l = 3 := by
  unfold cfgC cfgE
  rw [h]
  simp [hv]
theorem cfg_good {l : List El} {x : Cf} (h : run Cf.dflt l = some x) (hv : x.valid = true) : cfgC l = x ∧ cfgE l = 0 := by
  unfold cfgC cfgE
  rw [h]
  simp [hv]
theorem default_lit (w : World) : Calls Try.prog 19 #[] w fun e w' => e = .returned (.agg #[.int .i64 1024, .int .i64 128, .int .i64 4, .int .i64 1048576]) ∧ Below w.heap.size w w' := default_any w
theorem dflt_at (w : World) : CfAt (w.alloc (.cells #[.int .i64 1024, .int .i64 128, .int .i64 4, .int .i64 1048576] 27)) w.heap.size Cf.dflt := heap_alloc_new w _
theorem zero_at (w : World) : CfAt (w.alloc (.cells #[.int .i64 0, .int .i64 0, .int .i64 0, .int .i64 0] 27)) w.heap.size Cf.zero := heap_alloc_new w _
theorem rest_start {l : List El} {w w1 : World} {g cap N : Nat} (hN : N = l.length) (hl : N ≤ cap) (hs : w.heap.size + 1 ≤ w1.heap.size) (hb : Below (w.heap.size + 1) (w.alloc (.cells #[.int .i64 0, .int .i64 0, .int .i64 0, .int .i64 0] 27)) w1) :
    Rest l w g cap w1.heap.size (.slice (some ⟨g, 0, none⟩) N cap) (w1.alloc (.cells #[.int .i64 1024, .int .i64 128, .int .i64 4, .int .i64 1048576] 27)) 0 N 0 cap Cf.dflt :=
  ⟨rfl, by omega, hl, Nat.le_refl _, fun _ => rfl, dflt_at w1, ((zero_at w).below hb (by omega)).below ((Below.refl _ w1).alloc (Nat.le_refl _) _) (by omega),
    (((Below.refl _ w).alloc (Nat.le_refl _) _).trans (hb.mono (by omega))).alloc (by omega) _, rfl⟩
theorem run_stop {l : List El} {x : Cf} {i : Nat} (h : run x (l.drop i) = run Cf.dflt l) (hne : l.drop i ≠ []) (h0 : chN (l.drop i) = 0) : run Cf.dflt l = none := by
  rw [← h, run_step x hne, if_pos h0]
theorem run_on {l : List El} {x : Cf} {i m : Nat} (h : run x (l.drop i) = run Cf.dflt l) (hne : l.drop i ≠ []) (hm : m = chN (l.drop i)) (h0 : m ≠ 0) : run (chC x (l.drop i)) (l.drop (i + m)) = run Cf.dflt l := by
  subst hm
  rw [← h, run_step x hne, if_neg h0, List.drop_drop]
theorem rest_below {l : List El} {w wr w2 : World} {g cap K i n off c : Nat} {v : Value} {x : Cf} (h : Rest l w g cap K v wr i n off c x) (hs : w.heap.size + 1 ≤ K) (h2 : Below K wr w2) : Below w.heap.size w w2 := h.below.trans (h2.mono (by omega))
theorem any_zero {w : World} {g i : Nat} {l : List El} (h : AnysAt w g (0 + i) l) : AnysAt w g i l := by
  rw [Nat.zero_add] at h
  exact h
theorem rest_on {l : List El} {w w1 wr w2 : World} {g cap i n off c m : Nat} {x : Cf} (h : Rest l w g cap w1.heap.size (.slice (some ⟨g, off, none⟩) n c) wr i n off c x) (hs : w.heap.size + 1 ≤ w1.heap.size) (hn : 0 < n) (hm : m = chN (l.drop i)) (hml : m ≤ n) (h0 : m ≠ 0)
    (h1 : CfAt w2 w1.heap.size (chC x (l.drop i))) (h2 : Below w1.heap.size wr w2) : Rest l w g cap w1.heap.size (.slice (some ⟨g, if c = m then off else off + m, none⟩) (n - m) (c - m)) w2 (i + m) (n - m) (if c = m then off else off + m) (c - m) (chC x (l.drop i)) :=
  ⟨rfl, by have := h.sum; omega, by have := h.le; omega, by have := h.top; omega, fun hp => by have := h.le; have := h.off hn; rw [if_neg (by omega)]; omega, h1, h.res.below h2 (by omega), rest_below h hs h2,
    run_on h.run (by rw [List.ne_nil_iff_length_pos, List.length_drop]; have := h.sum; omega) hm h0⟩
/-- A configuration written over another one. -/
theorem fill_at {w : World} {k : Nat} {x : Cf} (h : CfAt w k x) (y : Cf) :
    CfAt ((((w.setCell ⟨k, 0, none⟩ (.int .i64 y.a)).setCell ⟨k, 1, none⟩ (.int .i64 y.b)).setCell ⟨k, 2, none⟩ (.int .i64 y.c)).setCell ⟨k, 3, none⟩ (.int .i64 y.d)) k y ∧
    Below k w ((((w.setCell ⟨k, 0, none⟩ (.int .i64 y.a)).setCell ⟨k, 1, none⟩ (.int .i64 y.b)).setCell ⟨k, 2, none⟩ (.int .i64 y.c)).setCell ⟨k, 3, none⟩ (.int .i64 y.d)) :=
  ⟨(((h.put (j := 0) (by omega) y.a).put (j := 1) (by omega) y.b).put (j := 2) (by omega) y.c).put (j := 3) (by omega) y.d,
    ((((Below.refl k w).setCell (p := ⟨k, 0, none⟩) (Nat.le_refl _) (.int .i64 y.a)).setCell (p := ⟨k, 1, none⟩) (Nat.le_refl _) (.int .i64 y.b)).setCell (p := ⟨k, 2, none⟩) (Nat.le_refl _) (.int .i64 y.c)).setCell (p := ⟨k, 3, none⟩) (Nat.le_refl _) (.int .i64 y.d)⟩
theorem results9 {tmps : Array Value} {B : Nat} {W : World} {x : Cf} (h : CfAt W B x) (ht : tmps.getD 2 undef = .pointer (some ⟨B, 0, none⟩)) : (results Try.f9 tmps).run Try.prog W = .ok (.tuple #[x.val, tmps.getD 3 undef]) W := by
  have c0 := h.cell0
  have c1 := h.cell1
  have c2 := h.cell2
  have c3 := h.cell3
  rw [results_cell_tmp (p := 2) (u := 3) (ty := 27) Try.results9, ht]
  simp [go_sem, c0, c1, c2, c3, Cf.val]
set_option maxHeartbeats 1000000 in
theorem config_any (w : World) (g cap : Nat) (l : List El) (hl : l.length ≤ cap) (hm : cap ≤ maxLen) (hg : g < w.heap.size) (hgood : ∀ v ∈ l, v.good) (hc : AnysAt w g 0 l) : Calls Try.prog 9 #[.slice (some ⟨g, 0, none⟩) l.length cap] w (Configs l w) := by
  have HC := Lib.hid hc
  have HG := Lib.hid hgood
  have HL := Lib.hid hl
  have HM := Lib.hid hm
  have Hg := Lib.hid hg
  clear hc hgood hl hm hg
  obtain ⟨N, hN⟩ : ∃ N, N = l.length := ⟨_, rfl⟩
  rw [← hN] at HL ⊢
  have HN := Lib.hid hN
  clear hN
  go_enter Try.func9, Try.ntmps9
  go_wp2_with fail
  refine (default_lit _).mono ?_
  rintro e w1 ⟨rfl, hb⟩
  have hs := hb.size
  rw [alloc_size] at hs hb
  have HS := Lib.hid hs
  have HB := Lib.hid hb
  clear hs hb
  go_wp2
  go_loopw [0, 5] (fun v k wr => ∃ (i n off c : Nat) (x : Cf), Rest l w g cap w1.heap.size v wr i n off c x) (fun v _ _ => lenOf v)
  case atStart => exact ⟨0, N, 0, cap, Cf.dflt, rest_start HN.out HL.out HS.out HB.out⟩
  case round =>
    obtain ⟨i, n, off, c, x, hR⟩ := hrel
    obtain rfl := hR.v
    have HR := Lib.hid hR
    clear hR
    by_cases hn : 0 < n
    · have hno := HR.out.off hn
      have hsum := HR.out.sum
      obtain ⟨m, hm⟩ : ∃ m, m = chN (l.drop i) := ⟨_, rfl⟩
      have hml : m ≤ n := by
        have := chN_le (l.drop i)
        rw [List.length_drop] at this
        omega
      have C0 := change_any wr w1.heap.size g off n c x (l.drop i) HR.out.conf (by rw [List.length_drop]; omega) hn (fun v hv => HG.out v (List.mem_of_mem_drop hv)) (by rw [hno]; exact any_zero <| (HC.out.below HR.out.below Hg.out).drop i)
      unfold Changes at C0
      rw [← hm] at C0
      have C := Lib.hid C0
      have HMM := Lib.hid hm
      have HML := Lib.hid hml
      have HO := Lib.hid hno
      have HSum := Lib.hid hsum
      clear C0 hm hml hno hsum
      have hnI : (0 : Int) < (n : Int) := by omega
      by_cases hz : m = 0
      · subst hz
        have hnone := cfg_none (run_stop HR.out.run (by rw [List.ne_nil_iff_length_pos, List.length_drop]; have := HSum.out; omega) HMM.out.symm)
        have HF := Lib.hid hnone
        clear hnone
        go_wp2_with fail
        refine C.out.mono ?_
        rintro e w2 ⟨rfl, h1, h2⟩
        have hb2 := rest_below HR.out HS.out h2
        have hz2 := HR.out.res.below h2 (by have := HS.out; omega)
        have z0 := hz2.cell0
        have z1 := hz2.cell1
        have z2 := hz2.cell2
        have z3 := hz2.cell3
        have y0 := hz2.free 0
        have y1 := hz2.free 1
        have y2 := hz2.free 2
        have y3 := hz2.free 3
        have HB2 := Lib.hid hb2
        have HZ := Lib.hid hz2
        clear h1 h2 hb2 hz2
        go_wp2
        have hput := fill_at HZ.out Cf.zero
        exact bodyPost_ret (v := .tuple #[Cf.zero.val, .int .i64 1]) (results9 hput.1 rfl) rfl (configs_mk HF.out.1 HF.out.2 (HB2.out.trans (hput.2.mono (Nat.le_refl _))))
      · have hmI : m ≠ 0 := hz
        have hmi : ((m : Int) == 0) = false := by simp [hz]
        have ht := fun W => run_tail46 g off n c m HML.out W
        go_wp2_with fail
        refine C.out.mono ?_
        rintro e w2 ⟨rfl, h1, h2⟩
        have H1 := Lib.hid h1
        have H2 := Lib.hid h2
        clear h1 h2
        go_wp2
        exact ⟨⟨i + m, n - m, _, c - m, _, rest_on HR.out HS.out hn HMM.out HML.out hz H1.out H2.out⟩, by simp only [lenOf]; omega⟩
    · have hi : l.drop i = [] := List.drop_eq_nil_of_le (by have := HR.out.sum; omega)
      have hrun := HR.out.run
      rw [hi, run_nil] at hrun
      have HX := Lib.hid hrun.symm
      obtain ⟨b, hb⟩ : ∃ b, b = x.valid := ⟨_, rfl⟩
      have V0 := fun W => valid_any W x
      unfold Valids at V0
      rw [← hb] at V0
      unfold Cf.val at V0
      have V := Lib.hid V0
      have HV := Lib.hid hb
      have c0 := HR.out.conf.cell0
      have c1 := HR.out.conf.cell1
      have c2 := HR.out.conf.cell2
      have c3 := HR.out.conf.cell3
      clear V0 hb hrun hi
      go_wp2_with fail
      refine (V.out _).mono ?_
      rintro e w2 ⟨rfl, h2⟩
      have hlt := HR.out.res.lt
      have hltK := HR.out.conf.lt
      have hb2 := HR.out.below.trans (h2.mono (by omega))
      have hz2 := HR.out.res.below h2 (by omega)
      have hc2 := HR.out.conf.below h2 (by omega)
      have z0 := hz2.cell0
      have z1 := hz2.cell1
      have z2 := hz2.cell2
      have z3 := hz2.cell3
      have y0 := hz2.free 0
      have y1 := hz2.free 1
      have y2 := hz2.free 2
      have y3 := hz2.free 3
      have x0 := hc2.cell0
      have x1 := hc2.cell1
      have x2 := hc2.cell2
      have x3 := hc2.cell3
      have HB2 := Lib.hid hb2
      have HZ := Lib.hid hz2
      clear h2 hb2 hz2 hc2 c0 c1 c2 c3 hlt hltK
      cases b
      · have HF := Lib.hid (cfg_bad HX.out HV.out.symm)
        go_wp2
        have hput := fill_at HZ.out Cf.zero
        exact bodyPost_ret (v := .tuple #[Cf.zero.val, .int .i64 3]) (results9 hput.1 rfl) rfl (configs_mk HF.out.1 HF.out.2 (HB2.out.trans hput.2))
      · have HF := Lib.hid (cfg_good HX.out HV.out.symm)
        go_wp2
        have hput := fill_at HZ.out x
        exact bodyPost_ret (v := .tuple #[x.val, .int .i64 0]) (results9 hput.1 rfl) rfl (configs_mk HF.out.1 HF.out.2 (HB2.out.trans hput.2))
end Go.Proofs.Ytifogkacjfpipaa
