/- The contract of 'configs': what Config makes of configurations, then of words and numbers, is what the statements reckon. -/
import Derived.Test.YtifogkacjfpipaaValues
import Derived.Test.YtifogkacjfpipaaGrow
import Derived.Test.YtifogkacjfpipaaLawSet
namespace Go.Proofs.Ytifogkacjfpipaa
open Go.RowKit
open Go.RuneMath
set_option linter.unusedVariables false

/-- Slices that came in: what their cells hold. -/
def StrsAt (w : World) (ao : Option Addr) (l : List ByteArray) : Prop := ∀ (i : Nat) s, l[i]? = some s → ∃ b off, ao = some ⟨b, off, none⟩ ∧ b < w.heap.size ∧ w.cell? ⟨b, off + i, none⟩ = some (.string s)
def NumsAt (w : World) (ao : Option Addr) (l : List Int) : Prop := ∀ (i : Nat) n, l[i]? = some n → ∃ b off, ao = some ⟨b, off, none⟩ ∧ b < w.heap.size ∧ w.cell? ⟨b, off + i, none⟩ = some (.int .i64 n)
def ConfsAt (w : World) (ao : Option Addr) (l : List Cf) : Prop := ∀ (i : Nat) c, l[i]? = some c → ∃ b off, ao = some ⟨b, off, none⟩ ∧ b < w.heap.size ∧
  w.cell? ⟨b, off + i * 4, none⟩ = some (.int .i64 c.a) ∧ w.cell? ⟨b, off + i * 4 + 1, none⟩ = some (.int .i64 c.b) ∧ w.cell? ⟨b, off + i * 4 + 2, none⟩ = some (.int .i64 c.c) ∧ w.cell? ⟨b, off + i * 4 + 3, none⟩ = some (.int .i64 c.d)
theorem take_snoc {α : Type} {l : List α} {k : Nat} {x : α} (h : l[k]? = some x) : l.take (k + 1) = l.take k ++ [x] := by
  rw [List.take_add_one, h]
  rfl
theorem Opts.alloc {w : World} {base : Nat} {v : Value} {l : List El} (h : Opts w base v l) (o : Obj) : Opts (w.alloc o) base v l := World.ownsRow.alloc h o
theorem below_fill {w0 W : World} {B k : Nat} {p q r s : Value} (hk : B ≤ k) (h : Below B w0 W) : Below B w0 ((((W.setCell ⟨k, 0, none⟩ p).setCell ⟨k, 1, none⟩ q).setCell ⟨k, 2, none⟩ r).setCell ⟨k, 3, none⟩ s) :=
  (((h.setCell (p := ⟨k, 0, none⟩) hk p).setCell (p := ⟨k, 1, none⟩) hk q).setCell (p := ⟨k, 2, none⟩) hk r).setCell (p := ⟨k, 3, none⟩) hk s
theorem CfAt.all {w : World} {k : Nat} {x : Cf} (h : CfAt w k x) : w.cell? ⟨k, 0, none⟩ = some (.int .i64 x.a) ∧ w.cell? ⟨k, 1, none⟩ = some (.int .i64 x.b) ∧ w.cell? ⟨k, 2, none⟩ = some (.int .i64 x.c) ∧ w.cell? ⟨k, 3, none⟩ = some (.int .i64 x.d) ∧
    w.frozen? ⟨k, 0, none⟩ = false ∧ w.frozen? ⟨k, 1, none⟩ = false ∧ w.frozen? ⟨k, 2, none⟩ = false ∧ w.frozen? ⟨k, 3, none⟩ = false := ⟨h.cell0, h.cell1, h.cell2, h.cell3, h.free 0, h.free 1, h.free 2, h.free 3⟩
/-- Where the first loop stands. -/
structure One (F : List Cf) (w : World) (v : Value) (wr : World) (k : Nat) : Prop where
  two : k ≤ 2
  le : k ≤ F.length
  own : Opts wr (w.heap.size + 1) v (opts (F.take k) [])
  conf : CfAt wr w.heap.size (lastC Cf.dflt (F.take k))
  below : Below w.heap.size w wr
/-- Where the second loop stands. -/
structure Two (G : List Cf) (D : Cf) (N : List ByteArray) (M : List Int) (w : World) (v : Value) (wr : World) (i : Nat) : Prop where
  eight : i ≤ 8
  leN : i ≤ N.length
  leM : i ≤ M.length
  own : Opts wr (w.heap.size + 1) v (opts G ((N.zip M).take i))
  conf : CfAt wr w.heap.size (refC D ((N.zip M).take i))
  below : Below w.heap.size w wr
theorem zip_left {N : List ByteArray} {M : List Int} {i : Nat} {q : ByteArray × Int} (h : q ∈ (N.zip M).take i) : q.1 ∈ N := (List.of_mem_zip (List.mem_of_mem_take (show (q.1, q.2) ∈ (N.zip M).take i from h))).1
theorem opts_good (f : List Cf) (p : Words) (h : ∀ q ∈ p, q.1.size ≤ 1073741824) : ∀ u ∈ opts f p, u.good := by
  intro u hu
  unfold opts els at hu
  rcases List.mem_append.1 hu with hu | hu
  · obtain ⟨c, _, rfl⟩ := List.mem_map.1 hu
    exact ⟨trivial, trivial⟩
  · obtain ⟨q, hq, hu⟩ := List.mem_flatMap.1 hu
    simp only [List.mem_cons, List.not_mem_nil, or_false] at hu
    have hs := h q hq
    rcases hu with rfl | rfl
    · exact ⟨Nat.le_trans hs (by omega), hs⟩
    · exact ⟨trivial, trivial⟩
theorem eq_conf (P : Cf) (W : World) : (binOp .eql 27 (.agg #[.int .i64 P.a, .int .i64 P.b, .int .i64 P.c, .int .i64 P.d]) (.agg #[.int .i64 P.a, .int .i64 P.b, .int .i64 P.c, .int .i64 P.d])).run Try.prog W = .ok (.bool true) W := by
  rw [run_eql_struct]
  simp [go_sem, Op.eqFields]
theorem fits_lit (w : World) (x : Cf) : Calls Try.prog 18 #[.agg #[.int .i64 x.a, .int .i64 x.b, .int .i64 x.c, .int .i64 x.d]] w fun e w' => e = .returned (.bool x.valid) ∧ Below w.heap.size w w' := fits_any w x
theorem CfAt.on {w w' : World} {k : Nat} {x : Cf} {o : Obj} (h : CfAt w k x) (hb : Below (w.alloc o).heap.size (w.alloc o) w') : CfAt w' k x :=
  (h.below ((Below.refl _ w).alloc (Nat.le_refl _) o) h.lt).below hb (by have := h.lt; rw [alloc_size]; omega)
theorem conf_got {w w' : World} {x : Cf} (hb : Below (w.alloc (.cells #[.int .i64 x.a, .int .i64 x.b, .int .i64 x.c, .int .i64 x.d] 27)).heap.size (w.alloc (.cells #[.int .i64 x.a, .int .i64 x.b, .int .i64 x.c, .int .i64 x.d] 27)) w') : CfAt w' w.heap.size x := (conf_at w x).below hb (conf_at w x).lt
theorem zero_got {w w' : World} (hb : Below (w.alloc (.cells #[.int .i64 0, .int .i64 0, .int .i64 0, .int .i64 0] 27)).heap.size (w.alloc (.cells #[.int .i64 0, .int .i64 0, .int .i64 0, .int .i64 0] 27)) w') : CfAt w' w.heap.size Cf.zero := (zero_at w).below hb (zero_at w).lt
theorem Opts.drew {w : World} {base : Nat} {v : Value} {l : List El} (h : Opts w base v l) : Opts w.drew base v l := h
theorem two_cells (W : World) (K : Nat) (hK : K = W.heap.size) (x y : El) (u v : Value) (hu : x.val = u) (hv : y.val = v) : ∀ (j : Nat) e, [x, y][j]? = some e → ((W.alloc (.cells #[u, v] 20)).drew).cell? ((⟨K, 0, none⟩ : Addr).add j) = some e.val := by
  intro j e hj
  subst hu
  subst hv
  subst hK
  have a : ∀ j, ((⟨W.heap.size, 0, none⟩ : Addr).add j) = ⟨W.heap.size, j, none⟩ := by
    intro j
    by_cases h : j = 0
    · subst h; simp [Addr.add]
    · simp [Addr.add, h]
  rw [a]
  show (W.alloc _).cell? _ = _
  match j, hj with
  | 0, hj =>
    obtain rfl : x = e := by simpa using hj
    rw [cell_of_row _ _ 0 _ _ _ (heap_alloc_new W _)]
    rfl
  | 1, hj =>
    obtain rfl : y = e := by simpa using hj
    rw [cell_of_row _ _ 1 _ _ _ (heap_alloc_new W _)]
    rfl
theorem lset_lit (w : World) (x : Cf) (s : ByteArray) (n : Int) (hs : s.size ≤ 1073741824) : Calls Try.prog 17 #[.agg #[.int .i64 x.a, .int .i64 x.b, .int .i64 x.c, .int .i64 x.d], .string s, .int .i64 n] w fun e w' =>
    e = .returned (.tuple #[.agg #[.int .i64 (x.put (word s) (clamp n)).a, .int .i64 (x.put (word s) (clamp n)).b, .int .i64 (x.put (word s) (clamp n)).c, .int .i64 (x.put (word s) (clamp n)).d], .bool (decide (word s < 4))]) ∧ Below w.heap.size w w' := lset_any w x s n hs
theorem keep6 {w0 W : World} {a b c d e f : Addr} {p q r s t u : Value} (h : Below w0.heap.size w0 W) (h1 : w0.cell? a = some p) (h2 : w0.cell? b = some q) (h3 : w0.cell? c = some r) (h4 : w0.cell? d = some s) (h5 : w0.cell? e = some t) (h6 : w0.cell? f = some u) :
    Below w0.heap.size w0 W ∧ W.cell? a = some p ∧ W.cell? b = some q ∧ W.cell? c = some r ∧ W.cell? d = some s ∧ W.cell? e = some t ∧ W.cell? f = some u := ⟨h, on h h1, on h h2, on h h3, on h h4, on h h5, on h h6⟩
theorem zc0 {V W2 : World} {K : Nat} (hK : K = V.heap.size) (hb : Below ((V.alloc (.cells #[.int .i64 0, .int .i64 0, .int .i64 0, .int .i64 0] 27)).drew).heap.size ((V.alloc (.cells #[.int .i64 0, .int .i64 0, .int .i64 0, .int .i64 0] 27)).drew) W2) : CfAt W2 K Cf.zero := by
  subst hK
  have h0 : CfAt ((V.alloc (.cells #[.int .i64 0, .int .i64 0, .int .i64 0, .int .i64 0] 27)).drew) V.heap.size Cf.zero := zero_at V
  exact h0.below hb h0.lt
theorem opts_snoc (f : List Cf) (p : Words) (x : ByteArray × Int) : opts f (p ++ [x]) = opts f p ++ [.str x.1, .i64 x.2] := by
  unfold opts
  rw [els_snoc, List.append_assoc]
theorem one_cell (W : World) (K : Nat) (hK : K = W.heap.size) (x : El) (u : Value) (hu : x.val = u) : ∀ (j : Nat) y, [x][j]? = some y → (W.alloc (.cells #[u] 20)).cell? ((⟨K, 0, none⟩ : Addr).add j) = some y.val := by
  intro j y hj
  match j, hj with
  | 0, hj =>
    obtain rfl : x = y := by simpa using hj
    subst hu
    subst hK
    have e : ((⟨W.heap.size, 0, none⟩ : Addr).add 0) = ⟨W.heap.size, 0, none⟩ := by simp [Addr.add]
    rw [e, cell_of_row _ _ 0 _ _ _ (heap_alloc_new W _)]
    rfl
set_option maxHeartbeats 4000000 in
set_option maxRecDepth 100000 in
theorem configs_any (w : World) (fa na ma : Option Addr) (fc nc mc : Nat) (F : List Cf) (N : List ByteArray) (M : List Int) (hF : ConfsAt w fa F) (hN : StrsAt w na N) (hM : NumsAt w ma M) (hg : ∀ s ∈ N, s.size ≤ 1073741824) :
    Calls Try.prog 8 #[.slice fa F.length fc, .slice na N.length nc, .slice ma M.length mc] w fun e w' => e = .returned (.bool true) ∧ Below w.heap.size w w' := by
  have HF := Lib.hid hF
  have HN := Lib.hid hN
  have HM := Lib.hid hM
  have HG := Lib.hid hg
  clear hF hN hM hg
  obtain ⟨fl, hfl⟩ : ∃ fl, F.length = fl := ⟨_, rfl⟩
  obtain ⟨nl, hnl⟩ : ∃ nl, N.length = nl := ⟨_, rfl⟩
  obtain ⟨ml, hml⟩ : ∃ ml, M.length = ml := ⟨_, rfl⟩
  rw [hfl, hnl, hml]
  have HFL := Lib.hid hfl
  have HNL := Lib.hid hnl
  have HML := Lib.hid hml
  clear hfl hnl hml
  go_enter Try.func8, Try.ntmps8
  go_wp2
  go_loopw [9, 10] (fun v i wr => ∃ k : Nat, i = .int .i64 k ∧ One F w v wr k) (fun _ i _ => 2 - (intOf i).toNat)
  case atStart => exact ⟨0, rfl, by omega, by omega, opts_nil _ _, dflt_at w, (Below.refl _ w).alloc (Nat.le_refl _) _⟩
  case round =>
    obtain ⟨k, rfl, hR⟩ := hrel
    have HR := Lib.hid hR
    clear hR
    have hk2 := HR.out.two
    by_cases hk : k < fl ∧ k < 2
    · obtain ⟨hkl, hk2'⟩ := hk
      obtain ⟨c, hc⟩ : ∃ c, F[k]? = some c := ⟨_, List.getElem?_eq_getElem (by rw [HFL.out]; exact hkl)⟩
      obtain ⟨b, off, rfl, hbs, d0, d1, d2, d3⟩ := HF.out k c hc
      have g0 := (HR.out.below.cell (p := ⟨b, off + k * 4, none⟩) hbs).trans d0
      have g1 := (HR.out.below.cell (p := ⟨b, off + k * 4 + 1, none⟩) hbs).trans d1
      have g2 := (HR.out.below.cell (p := ⟨b, off + k * 4 + 2, none⟩) hbs).trans d2
      have g3 := (HR.out.below.cell (p := ⟨b, off + k * 4 + 3, none⟩) hbs).trans d3
      have HC := Lib.hid hc
      have HD := Lib.hid (show _ ∧ _ ∧ _ ∧ _ from ⟨d0, d1, d2, d3⟩)
      have hkI : (k : Int) < (fl : Int) := by omega
      have hkI2 : (k : Int) < 2 := by omega
      clear d0 d1 d2 d3 hc
      have hbase : w.heap.size + 1 ≤ (wr.alloc (.cells #[(El.conf c).val] 20)).heap.size := by
        have := HR.out.conf.lt
        rw [alloc_size]
        omega
      have hcells := one_cell wr wr.heap.size rfl (El.conf c) _ rfl
      have hlen : (opts (F.take k) []).length + [El.conf c].length ≤ 1000 := by
        have e : opts (F.take k) [] = (F.take k).map El.conf := by simp [opts, els]
        rw [e, List.length_map, List.length_take]
        simp
        omega
      have hown := HR.out.own.alloc (.cells #[(El.conf c).val] 20)
      have HBase := Lib.hid hbase
      have HCells := Lib.hid hcells
      have HLen := Lib.hid hlen
      have HOwn := Lib.hid hown
      clear hbase hcells hlen hown
      go_wp2_with (at_builtin; refine list_opts (by rfl) (.tmp 27) (.tmp 33) rfl (w.heap.size + 1) (opts (F.take k) []) [El.conf c] _ rfl HOwn.out HBase.out ⟨wr.heap.size, 0, none⟩ 1 1 rfl rfl HCells.out HLen.out ?_)
      intro v' w1 ho1 hg1
      have hb1 : Below w.heap.size w w1 := Below.opts (HR.out.below.alloc HR.out.below.size _) HOwn.out (by omega) (by have := HBase.out; omega) hg1
      have hx1 : CfAt w1 w.heap.size (lastC Cf.dflt (F.take k)) := (HR.out.conf.below ((Below.refl _ _).alloc (Nat.le_refl _) _) HR.out.conf.lt).grown HOwn.out (by omega) hg1
      have q0 := (hb1.cell (p := ⟨b, off + k * 4, none⟩) hbs).trans HD.out.1
      have q1 := (hb1.cell (p := ⟨b, off + k * 4 + 1, none⟩) hbs).trans HD.out.2.1
      have q2 := (hb1.cell (p := ⟨b, off + k * 4 + 2, none⟩) hbs).trans HD.out.2.2.1
      have q3 := (hb1.cell (p := ⟨b, off + k * 4 + 3, none⟩) hbs).trans HD.out.2.2.2
      have x8 := hx1.all
      have HB1 := Lib.hid hb1
      have HX1 := Lib.hid hx1
      have HO1 := Lib.hid ho1
      clear hb1 hx1 ho1 hg1 g0 g1 g2 g3
      go_wp2
      go_roundw
      case rel =>
        have e := take_snoc HC.out
        have e2 : opts (F.take (k + 1)) [] = opts (F.take k) [] ++ [El.conf c] := by rw [e]; simp [opts, els]
        refine ⟨k + 1, by go_num, by omega, by rw [HFL.out]; omega, ?_, ?_, below_fill (Nat.le_refl _) HB1.out⟩
        · rw [e2]
          exact HO1.out.fill (by omega)
        · rw [e, lastC_snoc]
          exact (fill_at HX1.out c).1
      case measure => simp [intOf]; omega
    · obtain ⟨G, hG⟩ : ∃ G, G = F.take k := ⟨_, rfl⟩
      have hGl : G.length ≤ 2 := by rw [hG, List.length_take]; omega
      have hown := HR.out.own
      have hconf := HR.out.conf
      have hbel := HR.out.below
      rw [← hG] at hown hconf
      obtain ⟨w5, hw5⟩ : ∃ w5, w5 = wr := ⟨_, rfl⟩
      subst hw5
      obtain ⟨D, hD⟩ : ∃ D, D = lastC Cf.dflt G := ⟨_, rfl⟩
      rw [← hD] at hconf
      have HOwn := Lib.hid hown
      have HConf := Lib.hid hconf
      have HBel := Lib.hid hbel
      have HGl := Lib.hid hGl
      have HD := Lib.hid hD
      clear hG hGl hown hconf hbel HR hD
      have hway : (fl : Int) ≤ (k : Int) ∨ ((k : Int) < (fl : Int) ∧ (2 : Int) ≤ (k : Int)) := by omega
      clear hk hk2
      rcases hway with hk1 | ⟨hk1, hk2⟩
      all_goals
        go_wp2
        go_loopw [8, 9, 11, 12, 13] (fun s8 s9 s11 s12 s13 wr => ∃ i : Nat, s11 = .int .i64 i ∧ s8 = .bool (refO ((N.zip M).take i)) ∧ Two G D N M w s9 wr i) (fun _ _ i _ _ _ => 8 - (intOf i).toNat)
        case atStart => exact ⟨0, rfl, rfl, by omega, by omega, by omega, HOwn.out, HConf.out, HBel.out⟩
        case round =>
          obtain ⟨i, rfl, rfl, hR⟩ := hrel
          have HR := Lib.hid hR
          clear hR
          by_cases hi : i < nl ∧ i < ml ∧ i < 8
          · obtain ⟨hi1, hi2, hi3⟩ := hi
            obtain ⟨s, hs⟩ : ∃ s, N[i]? = some s := ⟨_, List.getElem?_eq_getElem (by rw [HNL.out]; exact hi1)⟩
            obtain ⟨n, hn⟩ : ∃ n, M[i]? = some n := ⟨_, List.getElem?_eq_getElem (by rw [HML.out]; exact hi2)⟩
            obtain ⟨nb, noff, rfl, hnb, dn⟩ := HN.out i s hs
            obtain ⟨mb, moff, rfl, hmb, dm⟩ := HM.out i n hn
            have hz : (N.zip M)[i]? = some (s, n) := by rw [List.getElem?_zip_eq_some]; exact ⟨hs, hn⟩
            have hsz := HG.out s (List.mem_of_getElem? hs)
            have hown := (HR.out.own.alloc (.cells #[.iface 9 (.string s), .iface 2 (.int .i64 n)] 20)).drew
            have hbase : w.heap.size + 1 ≤ ((wr.alloc (.cells #[.iface 9 (.string s), .iface 2 (.int .i64 n)] 20)).drew).heap.size := by
              have := HR.out.conf.lt
              show _ ≤ (wr.alloc _).heap.size
              rw [alloc_size]
              omega
            have hcells := two_cells wr wr.heap.size rfl (El.str s) (El.i64 n) _ _ rfl rfl
            obtain ⟨Z, hZ⟩ : ∃ Z, Z = (N.zip M).take i := ⟨_, rfl⟩
            have hlen : (opts G Z).length + [El.str s, El.i64 n].length ≤ 1000 := by
              unfold opts
              rw [List.length_append, List.length_map, els_len, hZ, List.length_take]
              have := HGl.out
              simp
              omega
            have hconf := HR.out.conf
            have hbel := HR.out.below
            rw [← hZ] at hown hconf
            rw [← hZ]
            have HOwn2 := Lib.hid hown
            have HBase := Lib.hid hbase
            have HCells := Lib.hid hcells
            have HLen := Lib.hid hlen
            have HConf2 := Lib.hid hconf
            have HBel2 := Lib.hid hbel
            have HZ := Lib.hid hZ
            have HZn := Lib.hid hz
            have HSz := Lib.hid hsz
            have HDn := Lib.hid dn
            have HDm := Lib.hid dm
            have i1 : (i : Int) < (nl : Int) := by omega
            have i2 : (i : Int) < (ml : Int) := by omega
            have i3 : (i : Int) < 8 := by omega
            have i4 : (0 : Int) ≤ (i : Int) := by omega
            have hT0 : wr.drew.cell? ⟨nb, noff + i, none⟩ = some (.string s) ∧ wr.drew.cell? ⟨mb, moff + i, none⟩ = some (.int .i64 n) := ⟨(hbel.cell (p := ⟨nb, noff + i, none⟩) hnb).trans dn, (hbel.cell (p := ⟨mb, moff + i, none⟩) hmb).trans dm⟩
            have hT1 : ((wr.alloc (.cells #[.iface 9 (.string s), .iface 2 (.int .i64 n)] 20)).drew).cell? ⟨nb, noff + i, none⟩ = some (.string s) ∧ ((wr.alloc (.cells #[.iface 9 (.string s), .iface 2 (.int .i64 n)] 20)).drew).cell? ⟨mb, moff + i, none⟩ = some (.int .i64 n) := ⟨((hbel.alloc hbel.size _).cell (p := ⟨nb, noff + i, none⟩) hnb).trans dn, ((hbel.alloc hbel.size _).cell (p := ⟨mb, moff + i, none⟩) hmb).trans dm⟩
            clear hown hbase hcells hlen hconf hbel hZ hz hsz dn dm hs hn HR
            go_wp2
            go_region_held3 (fun W => W.cell? ⟨nb, noff + i, none⟩ = some (.string s) ∧ W.cell? ⟨mb, moff + i, none⟩ = some (.int .i64 n))
              (first | exact hT2 | exact hT0 | exact hT1)
              (first | (refine held_opts (by rfl) (.tmp 55) (.tmp 66) rfl (w.heap.size + 1) (opts G Z) [El.str s, El.i64 n] _ rfl HOwn2.out HBase.out ⟨wr.heap.size, 0, none⟩ 2 2 rfl rfl HCells.out HLen.out ?_; intro v' w1 ho1 hg1; have hb1 : Below w.heap.size w w1 := Below.opts (B := w.heap.size) ((HBel2.out.alloc HBel2.out.size _).drew) HOwn2.out (Nat.le_succ _) (Nat.le_trans (Nat.le_succ _) HBase.out) hg1; have hT2 := And.intro ((hb1.cell (p := ⟨nb, noff + i, none⟩) hnb).trans HDn.out) ((hb1.cell (p := ⟨mb, moff + i, none⟩) hmb).trans HDm.out)))
            obtain ⟨X, hX⟩ : ∃ X, X = refC D Z := ⟨_, rfl⟩
            have hx1 : CfAt w1 w.heap.size X := by
              rw [hX]
              have h0 : CfAt (wr.alloc (.cells #[.iface 9 (.string s), .iface 2 (.int .i64 n)] 20)) w.heap.size (refC D Z) := HConf2.out.below ((Below.refl _ wr).alloc (Nat.le_refl _) _) HConf2.out.lt
              have h1 : CfAt ((wr.alloc (.cells #[.iface 9 (.string s), .iface 2 (.int .i64 n)] 20)).drew) w.heap.size (refC D Z) := h0
              exact h1.grown HOwn2.out (Nat.lt_succ_self _) hg1
            obtain ⟨Y, hY⟩ : ∃ Y, X.put (word s) (clamp n) = Y := ⟨_, rfl⟩
            obtain ⟨d, hd⟩ : ∃ d, decide (word s < 4) = d := ⟨_, rfl⟩
            have L0 := fun W => lset_lit W X s n HSz.out
            rw [hY, hd] at L0
            have L := Lib.hid L0
            have HX := Lib.hid hX
            have HY := Lib.hid hY
            have Hd := Lib.hid hd
            have HB1 := Lib.hid hb1
            have HO1 := Lib.hid ho1
            have HX1 := Lib.hid hx1
            have k0 := hT2.1
            have k1 := hT2.2
            have k2 := hx1.cell0
            have k3 := hx1.cell1
            have k4 := hx1.cell2
            have k5 := hx1.cell3
            have hS0 := keep6 ((Below.refl w1.heap.size w1).drew) k0 k1 k2 k3 k4 k5
            have hS1 := fun o : Obj => keep6 (((Below.refl w1.heap.size w1).alloc (Nat.le_refl _) o).drew) k0 k1 k2 k3 k4 k5
            clear L0 hX hY hd hb1 ho1 hx1 hg1 hT0 hT1 hT2
            go_wp2
            go_region_held3 (fun W => Below w1.heap.size w1 W ∧ W.cell? ⟨nb, noff + i, none⟩ = some (.string s) ∧ W.cell? ⟨mb, moff + i, none⟩ = some (.int .i64 n) ∧ W.cell? ⟨w.heap.size, 0, none⟩ = some (.int .i64 X.a) ∧ W.cell? ⟨w.heap.size, 1, none⟩ = some (.int .i64 X.b) ∧ W.cell? ⟨w.heap.size, 2, none⟩ = some (.int .i64 X.c) ∧ W.cell? ⟨w.heap.size, 3, none⟩ = some (.int .i64 X.d))
              (first | exact hS0 | exact hS1 _ | exact keep6 hSc k0 k1 k2 k3 k4 k5 | exact keep6 (hSc.alloc hSc.size _) k0 k1 k2 k3 k4 k5 | exact keep6 (below_fill (by simp) hSc) k0 k1 k2 k3 k4 k5)
              (first | (go_at_call 17; refine (L.out _).mono ?_; rintro e w2 ⟨rfl, hb⟩; have hSc := (And.left ‹Below w1.heap.size w1 _ ∧ _›).trans (hb.mono (Below.size (And.left ‹Below w1.heap.size w1 _ ∧ _›))); (first | have hzc := zc0 (K := w1.heap.size) (by simp) hb | skip); (try have hzf := hzc.all)))
            all_goals
              first
                | (have hP := (fill_at hzc Y).1
                   have hB3 := below_fill (p := .int .i64 Y.a) (q := .int .i64 Y.b) (r := .int .i64 Y.c) (s := .int .i64 Y.d) (Nat.le_refl w1.heap.size) hSc
                   obtain ⟨w3, hw3⟩ : ∃ w3, w3 = (((w2.setCell ⟨w1.heap.size, 0, none⟩ (.int .i64 Y.a)).setCell ⟨w1.heap.size, 1, none⟩ (.int .i64 Y.b)).setCell ⟨w1.heap.size, 2, none⟩ (.int .i64 Y.c)).setCell ⟨w1.heap.size, 3, none⟩ (.int .i64 Y.d) := ⟨_, rfl⟩
                   rw [← hw3] at hP hB3
                   rw [← hw3])
                | (have hP := conf_at w2 Y
                   have hB3 := hSc.alloc hSc.size (.cells #[.int .i64 Y.a, .int .i64 Y.b, .int .i64 Y.c, .int .i64 Y.d] 27)
                   obtain ⟨w3, hw3⟩ : ∃ w3, w3 = w2.alloc (.cells #[.int .i64 Y.a, .int .i64 Y.b, .int .i64 Y.c, .int .i64 Y.d] 27) := ⟨_, rfl⟩
                   rw [← hw3] at hP hB3
                   rw [← hw3])
              have hx3 := HX1.out.below hB3 HX1.out.lt
              obtain ⟨b0, b1, b2, b3, _⟩ := hP.all
              have x8 := hx3.all
              have HX3 := Lib.hid hx3
              have HB3 := Lib.hid hB3
              obtain ⟨ok, hok⟩ : ∃ ok, ok = refO Z := ⟨_, rfl⟩
              rw [← hok]
              have HOk := Lib.hid hok
              clear hw3 hP hx3 hB3 hok hSc hS0 hS1 k0 k1 k2 k3 k4 k5 hb
              cases ok
              all_goals
                go_wp2
                go_roundw
                case rel =>
                  have e := take_snoc HZn.out
                  rw [← HZ.out] at e
                  refine ⟨i + 1, by go_num, ?_, by omega, by rw [HNL.out]; omega, by rw [HML.out]; omega, ?_, ?_, below_fill (Nat.le_refl _) (HB1.out.trans (HB3.out.mono HB1.out.size))⟩
                  · rw [e, refO_snoc, ← HOk.out, Hd.out]
                    rfl
                  · rw [e, opts_snoc]
                    exact (HO1.out.below HB3.out).fill (Nat.lt_succ_self _)
                  · rw [e, refC_snoc, ← HX.out, HY.out]
                    exact (fill_at HX3.out Y).1
                case measure => simp [intOf]; omega
          · have hgood : ∀ u ∈ opts G ((N.zip M).take i), u.good := opts_good G _ (fun q hq => HG.out _ (zip_left hq))
            have hcfg := cfg_opts G ((N.zip M).take i)
            rw [← HD.out] at hcfg
            have C9 := config_opts wr _ _ _ HR.out.own hgood
            unfold Configs at C9
            obtain ⟨w6, hw6⟩ : ∃ w6, w6 = wr := ⟨_, rfl⟩
            subst hw6
            have hconf := HR.out.conf
            have hbel := HR.out.below
            have hi8 := HR.out.eight
            obtain ⟨P, hP⟩ : ∃ P, P = (N.zip M).take i := ⟨_, rfl⟩
            rw [← hP] at hcfg C9 hconf
            rw [← hP]
            obtain ⟨X, hX⟩ : ∃ X, X = refC D P := ⟨_, rfl⟩
            rw [← hX] at hcfg hconf
            have HConf2 := Lib.hid hconf
            have HBel2 := Lib.hid hbel
            have HC9 := Lib.hid C9
            have HCfg := Lib.hid hcfg
            have hway : (nl : Int) ≤ (i : Int) ∨ ((i : Int) < (nl : Int) ∧ (ml : Int) ≤ (i : Int)) ∨ ((i : Int) < (nl : Int) ∧ (i : Int) < (ml : Int) ∧ (8 : Int) ≤ (i : Int)) := by omega
            clear hgood hcfg C9 hconf hbel HR hP hX hi hi8
            have e0 := eq_conf Cf.zero
            have e1 := eq_conf X
            unfold Cf.zero at e0
            rcases hway with hi1 | ⟨hi1, hi2⟩ | ⟨hi1, hi2, hi3⟩
            all_goals
              cases hok : refO P
              · obtain ⟨r1, r2⟩ := HCfg.out.1 hok
                have C1 := HC9.out
                rw [r1, r2] at C1
                dsimp only [Cf.val, Cf.zero] at C1
                have CC := Lib.hid C1
                clear C1 r1 r2 hok
                go_wp2_with fail
                refine CC.out.mono ?_
                rintro e w7 ⟨rfl, hb⟩
                have HB7 := Lib.hid (HBel2.out.trans (hb.mono HBel2.out.size))
                have HConf3 := Lib.hid (HConf2.out.below hb HConf2.out.lt)
                clear hb
                go_wp2
                go_ret
                exact ⟨rfl, HB7.out.alloc HB7.out.size _⟩
              · cases hv : X.valid
                · obtain ⟨r1, r2⟩ := HCfg.out.2.1 hok hv
                  have C1 := HC9.out
                  rw [r1, r2] at C1
                  dsimp only [Cf.val, Cf.zero] at C1
                  have CC := Lib.hid C1
                  clear C1 r1 r2 hok
                  go_wp2_with fail
                  refine CC.out.mono ?_
                  rintro e w7 ⟨rfl, hb⟩
                  have HB7 := Lib.hid (HBel2.out.trans (hb.mono HBel2.out.size))
                  have HConf3 := Lib.hid (HConf2.out.below hb HConf2.out.lt)
                  clear hb
                  have x0 := HConf3.out.cell0
                  have x1 := HConf3.out.cell1
                  have x2 := HConf3.out.cell2
                  have x3 := HConf3.out.cell3
                  have hlt := HConf3.out.lt
                  have V0 := fun W => fits_lit W X
                  rw [hv] at V0
                  have V := Lib.hid V0
                  clear V0 hv
                  go_wp2_with fail
                  refine (V.out _).mono ?_
                  rintro e w8 ⟨rfl, hb⟩
                  have HB8 := Lib.hid (stepA HB7.out hb)
                  obtain ⟨z0, z1, z2, z3, _⟩ := (zero_got hb).all
                  obtain ⟨y0, y1, y2, y3, _⟩ := (HConf3.out.on hb).all
                  clear hb x0 x1 x2 x3 hlt
                  go_wp2
                  go_ret
                  exact ⟨rfl, HB8.out⟩
                · obtain ⟨r1, r2⟩ := HCfg.out.2.2 hok hv
                  have C1 := HC9.out
                  rw [r1, r2] at C1
                  dsimp only [Cf.val] at C1
                  have CC := Lib.hid C1
                  clear C1 r1 r2 hok
                  go_wp2_with fail
                  refine CC.out.mono ?_
                  rintro e w7 ⟨rfl, hb⟩
                  have HB7 := Lib.hid (HBel2.out.trans (hb.mono HBel2.out.size))
                  have HConf3 := Lib.hid (HConf2.out.below hb HConf2.out.lt)
                  clear hb
                  have x0 := HConf3.out.cell0
                  have x1 := HConf3.out.cell1
                  have x2 := HConf3.out.cell2
                  have x3 := HConf3.out.cell3
                  have hlt := HConf3.out.lt
                  have V0 := fun W => fits_lit W X
                  rw [hv] at V0
                  have V := Lib.hid V0
                  clear V0 hv
                  go_wp2_with fail
                  refine (V.out _).mono ?_
                  rintro e w8 ⟨rfl, hb⟩
                  have HB8 := Lib.hid (stepA HB7.out hb)
                  obtain ⟨z0, z1, z2, z3, _⟩ := (conf_got hb).all
                  obtain ⟨y0, y1, y2, y3, _⟩ := (HConf3.out.on hb).all
                  clear hb x0 x1 x2 x3 hlt
                  go_wp2
                  go_ret
                  exact ⟨rfl, HB8.out⟩
end Go.Proofs.Ytifogkacjfpipaa
