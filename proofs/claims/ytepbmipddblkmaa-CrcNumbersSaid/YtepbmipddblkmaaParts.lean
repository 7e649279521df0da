/- The walk of 'CrcParts', where the two rows together take no more than 2^46 bytes. -/
import Derived.Test.YtepbmipddblkmaaArgs
import Derived.Test.YtepbmipddblkmaaGives
namespace Go.Proofs.Ytepbmipddblkmaa
open Go.RowKit Go.CrcMath
set_option linter.unusedVariables false

/-- A slice of bytes, and, if it is nil, it has no room. -/
def Row (w : World) (ad : Option Addr) (len cap : Nat) (bs : List Nat) : Prop := Byt w ad len cap bs ∧ (ad = none → cap = 0)
theorem Row.keep {w w' : World} {ad : Option Addr} {len cap : Nat} {bs : List Nat} (h : Row w ad len cap bs) {B : Nat} (hb : Below B w w') (hB : w.heap.size ≤ B) : Row w' ad len cap bs := ⟨h.1.keep hb hB, h.2⟩
theorem Row.all {w : World} {ad : Option Addr} {len cap : Nat} {bs : List Nat} (h : Row w ad len cap bs) : AllB bs := h.1.all
theorem Row.len {w : World} {ad : Option Addr} {len cap : Nat} {bs : List Nat} (h : Row w ad len cap bs) : bs.length = len := h.1.length

/-- 'append(v, xs...)', v the call's own, xs any slice of bytes, nil too. -/
theorem append_row {w : World} {ops : Array Oper} {rest : List Oper} {o : Oper} {a : Act} {Q : Exit → Act → World → Prop} (hgd : o.guard = none) (s x : Operand)
    (ho : o.op = .call { callee := .builtin .append, args := #[s, x], argTypes := #[22, 22] })
    (base n : Nat) (xs ys : List Nat) (v : Value) (hs : a.eval s = v) (hown : w.ownsRow base 5 1 v n (vals xs)) (hv : v ≠ .slice none 0 0) (hbase : base ≤ w.heap.size)
    (ad : Option Addr) (len cap : Nat) (hx : a.eval x = .slice ad len cap) (hr : Row w ad len cap ys) (hn : n + len ≤ 140737488355328)
    (w0 : World) (hb0 : Below base w0 w)
    (h : ∀ g cp w', w'.ownsRow base 5 1 (.slice (some ⟨g, 0, none⟩) (n + len) cp) (n + len) (vals (xs ++ ys)) → Below base w0 w' → wpList Try.prog ops Q rest (a.put o.dst (.slice (some ⟨g, 0, none⟩) (n + len) cp)) w') :
    wpList Try.prog ops Q (o :: rest) a w := by
  obtain ⟨i0, hi, hz0, hz1, hz2⟩ := info_parts info5
  rcases ad with _ | ad
  · have hcap := hr.2 rfl
    have hl := hr.1.fits
    have hyl := hr.1.length
    subst hcap
    obtain rfl : len = 0 := by omega
    obtain rfl : ys = [] := List.eq_nil_of_length_eq_zero hyl
    refine wpList_append_own_none hgd s x 22 ho base 5 i0 1 Try.underlying22 hi v n (vals xs) hs hown hx ?_
    rcases hown.2 with ⟨h', _⟩ | ⟨g, cp, cur, rfl, _⟩
    · exact absurd h' hv
    · exact h g cp w (by simpa using hown) hb0
  · refine wpList_append_own _ hgd s x 22 ho base 5 i0 (.int .u8 0) 1 1 Try.underlying22 hi hz0 hz1 hz2 rfl (by decide) v n (vals xs) hs hown ad len cap (vals ys) hx (by rw [length_vals, hr.1.length]; simp) (by
      intro j u hj
      have hjl : j < ys.length := by
        have := (List.getElem?_eq_some_iff.1 hj).1
        rwa [length_vals] at this
      obtain ⟨a', ha', hs'⟩ := hr.1.source (by have := hr.1.length; omega)
      obtain rfl := Option.some.inj ha'
      exact hs' j u hj) (vals_one ys) (by unfold maxLen; omega) (by omega) hbase ?_
    intro v' w' hown' hgrow hnn
    rw [← vals_append] at hown'
    have hb : Below base w0 w' := hb0.grown hgrow hbase (fun k hk => (hown.lt k hk).1)
    rcases hown'.2 with ⟨h', _⟩ | ⟨g, cp, cur, rfl, _⟩
    · exact absurd (hnn.1 h').1 hv
    · exact h g cp w' hown' hb
/-- The same where the operation stands behind a guard that says yes. -/
theorem append_guarded {w : World} {ops : Array Oper} {rest : List Oper} {o : Oper} {a : Act} {Q : Exit → Act → World → Prop} (hw : Region.wanted o (yielded ops a.tmps) = true) (s x : Operand)
    (ho : o.op = .call { callee := .builtin .append, args := #[s, x], argTypes := #[22, 22] })
    (base n : Nat) (xs ys : List Nat) (v : Value) (hs : a.eval s = v) (hown : w.ownsRow base 5 1 v n (vals xs)) (hv : v ≠ .slice none 0 0) (hbase : base ≤ w.heap.size)
    (ad : Option Addr) (len cap : Nat) (hx : a.eval x = .slice ad len cap) (hr : Row w ad len cap ys) (hn : n + len ≤ 140737488355328)
    (w0 : World) (hb0 : Below base w0 w)
    (h : ∀ g cp w', w'.ownsRow base 5 1 (.slice (some ⟨g, 0, none⟩) (n + len) cp) (n + len) (vals (xs ++ ys)) → Below base w0 w' → wpList Try.prog ops Q rest (a.put o.dst (.slice (some ⟨g, 0, none⟩) (n + len) cp)) w') :
    wpList Try.prog ops Q (o :: rest) a w := by
  obtain ⟨i0, hi, hz0, hz1, hz2⟩ := info_parts info5
  refine BigFrame.wpList_want hw fun K hK => ?_
  rcases ad with _ | ad
  · have hcap := hr.2 rfl
    have hl := hr.1.fits
    have hyl := hr.1.length
    subst hcap
    obtain rfl : len = 0 := by omega
    obtain rfl : ys = [] := List.eq_nil_of_length_eq_zero hyl
    have hrun := run_append_owned_none (P := Try.prog) (w := w) base 22 o.type 5 i0 1 Try.underlying22 hi v n (vals xs) hown
    rcases hown.2 with ⟨h', _⟩ | ⟨g, cp, cur, rfl, _⟩
    · exact absurd h' hv
    · unfold Oper.wp
      simp [execOp, ho, resolve, invoke, builtin, hs, hx, hrun, Result.andThen]
      exact hK _ _ (h g cp w (by simpa using hown) hb0)
  · refine wp_append_own _ s x 22 ho base 5 i0 (.int .u8 0) 1 1 Try.underlying22 hi hz0 hz1 hz2 rfl (by decide) v n (vals xs) hs hown ad len cap (vals ys) hx (by rw [length_vals, hr.1.length]; simp) (by
      intro j u hj
      have hjl : j < ys.length := by
        have := (List.getElem?_eq_some_iff.1 hj).1
        rwa [length_vals] at this
      obtain ⟨a', ha', hs'⟩ := hr.1.source (by have := hr.1.length; omega)
      obtain rfl := Option.some.inj ha'
      exact hs' j u hj) (vals_one ys) (by unfold maxLen; omega) (by omega) hbase ?_
    intro v' w' hown' hgrow hnn
    rw [← vals_append] at hown'
    have hb : Below base w0 w' := hb0.grown hgrow hbase (fun k hk => (hown.lt k hk).1)
    rcases hown'.2 with ⟨h', _⟩ | ⟨g, cp, cur, rfl, _⟩
    · exact absurd (hnn.1 h').1 hv
    · exact hK _ _ (h g cp w' hown' hb)
theorem own_empty (W : World) (base : Nat) (h : base ≤ W.heap.size) : (W.alloc (.cells #[] 5)).ownsRow base 5 1 (.slice (some ⟨W.heap.size, 0, none⟩) 0 0) 0 (vals []) := World.ownsRow_lit (e := 5) (size := 1) W #[] 0 h (by decide) rfl
theorem row_one (W : World) : Row (W.alloc (.cells #[.int .u8 1] 5)) (some ⟨W.heap.size, 0, none⟩) 1 1 [1] := ⟨(own_new W [1]).byt (all_small (by decide)) 1 (by decide), fun h => by cases h⟩
theorem some_ne (a : Addr) (l c : Nat) : (Value.slice (some a) l c) ≠ .slice none 0 0 := by intro h; cases h
theorem tail_seal {bs : List Nat} (h : AllB bs) : tail (sealB bs) = bs := by unfold tail; rw [if_pos (okB_seal h), drop_sealB]
theorem owns_row {w : World} {base n g cp : Nat} {bs : List Nat} (h : w.ownsRow base 5 1 (.slice (some ⟨g, 0, none⟩) n cp) n (vals bs)) (ha : AllB bs) : Row w (some ⟨g, 0, none⟩) n cp bs := by
  obtain ⟨h1, h2, h3, h4, h5⟩ := pre_owns h
  have := h1.byt ha cp (by omega)
  rw [h2] at this
  exact ⟨this, fun h => by cases h⟩
theorem all_append {a b : List Nat} (ha : AllB a) (hb : AllB b) : AllB (a ++ b) := by
  intro x hx
  rcases List.mem_append.1 hx with h | h
  · exact ha x h
  · exact hb x h
theorem all_one : AllB [1] := all_small (by decide)

/-- A value that reads as the text t, in every world that has not turned since w. -/
def ReadsAs (w : World) (v : Value) (t : ByteArray) : Prop := ∀ W, Below w.heap.size w W → (convert 22 9 v).run Try.prog W = .ok (.string t) W
theorem ReadsAs.of {w : World} {a : Option Addr} {l c : Nat} {bs : List Nat} (h : Byt w a l c bs) : ReadsAs w (.slice a l c) (str bs) := fun W hW => run_str (h.keep hW (Nat.le_refl _))
set_option maxHeartbeats 2000000 in
theorem parts_any (w : World) (ad0 : Option Addr) (l0 c0 : Nat) (xs0 : List Nat) (ad1 : Option Addr) (l1 c1 : Nat) (bs : List Nat) (hA : Row w ad0 l0 c0 xs0) (hB : Row w ad1 l1 c1 bs) (hL : l0 + l1 ≤ 140737488355000) :
    Calls Try.prog 6 #[.slice ad0 l0 c0, .slice ad1 l1 c1] w fun e w' => e = .returned (.bool true) ∧ Below w.heap.size w w' := by
  have HA := Lib.hid hA
  have HB := Lib.hid hB
  obtain ⟨s, hs⟩ : ∃ s, s = ofB xs0 := ⟨_, rfl⟩
  have hsl : s < 4294967296 := by rw [hs]; exact ofB_lt hA.all
  have hcs := cplc s hsl
  obtain ⟨r, hr⟩ : ∃ r, r = cpl s := ⟨_, rfl⟩
  rw [← hr] at hcs
  have HR : Hid (r = run full xs0) := by show _ = _; rw [hr, hs]; exact cpl_cpl _
  have HS := Lib.hid hs
  have hrl : r < 4294967296 := by rw [hr]; exact cpl_lt hsl
  clear hA hB hs hr
  go_enter Try.func6, Try.ntmps6
  go_wp2_with fail
  refine (of_any w _ _ _ _ HA.out.1 (by omega)).mono ?_
  rw [← HS.out]
  rintro e w' ⟨rfl, rfl⟩
  have hsg := usig
  go_wp2
  go_loop [5, 18] (fun c i => ∃ k : Nat, k ≤ l1 ∧ i = .int .i64 k ∧ c = .int .u32 (run r (bs.take k) : Nat)) (fun _ i => l1 - (intOf i).toNat)
  case atStart => exact ⟨0, by omega, rfl, rfl⟩
  case round =>
    obtain ⟨k, hk, rfl, rfl⟩ := hrel
    have hl : run r (bs.take k) < 4294967296 := run_lt _ _ hrl (take_all HB.out.all k)
    obtain ⟨d, hd⟩ : ∃ d, d = run r (bs.take k) := ⟨_, rfl⟩
    rw [← hd] at hl ⊢
    have HD : Hid (d = run r (bs.take k)) := hd
    clear hd
    by_cases hlt : k < l1
    · rcases HB.out.1.cells with h0 | ⟨b, off, rfl, hcell⟩
      · omega
      · have hc := hcell k hlt
        have hx8 := getD_all HB.out.all k
        obtain ⟨x, hx⟩ : ∃ x, x = bs.getD k 0 := ⟨_, rfl⟩
        rw [← hx] at hc hx8
        have S : Hid (run r (bs.take (k + 1)) = nxt d x) := by
          show _ = _
          rw [run_next _ _ _ (by rw [HB.out.len]; exact hlt), ← HD.out, ← hx]
        clear hx hcell
        go_wp2_with (go_at_call 14; refine (next_any _ _ _ hl hx8).mono ?_; rintro e w' ⟨rfl, rfl⟩)
        go_round
        case rel => exact ⟨k + 1, by omega, by go_num, by rw [S.out]⟩
        case measure => simp [intOf]; omega
    · have hcd := cplc d hl
      obtain ⟨z, hz⟩ : ∃ z, z = ofB (xs0 ++ bs) := ⟨_, rfl⟩
      have he : cpl d = z := by
        rw [hz]
        rw [HD.out, HR.out, List.take_of_length_le (by rw [HB.out.len]; omega), ← run_append]; rfl
      rw [he] at hcd
      have HZZ := Lib.hid hz
      clear he hz
      go_wp2_with fail
      refine (put_any w _ _ _ _ HA.out.1 (by omega)).mono ?_
      rintro e w3 ⟨g3, rfl, hg3, ho3, hb3⟩
      have HO3 := Lib.hid ho3
      have HB3 := Lib.hid hb3
      clear ho3 hb3
      have hls : (sealB xs0).length = l0 + 4 := by rw [length_sealB, HA.out.len]
      have HY3 : Hid (Row w3 (some ⟨g3, 0, none⟩) (l0 + 4) (l0 + 4) (sealB xs0)) := by
        have := HO3.out.byt (sealB_all HA.out.all) (l0 + 4) (by omega)
        rw [hls] at this
        exact ⟨this, fun h => by cases h⟩
      clear hls
      go_wp2_with fail
      refine (check_any w3 _ _ _ _ HY3.out.1 (by omega)).mono ?_
      rintro e w4 ⟨pa, pl, pc, rfl, hp4, hb4⟩
      rw [okB_seal HA.out.all]
      obtain ⟨p, hp⟩ : ∃ p, p = Value.slice pa pl pc := ⟨_, rfl⟩
      obtain ⟨t, ht⟩ : ∃ t, t = str xs0 := ⟨_, rfl⟩
      have HP : Hid (ReadsAs w4 p t) := by
        have := ReadsAs.of hp4.out
        rw [tail_seal HA.out.all, ← ht, ← hp] at this
        exact this
      have HAT : Hid (ReadsAs w (.slice ad0 l0 c0) t) := by
        have := ReadsAs.of HA.out.1
        rw [← ht] at this
        exact this
      rw [← hp]
      clear hp ht
      have HW4 : Hid (Below w.heap.size w w4) := HB3.out.trans (hb4.out.mono HB3.out.size)
      have fin : ∀ W, Below w4.heap.size w4 W → Below w.heap.size w W := fun W h => HW4.out.trans (h.mono HW4.out.size)
      have FIN := Lib.hid fin
      clear fin
      have HZ5 : Hid (Below w4.heap.size w4 (w4.alloc (.cells #[] 5))) := (Below.refl _ _).alloc (Nat.le_refl _) _
      have HY4 : Hid (Row w4 (some ⟨g3, 0, none⟩) (l0 + 4) (l0 + 4) (sealB xs0)) := HY3.out.keep hb4.out (Nat.le_refl _)
      have HA4 : Hid (Row w4 ad0 l0 c0 xs0) := HA.out.keep HW4.out (Nat.le_refl _)
      have HB4 : Hid (Row w4 ad1 l1 c1 bs) := HB.out.keep HW4.out (Nat.le_refl _)
      go_wp2_with (at_builtin; refine append_row rfl (.tmp 34) (.tmp 35) rfl w4.heap.size 0 [] _ _ rfl (own_empty w4 _ (Nat.le_refl _)) (some_ne _ _ _) HZ5.out.size _ _ _ rfl (HY4.out.keep HZ5.out (Nat.le_refl _)) (by omega) w4 HZ5.out ?_)
      intro g6 cp6 w6 ho6 hz6
      have HZ6 := Lib.hid hz6
      have HO6 := Lib.hid ho6
      have HZ6' : Hid (Below w4.heap.size w4 (w6.alloc (.cells #[.int .u8 1] 5))) := HZ6.out.alloc HZ6.out.size _
      clear ho6 hz6
      go_wp2_with (at_builtin; refine append_row rfl (.tmp 36) (.tmp 37) rfl w4.heap.size _ _ _ _ rfl (HO6.out.alloc _) (some_ne _ _ _) HZ6'.out.size _ _ _ rfl (row_one w6) (by omega) w4 HZ6'.out ?_)
      intro g7 cp7 w7 ho7 hz7
      have HZ7 := Lib.hid hz7
      have HO7 := Lib.hid ho7
      clear ho7 hz7
      go_wp2_with fail
      refine (check_any w7 _ _ _ _ (owns_row HO7.out (all_append (sealB_all HA.out.all) all_one)).1 (by omega)).mono ?_
      rintro e w8 ⟨qa, ql, qc, rfl, hq8, hb8⟩
      rw [okB_bad HA.out.all]
      obtain ⟨q, hq⟩ : ∃ q, q = Value.slice qa ql qc := ⟨_, rfl⟩
      rw [← hq]
      have HZ8 : Hid (Below w4.heap.size w4 w8) := HZ7.out.trans (hb8.out.mono HZ7.out.size)
      clear hq hq8
      have HZ9 : Hid (Below w4.heap.size w4 (w8.alloc (.cells #[] 5))) := HZ8.out.alloc HZ8.out.size _
      obtain ⟨nb, hnb⟩ : ∃ nb, nb = decide (ofB xs0 = ofB (xs0 ++ [1])) := ⟨_, rfl⟩
      rw [← hnb]
      have HNB := Lib.hid hnb
      clear hnb
      cases nb
      · have hno := True.intro
        go_wp2_with (at_builtin; refine append_row rfl (.tmp 44) (.tmp 45) rfl w4.heap.size 0 [] _ _ rfl (own_empty w8 _ HZ8.out.size) (some_ne _ _ _) HZ9.out.size _ _ _ rfl (HA4.out.keep HZ9.out (Nat.le_refl _)) (by omega) w4 HZ9.out ?_)
        intro g10 cp10 w10 ho10 hz10
        have HZ10 := Lib.hid hz10
        have HO10 := Lib.hid ho10
        clear ho10 hz10
        go_wp2_with (at_builtin; refine append_row rfl (.tmp 46) (.tmp 47) rfl w4.heap.size _ _ _ _ rfl HO10.out (some_ne _ _ _) HZ10.out.size _ _ _ rfl (HB4.out.keep HZ10.out (Nat.le_refl _)) (by omega) w4 HZ10.out ?_)
        intro g11 cp11 w11 ho11 hz11
        have HZ11 := Lib.hid hz11
        have HO11 := Lib.hid ho11
        clear ho11 hz11
        have hs1 := HP.out w11 HZ11.out
        have hs2 := HAT.out w11 (FIN.out _ HZ11.out)
        go_wp2_with fail
        refine (of_any w11 _ _ _ _ (owns_row HO11.out (all_append (by simpa using HA.out.all) HB.out.all)).1 (by omega)).mono ?_
        rintro e w' ⟨rfl, rfl⟩
        rw [← HZZ.out]
        go_wp2_with fail
        refine (known_any _).mono ?_
        rintro e w12 ⟨rfl, hb12⟩
        go_wp2
        go_ret
        exact ⟨rfl, FIN.out _ (HZ11.out.trans (hb12.mono HZ11.out.size))⟩
      · have hno := True.intro
        go_wp2_with (at_builtin; refine append_row rfl (.tmp 44) (.tmp 45) rfl w4.heap.size 0 [] _ _ rfl (own_empty w8 _ HZ8.out.size) (some_ne _ _ _) HZ9.out.size _ _ _ rfl (HA4.out.keep HZ9.out (Nat.le_refl _)) (by omega) w4 HZ9.out ?_)
        intro g10 cp10 w10 ho10 hz10
        have HZ10 := Lib.hid hz10
        have HO10 := Lib.hid ho10
        clear ho10 hz10
        go_wp2_with (at_builtin; refine append_row rfl (.tmp 46) (.tmp 47) rfl w4.heap.size _ _ _ _ rfl HO10.out (some_ne _ _ _) HZ10.out.size _ _ _ rfl (HB4.out.keep HZ10.out (Nat.le_refl _)) (by omega) w4 HZ10.out ?_)
        intro g11 cp11 w11 ho11 hz11
        have HZ11 := Lib.hid hz11
        have HO11 := Lib.hid ho11
        clear ho11 hz11
        have hs1 := HP.out w11 HZ11.out
        have hs2 := HAT.out w11 (FIN.out _ HZ11.out)
        go_wp2_with fail
        refine (of_any w11 _ _ _ _ (owns_row HO11.out (all_append (by simpa using HA.out.all) HB.out.all)).1 (by omega)).mono ?_
        rintro e w' ⟨rfl, rfl⟩
        rw [← HZZ.out]
        have HZ12 : Hid (Below w4.heap.size w4 (w11.alloc (.cells #[] 5))) := HZ11.out.alloc HZ11.out.size _
        have he1 : ofB (xs0 ++ [1]) = s := by rw [HS.out]; exact (of_decide_eq_true HNB.out.symm).symm
        have HE1 := Lib.hid he1
        clear he1
        go_wp2_with (at_builtin; refine append_guarded (by rfl) (.tmp 73) (.tmp 74) rfl w4.heap.size 0 [] _ _ rfl (own_empty w11 _ HZ11.out.size) (some_ne _ _ _) HZ12.out.size _ _ _ rfl (HA4.out.keep HZ12.out (Nat.le_refl _)) (by omega) w4 HZ12.out ?_)
        intro g13 cp13 w13 ho13 hz13
        have HZ13 := Lib.hid hz13
        have HO13 := Lib.hid ho13
        have HZ13' : Hid (Below w4.heap.size w4 (w13.alloc (.cells #[.int .u8 1] 5))) := HZ13.out.alloc HZ13.out.size _
        clear ho13 hz13
        go_wp2_with (at_builtin; refine append_guarded (by rfl) (.tmp 75) (.tmp 76) rfl w4.heap.size _ _ _ _ rfl (HO13.out.alloc _) (some_ne _ _ _) HZ13'.out.size _ _ _ rfl (row_one w13) (by omega) w4 HZ13'.out ?_)
        intro g14 cp14 w14 ho14 hz14
        have HZ14 := Lib.hid hz14
        have HO14 := Lib.hid ho14
        clear ho14 hz14
        go_wp2_with fail
        refine (of_any w14 _ _ _ _ (owns_row HO14.out (all_append (by simpa using HA.out.all) all_one)).1 (by omega)).mono ?_
        rintro e w' ⟨rfl, rfl⟩
        dsimp only
        rw [HE1.out]
        go_wp2_with fail
        refine (of_any w14 _ _ _ _ (HA4.out.keep HZ14.out (Nat.le_refl _)).1 (by omega)).mono ?_
        rw [← HS.out]
        rintro e w' ⟨rfl, rfl⟩
        go_wp2_with fail
        refine (known_any _).mono ?_
        rintro e w15 ⟨rfl, hb15⟩
        go_wp2
        go_ret
        exact ⟨rfl, FIN.out _ (HZ14.out.trans (hb15.mono HZ14.out.size))⟩
end Go.Proofs.Ytepbmipddblkmaa
