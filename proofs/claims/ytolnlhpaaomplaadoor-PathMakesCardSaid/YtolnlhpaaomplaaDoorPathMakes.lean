/-
  THE WALK OF THE LAW PathMakes.
-/
import Derived.Test.YtolnlhpaaomplaaDoorPathSpec
set_option linter.unusedVariables false
namespace Go.Proofs.YtolnlhpaaomplaaDoor.Pa
open Go.Lib Go.RowKit

theorem ofP_len {c n p : Row} (h : ofP c n = some p) : p.length ≤ 1000 := by
  unfold ofP at h
  split at h
  · rw [← Option.some.inj h]; simp
  · split at h
    · rename_i hc
      have h1 := seg_len c
      have h2 := seg_len n
      have h3 := fits_len hc.1
      have h4 : n.length < 65 := by
        rcases hc.2 with e | e
        · rw [e]; simp
        · exact fits_len e
      rw [← Option.some.inj h]
      simp; omega
    · cases h

set_option maxHeartbeats 4000000 in
set_option maxRecDepth 100000 in
theorem makes_walk (cS : SegC) (cO : OfC) (cP : ParseC) (cR : RootC) (c n : ByteArray) (hc : c.size ≤ mostS) (hn : n.size ≤ mostS) (w : World) (hT : Ch.Tabs w) :
    Calls Tryd.prog 3 #[.string c, .string n] w fun e w' => e = .returned (.bool true) ∧ Below w.heap.size w w' := by
  have cF := first_any cO cP cR w hT
  have c2' := Lib.hid (fun (W : World) (hW : Below w.heap.size w W) => cS c W hc (Ch.tabs_below hT hW))
  have c3 := fun W => refFits_any c W (by unfold mostS at hc; omega)
  have c4' := Lib.hid (fun (W : World) (hW : Below w.heap.size w W) => cO c n W hc hn (Ch.tabs_below hT hW))
  have c5 := fun W => refOf_any c n W (by unfold mostS at hc; omega) (by unfold mostS at hn; omega)
  have c6' := Lib.hid (fun (p : ByteArray) (W : World) (hp : p.size ≤ 1000) (hW : Below w.heap.size w W) => cP p W (by unfold mostS; omega) (Ch.tabs_below hT hW))
  clear hT hc hn
  go_enter Tryd.func3, Tryd.ntmps3
  go_wp2_with fail
  go_at_call 7
  with_reducible refine cF.mono ?_
  rintro e w1 ⟨rfl, hb1⟩
  have d2 := c2'.out w1 hb1
  have hb1' := Lib.hid hb1
  clear cF hb1
  go_wp2_with fail
  go_at_call 8
  with_reducible refine d2.mono ?_
  rintro e w2 ⟨hp, hb2⟩
  have hb2' := Lib.hid (below_then hb1'.out hb2)
  have d3 := c3 w2
  clear hb2 d2
  rcases hp with ⟨hf, rfl⟩ | ⟨hf, x, hx, rfl⟩
  · rw [hf] at d3
    clear hf
    go_wp2_with fail
    go_at_call 9
    with_reducible refine d3.mono ?_
    rintro e w3 ⟨rfl, rfl⟩
    have hb3' := hb2'
    have d4 := c4'.out w2 hb2'.out
    clear d3
    go_wp2_with fail
    go_at_call 11
    with_reducible refine d4.mono ?_
    rintro e w4 ⟨hq, hb4⟩
    have hb4' := Lib.hid (below_then hb3'.out hb4)
    have d5 := c5 w4
    clear hb4 d4
    rcases hq with ⟨hno, rfl⟩ | ⟨p, hso, rfl⟩
    · go_wp2_with fail
      go_at_call 12
      with_reducible refine d5.mono ?_
      rintro e w5 ⟨hr, hb5⟩
      have hb5' := Lib.hid (below_then hb4'.out hb5)
      clear hb5 d5
      rcases hr with ⟨_, rfl⟩ | ⟨q, hso, rfl⟩
      · clear hno
        go_wp2
        go_ret
        exact ⟨rfl, hb5'.out⟩
      · rw [hno] at hso; cases hso
    · go_wp2_with fail
      go_at_call 12
      with_reducible refine d5.mono ?_
      rintro e w5 ⟨hr, hb5⟩
      have hb5' := Lib.hid (below_then hb4'.out hb5)
      clear hb5 d5
      rcases hr with ⟨hno, rfl⟩ | ⟨q, hso2, rfl⟩
      · rw [hso] at hno; cases hno
      · rw [hso] at hso2
        obtain rfl := data_is (Option.some.inj hso2)
        have hpl := ofP_len hso
        rw [← Lib.size_eq] at hpl
        have hpo := Lib.hid (parse_of hso)
        have d6 := c6'.out p w5 hpl hb5'.out
        clear hso hso2 hpl
        go_wp2_with fail
        go_at_call 13
        with_reducible refine d6.mono ?_
        rintro e w6 ⟨ht, hb6⟩
        have hb6' := Lib.hid (below_then hb5'.out hb6)
        clear hb6 d6
        rcases ht with ⟨hno, rfl⟩ | ⟨a, b, hv, rfl⟩
        · rw [hpo.out] at hno; cases hno
        · rw [hpo.out] at hv
          have h3 := Option.some.inj hv
          injection h3 with h3 h4
          obtain rfl := data_is h3
          obtain rfl := data_is h4
          clear h3 h4 hv
          go_wp2
          go_ret
          exact ⟨rfl, hb6'.out⟩
  · rw [hf] at d3
    have hcl := fits_len hf
    rw [← Lib.size_eq] at hcl
    have cG := fun W => refSegment_any c W (by omega)
    have hx' := Lib.hid hx
    clear hf hcl hx
    go_wp2_with fail
    go_at_call 9
    with_reducible refine d3.mono ?_
    rintro e w3 ⟨rfl, rfl⟩
    clear d3
    go_wp2_with fail
    go_at_call 10
    with_reducible refine (cG _).mono ?_
    rintro e w3 ⟨⟨y, hy, rfl⟩, hb3⟩
    obtain rfl := data_is (hy.trans hx'.out.symm)
    have hb3' := Lib.hid (below_then hb2'.out hb3)
    have d4 := c4'.out w3 hb3'.out
    clear hb3 hy cG
    go_wp2_with fail
    go_at_call 11
    with_reducible refine d4.mono ?_
    rintro e w4 ⟨hq, hb4⟩
    have hb4' := Lib.hid (below_then hb3'.out hb4)
    have d5 := c5 w4
    clear hb4 d4
    rcases hq with ⟨hno, rfl⟩ | ⟨p, hso, rfl⟩
    · go_wp2_with fail
      go_at_call 12
      with_reducible refine d5.mono ?_
      rintro e w5 ⟨hr, hb5⟩
      have hb5' := Lib.hid (below_then hb4'.out hb5)
      clear hb5 d5
      rcases hr with ⟨_, rfl⟩ | ⟨q, hso, rfl⟩
      · clear hno
        go_wp2
        go_ret
        exact ⟨rfl, hb5'.out⟩
      · rw [hno] at hso; cases hso
    · go_wp2_with fail
      go_at_call 12
      with_reducible refine d5.mono ?_
      rintro e w5 ⟨hr, hb5⟩
      have hb5' := Lib.hid (below_then hb4'.out hb5)
      clear hb5 d5
      rcases hr with ⟨hno, rfl⟩ | ⟨q, hso2, rfl⟩
      · rw [hso] at hno; cases hno
      · rw [hso] at hso2
        obtain rfl := data_is (Option.some.inj hso2)
        have hpl := ofP_len hso
        rw [← Lib.size_eq] at hpl
        have hpo := Lib.hid (parse_of hso)
        have d6 := c6'.out p w5 hpl hb5'.out
        clear hso hso2 hpl
        go_wp2_with fail
        go_at_call 13
        with_reducible refine d6.mono ?_
        rintro e w6 ⟨ht, hb6⟩
        have hb6' := Lib.hid (below_then hb5'.out hb6)
        clear hb6 d6
        rcases ht with ⟨hno, rfl⟩ | ⟨a, b, hv, rfl⟩
        · rw [hpo.out] at hno; cases hno
        · rw [hpo.out] at hv
          have h3 := Option.some.inj hv
          injection h3 with h3 h4
          obtain rfl := data_is h3
          obtain rfl := data_is h4
          clear h3 h4 hv
          go_wp2
          go_ret
          exact ⟨rfl, hb6'.out⟩
end Go.Proofs.YtolnlhpaaomplaaDoor.Pa
