/-
  THE WALK OF THE STATEMENT LineParts.
-/
import Derived.Test.YthkcjfoihieooaaDoorLineFirst
import Derived.Test.YthkcjfoihieooaaDoorLinePrint
import Derived.Test.YthkcjfoihieooaaDoorLineCopy
set_option linter.unusedVariables false
namespace Go.Proofs.YthkcjfoihieooaaDoor.Li
open Go.Lib Go.RowKit Bu

/-! ### plain -/
def addP (L : LD) (p : PD) : LD := ⟨L.group, L.name, L.params ++ [p], L.value⟩
theorem bad_of {L : LD} (h : chk L = 0) : badN L = false ∧ badF L = false ∧ badT L = false := by
  unfold chk at h
  cases h1 : badN L
  · cases h2 : badF L
    · cases h3 : badT L
      · exact ⟨rfl, rfl, rfl⟩
      · rw [h1, h2, h3] at h; simp at h
    · rw [h1, h2] at h; simp at h
  · rw [h1] at h; simp at h
theorem chk_add {L : LD} {n v : Row} (h : chk L = 0) (hn : nameB n = true) : chk (addP L ⟨n, [v]⟩) = 0 ∨ chk (addP L ⟨n, [v]⟩) = 10 := by
  obtain ⟨h1, h2, h3⟩ := bad_of h
  have e1 : badN (addP L ⟨n, [v]⟩) = false := by
    have : badN (addP L ⟨n, [v]⟩) = (badN L || !nameB n) := by simp [badN, addP, List.any_append, Bool.or_assoc]
    rw [this, h1, hn]; rfl
  have e2 : badF (addP L ⟨n, [v]⟩) = false := by
    have : badF (addP L ⟨n, [v]⟩) = badF L := by simp [badF, addP, List.any_append]
    rw [this, h2]
  cases e3 : badT (addP L ⟨n, [v]⟩)
  · exact .inl (chk_0 e1 e2 e3)
  · exact .inr (chk_10 e1 e2 e3)
theorem pr_value (L : LD) : ∃ a, pr L = a ++ L.value := ⟨(if L.group = [] then L.name else L.group ++ 46 :: L.name) ++ (wprms L.params ++ [58]), by unfold pr; simp⟩
theorem suffix_eq (s a : ByteArray) (p : Row) (h : s.data.toList = p ++ a.data.toList) : a.size ≤ s.size ∧ s.extract (s.size - a.size) s.size = a := by
  have hl := congrArg List.length h
  rw [List.length_append, ← Lib.size_eq, ← Lib.size_eq] at hl
  refine ⟨by omega, ?_⟩
  have e : (s.extract (s.size - a.size) s.size).data.toList = a.data.toList := by
    rw [Lib.extract_to_end, h, show s.size - a.size = p.length by omega, List.drop_left]
  rw [← Lib.mk_data (s.extract (s.size - a.size) s.size), e, Lib.mk_data]

/-! ### rows beside a store -/
theorem ownsRow_other {w : World} {B g o : Nat} {e t : TypeId} {size n : Nat} {v u : Value} {xs : List Value} {cs : Array Value} {fr : Nat × Nat} (h : w.ownsRow B e size v n xs) (hg : w.heap[g]? = some (.cells cs t fr)) (hne : t ≠ e) : (w.setCell ⟨g, o, none⟩ u).ownsRow B e size v n xs := by
  refine ⟨h.1, ?_⟩
  rcases h.2 with h | ⟨k, cap, cur, e1, e2, e3, e4⟩
  · exact .inl h
  · refine .inr ⟨k, cap, cur, e1, e2, ?_, e4⟩
    rw [Below.heap_setCell _ _ _ _ (fun ek => by
      have ek : k = g := ek
      subst ek
      rw [hg] at e3
      injection e3 with e3
      injection e3 with _ ht
      exact hne ht)]
    exact e3
theorem POwn.other {w : World} {B g o : Nat} {t : TypeId} {v u : Value} {ps : List PD} {cs : Array Value} {fr : Nat × Nat} (h : POwn B v ps w) (hg : w.heap[g]? = some (.cells cs t fr)) (h1 : t ≠ 40) (h2 : t ≠ 9) : POwn B v ps (w.setCell ⟨g, o, none⟩ u) := by
  obtain ⟨us, hl, hr, hv⟩ := h
  exact ⟨us, hl, ownsRow_other hr hg h1, fun j p x hp hx => ownsRow_other (hv j p x hp hx) hg h2⟩

/-! ### the walk -/
theorem smallL_of {L : LD} (hp : (pr L).length ≤ 1099511627776) (hS : SmallL L) : SmallL L := hS

set_option maxHeartbeats 16000000 in
set_option maxRecDepth 100000 in
theorem parts_walk (v : Value) (L : LD) (nm vl : ByteArray) (w : World) (hv : LineAt w v L) (hS : SmallL L) (hpl : (pr L).length ≤ 549755813888) (hnm : nm.size ≤ 1048576) (hvl : vl.size ≤ 1048576) (hpn : L.params.length ≤ 549755813888)
    (hvs : ∀ p ∈ L.params, p.vals.length ≤ 8796093022208) (hpm : (pr (addP L ⟨nm.data.toList, [vl.data.toList]⟩)).length ≤ 1099511627776) (hT : Ch.Tabs w) :
    Calls Tryd.prog 5 #[v, .string nm, .string vl] w fun e w' => e = .returned (.bool true) ∧ Below w.heap.size w w' := by
  obtain ⟨j0, hj, hjz0, hjz1, hjz2⟩ := info_parts infoPrm
  have hT' := Lib.hid hT
  clear hT
  have hvA := fun W (h : Below w.heap.size w W) => hv.kept h
  obtain ⟨pv, rfl, hP⟩ := hv
  obtain ⟨A, c, rfl⟩ : ∃ A c, pv = .slice A L.params.length c := by obtain ⟨A, b, o, c, h, _⟩ := hP; exact ⟨A, c, h⟩
  obtain ⟨n, hn⟩ : ∃ n, L.params.length = n := ⟨_, rfl⟩
  obtain ⟨a1, ha1⟩ : ∃ a : ByteArray, sv L.group = .string a := ⟨_, rfl⟩
  obtain ⟨a2, ha2⟩ : ∃ a : ByteArray, sv L.name = .string a := ⟨_, rfl⟩
  obtain ⟨a4, ha4⟩ : ∃ a : ByteArray, sv L.value = .string a := ⟨_, rfl⟩
  have hd4 : a4.data.toList = L.value := by unfold sv at ha4; rw [← Value.string.inj ha4]
  rw [hn, ha1, ha2, ha4] at hvA
  rw [hn, ha1, ha2, ha4]
  rw [hn] at hpn
  obtain ⟨w0, hw0⟩ : ∃ w0, w.alloc (.cells #[.string a1, .string a2, .slice A n c, .string a4] 25) = w0 := ⟨_, rfl⟩
  have hb0 : Below w.heap.size w w0 := by rw [← hw0]; exact (Below.refl _ _).alloc (Nat.le_refl _) _
  have hx0 : w0.heap[w.heap.size]? = some (.cells #[.string a1, .string a2, .slice A n c, .string a4] 25 (0, 0)) := by rw [← hw0]; exact heap_alloc_new w _
  have hz0 : w.heap.size < w0.heap.size := (Array.getElem?_eq_some_iff.1 hx0).1
  have hF : ∀ W, Below w0.heap.size w0 W → W.cell? ⟨w.heap.size, 0, none⟩ = some (.string a1) ∧ W.cell? ⟨w.heap.size, 1, none⟩ = some (.string a2) ∧ W.cell? ⟨w.heap.size, 2, none⟩ = some (.slice A n c) ∧ W.cell? ⟨w.heap.size, 3, none⟩ = some (.string a4) := fun W hW => by
    obtain ⟨c0, c1, c2, c3, _⟩ := res4 ((hW.block _ hz0).trans hx0)
    exact ⟨c0, c1, c2, c3⟩
  have hF' := Lib.hid hF
  have hvA' := Lib.hid hvA
  have hn' := Lib.hid hn
  have ha1' := Lib.hid ha1
  have ha2' := Lib.hid ha2
  have ha4' := Lib.hid ha4
  have hd4' := Lib.hid hd4
  have hS' := Lib.hid hS
  have hvs' := Lib.hid hvs
  have hpl' := Lib.hid hpl
  have hpm' := Lib.hid hpm
  have cF := first_any w0 (Ch.tabs_below hT'.out hb0)
  have hw0' := Lib.hid hw0
  clear hP hn ha1 ha2 ha4 hd4 hS hvs hpl hpm hF hvA hx0
  go_enter Tryd.func5, Tryd.ntmps5
  go_wp2_with fail
  clear hw0
  go_at_call 8
  refine cF.mono ?_
  rintro e w1 ⟨rfl, hb1⟩
  obtain ⟨k0, k1, k2, k3⟩ := hF'.out w1 hb1
  have hB1 := below_then hb0 hb1
  have cP := print_any _ L w1 (hvA'.out w1 hB1) hS'.out (by have := hpl'.out; omega) (Ch.tabs_below hT'.out hB1)
  clear cF
  go_wp2_with fail
  go_at_call 14
  refine cP.mono ?_
  rintro e w2 ⟨hPr, hb2⟩
  have hb2' := below_then hb1 hb2
  have hB2 := below_then hB1 hb2
  clear cP hb2 hb1 k0 k1 k2 k3
  rcases hPr with ⟨h0, rfl⟩ | ⟨h0, s1, hs1, rfl⟩
  · obtain ⟨m, hm⟩ : ∃ m, chk L = m := ⟨_, rfl⟩
    rw [hm] at h0 ⊢
    have d1 : ((m : Int) != 0) = true := bne_iff_ne.2 (by omega)
    clear hm
    go_wp2
    go_ret
    exact ⟨rfl, hB2⟩
  · have h0' := Lib.hid h0
    clear h0 hs1
    have cN := fun W => refName_any nm W (by omega)
    obtain ⟨G, hG⟩ : ∃ G, nameB nm.data.toList = G := ⟨_, rfl⟩
    rw [hG] at cN
    have hG' := Lib.hid hG
    clear hG
    cases G
    · go_wp2_with (go_at_call 13; refine (cN _).mono ?_; rintro e w3 ⟨rfl, rfl⟩)
      go_ret
      exact ⟨rfl, hB2⟩
    · obtain ⟨k0, k1, k2, k3⟩ := hF'.out w2 hb2'
      have cC := refCopy_any _ L w2 (hvA'.out w2 hB2) (by rw [hn'.out]; omega) hvs'.out
      go_wp2_with (go_at_call 13; refine (cN _).mono ?_; rintro e w3 ⟨rfl, rfl⟩)
      go_at_call 17
      refine cC.mono ?_
      rintro e w3 ⟨⟨u, rfl, hown⟩, hb3⟩
      have hB3 := below_then hB2 hb3
      have hb3' := below_then hb2' hb3
      obtain ⟨pu, rfl, hpo⟩ := hown
      obtain ⟨us, hus, hrow, hvals⟩ := hpo
      rw [ha1'.out, ha2'.out, ha4'.out]
      have hform : ∃ ao c, pu = .slice ao n c := by
        rcases hrow.2 with ⟨h1, h2⟩ | ⟨g, cap, cur, h1, _⟩
        · exact ⟨none, 0, by rw [h1, ← hn'.out, h2]⟩
        · exact ⟨_, _, by rw [h1, hn'.out]⟩
      obtain ⟨ao, co, rfl⟩ := hform
      rw [hn'.out] at hrow
      -- the world in which the append is made
      have hal1 : Below w3.heap.size w3 (w3.alloc (.cells #[.string a1, .string a2, .slice ao n co, .string a4] 25)) := (Below.refl _ _).alloc (Nat.le_refl _) _
      have hal2 : Below w3.heap.size w3 (((w3.alloc (.cells #[.string a1, .string a2, .slice ao n co, .string a4] 25)).alloc (.cells #[.string vl] 9)).alloc (.cells #[.string nm, .slice (some ⟨w3.heap.size + 1, 0, none⟩) 1 1] 40)) := (hal1.alloc (by simp) _).alloc (by simp; omega) _
      have hvown : Own w2.heap.size (.slice (some ⟨w3.heap.size + 1, 0, none⟩) 1 1) [vl.data.toList] (((w3.alloc (.cells #[.string a1, .string a2, .slice ao n co, .string a4] 25)).alloc (.cells #[.string vl] 9)).alloc (.cells #[.string nm, .slice (some ⟨w3.heap.size + 1, 0, none⟩) 1 1] 40)) := by
        have h := World.ownsRow_lit (base := w2.heap.size) (e := 9) (size := 1) (w3.alloc (.cells #[.string a1, .string a2, .slice ao n co, .string a4] 25)) #[.string vl] 1 (by have := hb3.size; simp; omega) (by unfold maxLen; omega) rfl
        have h2 := h.alloc (.cells #[.string nm, .slice (some ⟨w3.heap.size + 1, 0, none⟩) 1 1] 40)
        unfold Own
        simp only [List.map_cons, List.map_nil, sv_data]
        simpa using h2
      have hboxm : (((w3.alloc (.cells #[.string a1, .string a2, .slice ao n co, .string a4] 25)).alloc (.cells #[.string vl] 9)).alloc (.cells #[.string nm, .slice (some ⟨w3.heap.size + 1, 0, none⟩) 1 1] 40)).heap[w3.heap.size]? = some (.cells #[.string a1, .string a2, .slice ao n co, .string a4] 25 (0, 0)) := by
        rw [Below.heap_alloc _ _ _ (by simp; omega), Below.heap_alloc _ _ _ (by simp)]
        exact heap_alloc_new w3 _
      have hrow2 := ownsRow_kept hrow hal2
      have hvals2 := fun j p u hp hu => (hvals j p u hp hu).kept hal2
      have hlt := hrow.lt
      have hmore : ∀ (v' : Value) (w' : World), w'.ownsRow w2.heap.size 40 2 v' (n + 1) (pcells L.params us ++ [.string nm, .slice (some ⟨w3.heap.size + 1, 0, none⟩) 1 1]) →
          (((w3.alloc (.cells #[.string a1, .string a2, .slice ao n co, .string a4] 25)).alloc (.cells #[.string vl] 9)).alloc (.cells #[.string nm, .slice (some ⟨w3.heap.size + 1, 0, none⟩) 1 1] 40)).grownBy w' (Value.slice ao n co).ownBlock → POwn w2.heap.size v' (L.params ++ [⟨nm.data.toList, [vl.data.toList]⟩]) w' := fun v' w' h5 h6 => by
        refine POwn.more (p := ⟨nm.data.toList, [vl.data.toList]⟩) (w' := w') (v' := v') hus (by rw [hn'.out]; exact hrow2) hvals2 hvown (by rw [hn'.out, sv_data]; exact h5) h6
      have hmore' := Lib.hid hmore
      have hlt' := Lib.hid hlt
      have hboxm' := Lib.hid hboxm
      have hz2 : w2.heap.size ≤ w3.heap.size := hb3.size
      clear hus hrow hvals hvals2 hvown hmore hlt hboxm hal1 cC cN k0 k1 k2 k3
      go_wp2_with (at_builtin; refine wpList_append_own _ rfl _ _ 23 rfl w2.heap.size 40 j0 (.agg #[.string ⟨#[]⟩, .slice none 0 0]) 2 40 Tryd.underlying23 hj hjz0 hjz1 hjz2 rfl (by decide) _ _ _ rfl hrow2 ⟨w3.heap.size + 2, 0, none⟩ 1 1 [.string nm, .slice (some ⟨w3.heap.size + 1, 0, none⟩) 1 1] rfl rfl ?d1 ?d2 ?d3 ?d4 ?d5 ?_)
      case d1 =>
        intro j u hj
        match j, hj with
        | 0, hj => simp at hj; subst hj; simp [Addr.add]; rw [World.cell?_alloc_at _ _ _ _ (by simp)]; rfl
        | 1, hj => simp at hj; subst hj; simp [Addr.add]; rw [World.cell?_alloc_at _ _ _ _ (by simp)]; rfl
      case d2 => intro u hu; simp at hu; rcases hu with rfl | rfl <;> rfl
      case d3 => unfold maxLen; omega
      case d4 => omega
      case d5 => simp; omega
      intro v5 w5 hown5 hg5 _
      have hP5 := hmore'.out v5 w5 hown5 hg5
      have hne : ∀ g, (Value.slice ao n co).ownBlock = some g → g < w3.heap.size := fun g hg => (hlt'.out g hg).2
      have hbase : ∀ g, (Value.slice ao n co).ownBlock = some g → w2.heap.size ≤ g := fun g hg => (hlt'.out g hg).1
      have hbm : w5.heap[w3.heap.size]? = some (.cells #[.string a1, .string a2, .slice ao n co, .string a4] 25 (0, 0)) := by
        rw [hg5.block w3.heap.size (by simp; omega) (fun e => by have := hne _ e.symm; omega)]
        exact hboxm'.out
      have hb5 : Below w2.heap.size w2 w5 := (hb3.trans (hal2.mono hb3.size)).grown hg5 (by simp; omega) hbase
      obtain ⟨av, cv, hv5⟩ := hP5.form
      obtain ⟨q, hq⟩ : ∃ q, (L.params ++ [(⟨nm.data.toList, [vl.data.toList]⟩ : PD)]).length = q := ⟨_, rfl⟩
      rw [hq] at hv5
      subst hv5
      have hqn : q ≤ n + 1 := by rw [← hq, List.length_append, hn'.out]; exact Nat.le_refl _
      have hP6 : POwn w2.heap.size (.slice av q cv) (L.params ++ [⟨nm.data.toList, [vl.data.toList]⟩]) (w5.setCell ⟨w3.heap.size, 2, none⟩ (.slice av q cv)) := hP5.other hbm (by decide) (by decide)
      have hbm6 : (w5.setCell ⟨w3.heap.size, 2, none⟩ (.slice av q cv)).heap[w3.heap.size]? = some (.cells #[.string a1, .string a2, .slice av q cv, .string a4] 25 (0, 0)) := by
        simp [World.setCell, Array.getElem?_modify, hbm]
      have hb6 : Below w2.heap.size w2 (w5.setCell ⟨w3.heap.size, 2, none⟩ (.slice av q cv)) := hb5.setCell (p := ⟨w3.heap.size, 2, none⟩) hz2 _
      have hB6 := below_then hB2 hb6
      have hb6' := below_then hb2' hb6
      have hM : LineAt (w5.setCell ⟨w3.heap.size, 2, none⟩ (.slice av q cv)) (.agg #[.string a1, .string a2, .slice av q cv, .string a4]) (addP L ⟨nm.data.toList, [vl.data.toList]⟩) := ⟨.slice av q cv, by unfold addP; rw [ha1'.out, ha2'.out, ha4'.out], hP6.at⟩
      have hSM : SmallL (addP L ⟨nm.data.toList, [vl.data.toList]⟩) := ⟨hS'.out.group, hS'.out.name, hS'.out.value, fun p hp => by
        rcases List.mem_append.1 hp with hp | hp
        · exact hS'.out.params p hp
        · obtain rfl := List.mem_singleton.1 hp
          refine ⟨by show nm.data.toList.length ≤ _; rw [← Lib.size_eq]; omega, fun x hx => ?_⟩
          obtain rfl := List.mem_singleton.1 hx
          rw [← Lib.size_eq]; omega⟩
      have cP2 := print_any _ _ (w5.setCell ⟨w3.heap.size, 2, none⟩ (.slice av q cv)) hM hSM (by have := hpm'.out; omega) (Ch.tabs_below hT'.out hB6)
      obtain ⟨m0, m1, m2, m3, r0, r1, r2, r3⟩ := res4 hbm
      clear hown5 hg5 hM hSM hP5 hP6 hbm hb5 hrow2 hal2 hB1 hB3 hb3 hb3' hB2 hmore' hq hne hbase
      go_wp2_with fail
      go_at_call 14
      refine cP2.mono ?_
      rintro e w7 ⟨hPr, hb7⟩
      have hB7 := below_then hB6 hb7
      have hb7' := below_then hb6' hb7
      clear cP2 hb7 hb6 hb6' hB6 m0 m1 m2 m3 r0 r1 r2 r3 hbm6
      rcases hPr with ⟨hc, rfl⟩ | ⟨hc, s, hs, rfl⟩
      · obtain ⟨m, hm⟩ : ∃ m, chk (addP L ⟨nm.data.toList, [vl.data.toList]⟩) = m := ⟨_, rfl⟩
        have hm10 : m = 10 := by
          have := chk_add (v := vl.data.toList) h0'.out hG'.out
          rw [hm] at this hc
          omega
        rw [hm, hm10]
        clear hm hc hm10
        go_wp2
        go_ret
        exact ⟨rfl, hB7⟩
      · have hgood := good_chk hc
        have hss : s.size ≤ 1099511627776 := by rw [Lib.size_eq, hs]; exact hpm'.out
        have cR := parse_any s w7 (Ch.tabs_below hT'.out hB7) hss
        rw [hs] at cR
        obtain ⟨pa, hpa⟩ := pr_value (addP L ⟨nm.data.toList, [vl.data.toList]⟩)
        have hval : (addP L ⟨nm.data.toList, [vl.data.toList]⟩).value = a4.data.toList := hd4'.out.symm
        rw [hval] at hpa
        obtain ⟨hle, hext⟩ := suffix_eq s a4 pa (hs.trans hpa)
        obtain ⟨d, hd⟩ : ∃ d, s.size - a4.size = d := ⟨_, rfl⟩
        rw [hd] at hext
        have hdI : (s.size : Int) - (a4.size : Int) = (d : Int) := by omega
        have hdl : d ≤ s.size := by omega
        have hext' := Lib.hid hext
        have hdI' := Lib.hid hdI
        have hgood' := Lib.hid hgood
        clear hs hc hpa hval hext hd hdI hgood
        go_wp2_with fail
        go_at_call 9
        refine cR.mono ?_
        rintro e w8 ⟨hR, hb8⟩
        clear cR
        rcases hR with ⟨m, h, _, _, _⟩ | ⟨M, x, h, rfl, hown⟩
        · rw [parse_pr _ hgood'.out] at h; cases h
        · rw [parse_pr _ hgood'.out] at h
          obtain rfl := LR.ok.inj h
          clear h
          have hB8 := below_then hB7 hb8
          have hb8' := below_then hb7' hb8
          obtain ⟨px, rfl, A8, b8, o8, c8, rfl, g1, g2, g3, g4⟩ := hown.at
          have hlen : (addP L ⟨nm.data.toList, [vl.data.toList]⟩).params.length = n + 1 := by unfold addP; rw [List.length_append, hn'.out]; rfl
          rw [hlen] at g1 g3 ⊢
          obtain ⟨hA8, hb8l⟩ := g3 (by omega)
          subst hA8
          have hlast : (addP L ⟨nm.data.toList, [vl.data.toList]⟩).params[n]? = some ⟨nm.data.toList, [vl.data.toList]⟩ := by
            show (L.params ++ [_])[n]? = _
            rw [← hn'.out, List.getElem?_append_right (Nat.le_refl _), Nat.sub_self]; rfl
          obtain ⟨cn, z, cz, A9, b9, o9, c9, rfl, _, _, e3, e4⟩ := g4 n _ hlast
          obtain ⟨hA9, hb9l⟩ := e3 (by show 0 < 1; omega)
          subst hA9
          have cv := e4 0 _ rfl
          dsimp only at cn
          rw [sv_data] at cn cv
          rw [Nat.add_zero] at cv
          rw [show (addP L ⟨nm.data.toList, [vl.data.toList]⟩).group = L.group from rfl, show (addP L ⟨nm.data.toList, [vl.data.toList]⟩).name = L.name from rfl, show (addP L ⟨nm.data.toList, [vl.data.toList]⟩).value = L.value from rfl, ha1'.out, ha2'.out, ha4'.out]
          rw [show ([vl.data.toList] : List Row).length = 1 from rfl] at cz
          clear hown g3 g4 hlast hlen e3 e4 hgood'
          unfold maxLen at g2
          have hal : Below w8.heap.size w8 (w8.alloc (.cells #[.string a1, .string a2, .slice (some ⟨b8, o8, none⟩) (n + 1) c8, .string a4] 25)) := (Below.refl _ _).alloc (Nat.le_refl _) _
          obtain ⟨k0, k1, k2, k3⟩ := hF'.out _ (below_then hb8' hal)
          have hBf := hB8.trans (hal.mono hB8.size)
          have hzk : w.heap.size < w8.heap.size := by have := hb8'.size; omega
          have hBg := hBf.trans ((Below.refl _ _).alloc (by have := hBf.size; simp at this ⊢; omega) (.cells #[.string nm, .slice (some ⟨b9, o9, none⟩) 1 c9] 40))
          go_wp2
          have hext := hext'.out
          have hdI := hdI'.out
          go_quiet (fail)
          go_wp2
          go_ret
          exact ⟨rfl, below_drewN _ hBg⟩
end Go.Proofs.YthkcjfoihieooaaDoor.Li
