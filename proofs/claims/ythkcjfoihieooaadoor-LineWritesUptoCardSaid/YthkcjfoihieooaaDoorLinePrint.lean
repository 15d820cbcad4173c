/-
  THE WALK OF line.Print.
-/
import Derived.Test.YthkcjfoihieooaaDoorLineCheck
import Derived.Test.YthkcjfoihieooaaDoorLineWrParam
set_option linter.unusedVariables false
namespace Go.Proofs.YthkcjfoihieooaaDoor.Li
open Go.Lib Go.RowKit Bu

/-- what Print answers -/
def PrintP (L : LD) (e : Ending) : Prop :=
  (chk L ≠ 0 ∧ e = .returned (.tuple #[.string ⟨#[]⟩, .int .i64 (chk L : Int)])) ∨
  (chk L = 0 ∧ ∃ s : ByteArray, s.data.toList = pr L ∧ e = .returned (.tuple #[.string s, .int .i64 0]))
theorem wprms_take (ps : List PD) (k : Nat) (p : PD) (h : ps[k]? = some p) : wprms (ps.take (k + 1)) = wprms (ps.take k) ++ wprm p := by
  obtain ⟨hl, hv⟩ := List.getElem?_eq_some_iff.1 h
  rw [List.take_succ_eq_append_getElem hl, hv]
  simp [wprms]
theorem wprms_append (a b : List PD) : wprms (a ++ b) = wprms a ++ wprms b := by simp [wprms]
theorem wprms_take_le (ps : List PD) (k : Nat) : (wprms (ps.take k)).length ≤ (wprms ps).length := by
  have := congrArg List.length (wprms_append (ps.take k) (ps.drop k))
  rw [List.take_append_drop, List.length_append] at this
  omega
theorem StrsAt.form {w : World} {v : Value} {ls : List Row} (h : StrsAt w v ls) : ∃ A c, v = .slice A ls.length c := by
  obtain ⟨A, b, o, c, h, _⟩ := h
  exact ⟨A, c, h⟩
/-- the lengths that Print comes by -/
structure Lens (acc : Row) (L : LD) : Prop where
  name : acc.length + L.name.length ≤ 140737488355328
  prm : ∀ (k : Nat) (p : PD), L.params[k]? = some p → (acc ++ L.name ++ wprms (L.params.take k)).length + (wprm p).length ≤ 140737488355328
  colon : (acc ++ L.name ++ wprms L.params).length + 1 ≤ 140737488355328
  value : (acc ++ L.name ++ wprms L.params ++ [58]).length + L.value.length ≤ 140737488355328
  fin : acc ++ L.name ++ wprms L.params ++ [58] ++ L.value = pr L
theorem Lens.of {acc : Row} {L : LD} (h : acc ++ L.name ++ (wprms L.params ++ 58 :: L.value) = pr L) (hl : (pr L).length ≤ 140737488355328) : Lens acc L := by
  rw [← h] at hl
  simp only [List.length_append, List.length_cons] at hl
  refine ⟨by omega, fun k p hp => ?_, by simp only [List.length_append]; omega, by simp only [List.length_append, List.length_singleton]; omega, by rw [← h]; simp⟩
  have h1 := wprms_take L.params k p hp
  have h2 := wprms_take_le L.params (k + 1)
  rw [h1, List.length_append] at h2
  simp only [List.length_append]
  omega

set_option maxHeartbeats 16000000 in
set_option maxRecDepth 100000 in
theorem print_any (v : Value) (L : LD) (w : World) (hv : LineAt w v L) (hS : SmallL L) (hlen : (pr L).length ≤ 140737488355328) (hT : Ch.Tabs w) :
    Calls Tryd.prog 14 #[v] w fun e w' => PrintP L e ∧ Below w.heap.size w w' := by
  have hbad : ∀ m : Nat, chk L = m → m ≠ 0 → PrintP L (.returned (.tuple #[.string ⟨#[]⟩, .int .i64 (m : Int)])) := fun m h h0 => .inl ⟨by rw [h]; exact h0, by rw [h]⟩
  have hgood : chk L = 0 → ∀ s : ByteArray, s.data.toList = pr L → PrintP L (.returned (.tuple #[.string s, .int .i64 0])) := fun h s hs => .inr ⟨h, s, hs, rfl⟩
  have hcond : ∀ w', Below w.heap.size w w' → LineAt w' v L := fun w' h => hv.kept h
  obtain ⟨pv, rfl, A, b, o, c, rfl, h1, h2, h3, h4⟩ := hv
  have hprl : pr L = (if L.group = [] then L.name else L.group ++ 46 :: L.name) ++ (wprms L.params ++ 58 :: L.value) := rfl
  obtain ⟨n, hn⟩ : ∃ n, L.params.length = n := ⟨_, rfl⟩
  rw [hn] at h1 h3 hcond ⊢
  unfold sv at hcond
  unfold sv
  obtain ⟨a1, ha1⟩ : ∃ a : ByteArray, (⟨L.group.toArray⟩ : ByteArray) = a := ⟨_, rfl⟩
  obtain ⟨a2, ha2⟩ : ∃ a : ByteArray, (⟨L.name.toArray⟩ : ByteArray) = a := ⟨_, rfl⟩
  obtain ⟨a4, ha4⟩ : ∃ a : ByteArray, (⟨L.value.toArray⟩ : ByteArray) = a := ⟨_, rfl⟩
  have d1 : a1.data.toList = L.group := by rw [← ha1]
  have d2 : a2.data.toList = L.name := by rw [← ha2]
  have d4 : a4.data.toList = L.value := by rw [← ha4]
  rw [ha1, ha2, ha4] at hcond ⊢
  clear ha1 ha2 ha4
  have hal : Below w.heap.size w (w.alloc (.cells #[.string a1, .string a2, .slice A n c, .string a4] 25)) := (Below.refl _ _).alloc (Nat.le_refl _) _
  have hbox := heap_alloc_new w (.cells #[.string a1, .string a2, .slice A n c, .string a4] 25)
  have hC := check_any _ L _ (hcond _ hal) hS (Ch.tabs_below hT hal)
  unfold ChkP at hC
  obtain ⟨m, hm⟩ : ∃ m, chk L = m := ⟨_, rfl⟩
  rw [hm] at hC
  have hbox' := Lib.hid hbox
  have hbad' := Lib.hid (hbad m hm)
  have hgood' := Lib.hid hgood
  have hm' := Lib.hid hm
  have hprl' := Lib.hid hprl
  have hn' := Lib.hid hn
  have h3' := Lib.hid h3
  have h4' := Lib.hid h4
  have hS' := Lib.hid hS
  have hT' := Lib.hid hT
  have d1' := Lib.hid d1
  have d2' := Lib.hid d2
  have d4' := Lib.hid d4
  have hE : (L.group = [] ∧ a1.toList.isEmpty = true) ∨ (L.group ≠ [] ∧ a1.toList.isEmpty = false) := by
    by_cases h : L.group = []
    · exact .inl ⟨h, empty_of a1 (by rw [d1, h])⟩
    · exact .inr ⟨h, nonempty_of a1 (by rw [d1]; exact h)⟩
  have hz1 : a1.size = L.group.length := by rw [Lib.size_eq, d1]
  have hz2 : a2.size = L.name.length := by rw [Lib.size_eq, d2]
  have hz4 : a4.size = L.value.length := by rw [Lib.size_eq, d4]
  have hz1' := Lib.hid hz1
  have hz2' := Lib.hid hz2
  have hz4' := Lib.hid hz4
  unfold maxLen at h2
  clear hbad hgood hcond hprl hn hbox h3 h4 hm hS hT d1 d2 d4 hz1 hz2 hz4
  by_cases hm0 : m = 0
  · subst hm0
    clear hbad'
    go_enter Tryd.func14, Tryd.ntmps14
    go_wp2_with fail
    go_at_call 32
    refine hC.mono ?_
    rintro e W1 ⟨rfl, hb1⟩
    have hx1 : W1.heap[w.heap.size]? = some (.cells #[.string a1, .string a2, .slice A n c, .string a4] 25 (0, 0)) := (hb1.block _ (by simp)).trans hbox'.out
    have hzW : w.heap.size < W1.heap.size := (Array.getElem?_eq_some_iff.1 hx1).1
    have hw1 : Below w.heap.size w W1 := below_then hal hb1
    have hB0 : Below W1.heap.size W1 (W1.alloc (.cells #[.pointer none, .slice none 0 0] 62)) := (Below.refl _ _).alloc (Nat.le_refl _) _
    have hfr := fresh W1
    have hk0 := KeptT.of_below hB0
    have hzB : W1.heap.size ≤ (W1.alloc (.cells #[.pointer none, .slice none 0 0] 62)).heap.size := by simp
    -- what holds in each later world
    have hF : ∀ W, KeptT W1 W → W.cell? ⟨w.heap.size, 0, none⟩ = some (.string a1) ∧ W.cell? ⟨w.heap.size, 1, none⟩ = some (.string a2) ∧ W.cell? ⟨w.heap.size, 2, none⟩ = some (.slice A n c) ∧ W.cell? ⟨w.heap.size, 3, none⟩ = some (.string a4) := fun W hW => by
      have hk := hW _ _ _ _ hx1 (by decide) (by decide)
      obtain ⟨c0, c1, c2, c3, _⟩ := res4 hk
      exact ⟨c0, c1, c2, c3⟩
    have hF' := Lib.hid hF
    obtain ⟨k0, k1, k2, k3⟩ := hF W1 (KeptT.refl _)
    clear hC hb1 hx1 hF hal
    rcases hE with ⟨hg, he⟩ | ⟨hg, he⟩
    · have hacc : [] ++ L.name ++ (wprms L.params ++ 58 :: L.value) = pr L := by rw [hprl'.out, if_pos hg]; simp
      obtain ⟨acc, hac⟩ : ∃ acc : Row, [] = acc := ⟨_, rfl⟩
      rw [hac] at hacc hfr
      have hLen := Lens.of hacc hlen
      have hbd := hfr
      have hB := hB0
      have hkt := hk0
      have hWB := hzB
      clear hg hacc hac hfr
      go_wp2_with fail
      go_at_call 33
      have hN := write_full W1.heap.size W1.heap.size acc a2 _ hbd (by have := hz2'.out; have := hLen.name; omega) hWB
      rw [d2'.out] at hN
      have hB' := Lib.hid hB
      have hkt' := Lib.hid hkt
      clear hbd hB hkt
      refine hN.mono ?_
      rintro e W4 ⟨rfl, hbd4, hb4, ht4⟩
      have hB4 : Below W1.heap.size W1 W4 := hB'.out.trans hb4
      have hk4 : KeptT W1 W4 := hkt'.out.trans ht4
      obtain ⟨j0, j1, j2, j3⟩ := hF'.out W4 hk4
      have hk4' := Lib.hid hk4
      clear hN hb4 ht4 hk4 j0 j1 j3
      go_wp2
      clear j2
      go_loopw [26] (fun s26 wr => ∃ k : Nat, s26 = .int .i64 (k : Int) ∧ k ≤ n ∧ Bd W1.heap.size W1.heap.size (acc ++ L.name ++ wprms (L.params.take k)) wr ∧ Below W1.heap.size W1 wr ∧ KeptT W1 wr) (fun s26 wr => n - (RowKit.intOf s26).toNat)
      case atStart => exact ⟨0, rfl, Nat.zero_le _, by simpa [wprms] using hbd4, hB4, hk4'.out⟩
      case round =>
        obtain ⟨k, rfl, hk, hbd, hbw, hkt⟩ := hrel
        have hkt' := Lib.hid hkt
        clear hkt
        have hBr : W1.heap.size ≤ wr.heap.size := hbw.size
        have hwr : Below w.heap.size w wr := hw1.trans (hbw.mono (Nat.le_of_lt hzW))
        by_cases hlt : k < n
        · have hv : L.params[k]? = some (L.params[k]'(by have := hn'.out; omega)) := List.getElem?_eq_getElem _
          obtain ⟨V, hV⟩ : ∃ V, L.params[k]'(by have := hn'.out; omega) = V := ⟨_, rfl⟩
          have hVm : V ∈ L.params := by rw [← hV]; exact List.getElem_mem _
          rw [hV] at hv
          obtain ⟨rfl, hg⟩ := h3'.out (by omega)
          obtain ⟨hc, u, hu, hsu⟩ := h4'.out k V hv
          rw [← hwr.cell (p := ⟨b, o + k * 2, none⟩) hg] at hc
          rw [← hwr.cell (p := ⟨b, o + k * 2 + 1, none⟩) hg] at hu
          have hsm := (hS'.out.params V hVm).2
          have hp1 := hLen.prm k V hv
          have hp2 := wprms_take L.params k V hv
          obtain ⟨x, hx⟩ : ∃ x : ByteArray, (⟨V.name.toArray⟩ : ByteArray) = x := ⟨_, rfl⟩
          have hxd : x.data.toList = V.name := by rw [← hx]
          unfold sv at hc
          rw [hx] at hc
          have hVe : (⟨x.data.toList, V.vals⟩ : PD) = V := by rw [hxd]
          have hal : Below wr.heap.size wr (wr.alloc (.cells #[.string x, u] 40)) := (Below.refl _ _).alloc (Nat.le_refl _) _
          have hW := writeParam_any w W1.heap.size W1.heap.size (acc ++ L.name ++ wprms (L.params.take k)) x u V.vals (wr.alloc (.cells #[.string x, u] 40)) (hbd.kept hal) hsu (below_then hwr hal) (Nat.le_of_lt hzW) (by rw [hVe]; exact hp1) (by simp; omega) hsm
          rw [hVe, List.append_assoc, ← hp2] at hW
          have hbw2 : Below W1.heap.size W1 (wr.alloc (.cells #[.string x, u] 40)) := hbw.trans (hal.mono hBr)
          have hkt2 := Lib.hid (hkt'.out.trans (KeptT.of_below hal))
          obtain ⟨A2, c2, rfl⟩ := hsu.form
          obtain ⟨q, hq⟩ : ∃ q, V.vals.length = q := ⟨_, rfl⟩
          rw [hq] at hu hW hbw2 hkt2
          clear hv hV hVm hg hsu hsm hp1 hp2 hx hxd hVe hal hq hbd
          go_wp2_with fail
          go_at_call 35
          refine hW.mono ?_
          rintro e W5 ⟨rfl, hbd5, hb5, ht5⟩
          clear hW
          go_wp2
          go_roundw
          case rel => exact ⟨k + 1, by go_num, by omega, hbd5, hbw2.trans hb5, hkt2.out.trans ht5⟩
          case measure => simp [RowKit.intOf]; omega
        · rw [List.take_of_length_le (by have := hn'.out; omega)] at hbd
          have hC := byte_full W1.heap.size W1.heap.size _ 58 wr hbd hLen.colon hBr
          clear hbd
          go_wp2_with fail
          go_at_call 34
          refine hC.mono ?_
          rintro e W5 ⟨rfl, hbd5, hb5, ht5⟩
          have hB5 := hbw.trans hb5
          have hk5 := hkt'.out.trans ht5
          obtain ⟨j0, j1, j2, j3⟩ := hF'.out W5 hk5
          have hVal := write_full W1.heap.size W1.heap.size _ a4 W5 hbd5 (by have := hz4'.out; have := hLen.value; omega) hB5.size
          rw [d4'.out, hLen.fin] at hVal
          clear hC hb5 ht5 hbd5 hk5
          go_wp2_with fail
          go_at_call 33
          refine hVal.mono ?_
          rintro e W6 ⟨rfl, hbd6, hb6, ht6⟩
          have hB6 := hB5.trans hb6
          clear hVal hb6 ht6 j0 j1 j2 j3
          go_wp2_with (go_at_call 36; refine (text_any W1.heap.size W1.heap.size _ _ hbd6 hB6.size).mono ?_; rintro e W7 ⟨rfl, _, hb7⟩)
          go_ret2
          exact ⟨hgood'.out hm'.out _ rfl, hw1.trans ((hB6.trans hb7).mono (Nat.le_of_lt hzW))⟩
    · have hacc : (L.group ++ [46]) ++ L.name ++ (wprms L.params ++ 58 :: L.value) = pr L := by rw [hprl'.out, if_neg hg]; simp
      have hlp := congrArg List.length hacc
      simp only [List.length_append, List.length_singleton] at hlp
      have cG := write_full W1.heap.size W1.heap.size [] a1 _ hfr (by have := hz1'.out; simp; omega) hzB
      rw [List.nil_append, d1'.out] at cG
      have hLen := Lens.of hacc hlen
      have hl46 : L.group.length + 1 ≤ 140737488355328 := by omega
      clear hg hacc hlp
      go_wp2_with fail
      go_at_call 33
      refine cG.mono ?_
      rintro e W2 ⟨rfl, hbd2, hb2, ht2⟩
      have hB2 := hB0.trans hb2
      have ht2' := hk0.trans ht2
      have c46 := byte_full W1.heap.size W1.heap.size _ 46 W2 hbd2 hl46 (Nat.le_trans hzB hb2.size)
      obtain ⟨i0, i1, i2, i3⟩ := hF'.out W2 ht2'
      clear cG hbd2 hb2 ht2
      go_wp2_with fail
      go_at_call 34
      refine c46.mono ?_
      rintro e W3 ⟨rfl, hbd, hb3, ht3⟩
      have hB := hB2.trans hb3
      have hkt := ht2'.trans ht3
      have hWB := hB.size
      obtain ⟨acc, hac⟩ : ∃ acc : Row, L.group ++ [46] = acc := ⟨_, rfl⟩
      rw [hac] at hbd hLen
      clear i0 i1 i2 i3
      obtain ⟨i0, i1, i2, i3⟩ := hF'.out W3 hkt
      clear c46 hb3 ht3 hac hB2 ht2'
      go_wp2_with fail
      go_at_call 33
      have hN := write_full W1.heap.size W1.heap.size acc a2 W3 hbd (by have := hz2'.out; have := hLen.name; omega) hWB
      rw [d2'.out] at hN
      have hB' := Lib.hid hB
      have hkt' := Lib.hid hkt
      clear hbd hB hkt
      refine hN.mono ?_
      rintro e W4 ⟨rfl, hbd4, hb4, ht4⟩
      have hB4 : Below W1.heap.size W1 W4 := hB'.out.trans hb4
      have hk4 : KeptT W1 W4 := hkt'.out.trans ht4
      obtain ⟨j0, j1, j2, j3⟩ := hF'.out W4 hk4
      have hk4' := Lib.hid hk4
      clear hN hb4 ht4 hk4 j0 j1 j3
      go_wp2
      clear j2
      go_loopw [26] (fun s26 wr => ∃ k : Nat, s26 = .int .i64 (k : Int) ∧ k ≤ n ∧ Bd W1.heap.size W1.heap.size (acc ++ L.name ++ wprms (L.params.take k)) wr ∧ Below W1.heap.size W1 wr ∧ KeptT W1 wr) (fun s26 wr => n - (RowKit.intOf s26).toNat)
      case atStart => exact ⟨0, rfl, Nat.zero_le _, by simpa [wprms] using hbd4, hB4, hk4'.out⟩
      case round =>
        obtain ⟨k, rfl, hk, hbd, hbw, hkt⟩ := hrel
        have hkt' := Lib.hid hkt
        clear hkt
        have hBr : W1.heap.size ≤ wr.heap.size := hbw.size
        have hwr : Below w.heap.size w wr := hw1.trans (hbw.mono (Nat.le_of_lt hzW))
        by_cases hlt : k < n
        · have hv : L.params[k]? = some (L.params[k]'(by have := hn'.out; omega)) := List.getElem?_eq_getElem _
          obtain ⟨V, hV⟩ : ∃ V, L.params[k]'(by have := hn'.out; omega) = V := ⟨_, rfl⟩
          have hVm : V ∈ L.params := by rw [← hV]; exact List.getElem_mem _
          rw [hV] at hv
          obtain ⟨rfl, hg⟩ := h3'.out (by omega)
          obtain ⟨hc, u, hu, hsu⟩ := h4'.out k V hv
          rw [← hwr.cell (p := ⟨b, o + k * 2, none⟩) hg] at hc
          rw [← hwr.cell (p := ⟨b, o + k * 2 + 1, none⟩) hg] at hu
          have hsm := (hS'.out.params V hVm).2
          have hp1 := hLen.prm k V hv
          have hp2 := wprms_take L.params k V hv
          obtain ⟨x, hx⟩ : ∃ x : ByteArray, (⟨V.name.toArray⟩ : ByteArray) = x := ⟨_, rfl⟩
          have hxd : x.data.toList = V.name := by rw [← hx]
          unfold sv at hc
          rw [hx] at hc
          have hVe : (⟨x.data.toList, V.vals⟩ : PD) = V := by rw [hxd]
          have hal : Below wr.heap.size wr (wr.alloc (.cells #[.string x, u] 40)) := (Below.refl _ _).alloc (Nat.le_refl _) _
          have hW := writeParam_any w W1.heap.size W1.heap.size (acc ++ L.name ++ wprms (L.params.take k)) x u V.vals (wr.alloc (.cells #[.string x, u] 40)) (hbd.kept hal) hsu (below_then hwr hal) (Nat.le_of_lt hzW) (by rw [hVe]; exact hp1) (by simp; omega) hsm
          rw [hVe, List.append_assoc, ← hp2] at hW
          have hbw2 : Below W1.heap.size W1 (wr.alloc (.cells #[.string x, u] 40)) := hbw.trans (hal.mono hBr)
          have hkt2 := Lib.hid (hkt'.out.trans (KeptT.of_below hal))
          obtain ⟨A2, c2, rfl⟩ := hsu.form
          obtain ⟨q, hq⟩ : ∃ q, V.vals.length = q := ⟨_, rfl⟩
          rw [hq] at hu hW hbw2 hkt2
          clear hv hV hVm hg hsu hsm hp1 hp2 hx hxd hVe hal hq hbd
          go_wp2_with fail
          go_at_call 35
          refine hW.mono ?_
          rintro e W5 ⟨rfl, hbd5, hb5, ht5⟩
          clear hW
          go_wp2
          go_roundw
          case rel => exact ⟨k + 1, by go_num, by omega, hbd5, hbw2.trans hb5, hkt2.out.trans ht5⟩
          case measure => simp [RowKit.intOf]; omega
        · rw [List.take_of_length_le (by have := hn'.out; omega)] at hbd
          have hC := byte_full W1.heap.size W1.heap.size _ 58 wr hbd hLen.colon hBr
          clear hbd
          go_wp2_with fail
          go_at_call 34
          refine hC.mono ?_
          rintro e W5 ⟨rfl, hbd5, hb5, ht5⟩
          have hB5 := hbw.trans hb5
          have hk5 := hkt'.out.trans ht5
          obtain ⟨j0, j1, j2, j3⟩ := hF'.out W5 hk5
          have hVal := write_full W1.heap.size W1.heap.size _ a4 W5 hbd5 (by have := hz4'.out; have := hLen.value; omega) hB5.size
          rw [d4'.out, hLen.fin] at hVal
          clear hC hb5 ht5 hbd5 hk5
          go_wp2_with fail
          go_at_call 33
          refine hVal.mono ?_
          rintro e W6 ⟨rfl, hbd6, hb6, ht6⟩
          have hB6 := hB5.trans hb6
          clear hVal hb6 ht6 j0 j1 j2 j3
          go_wp2_with (go_at_call 36; refine (text_any W1.heap.size W1.heap.size _ _ hbd6 hB6.size).mono ?_; rintro e W7 ⟨rfl, _, hb7⟩)
          go_ret2
          exact ⟨hgood'.out hm'.out _ rfl, hw1.trans ((hB6.trans hb7).mono (Nat.le_of_lt hzW))⟩
  · have d1 : ((m : Int) != 0) = true := bne_iff_ne.2 (by omega)
    have d2 : ((m : Int) == 0) = false := beq_eq_false_iff_ne.2 (by omega)
    have hf := Lib.hid (hbad'.out hm0)
    clear hE
    go_enter Tryd.func14, Tryd.ntmps14
    go_wp2_with (go_at_call 32; refine hC.mono ?_; rintro e W1 ⟨rfl, hb1⟩)
    go_ret2
    exact ⟨hf.out, below_then hal hb1⟩
end Go.Proofs.YthkcjfoihieooaaDoor.Li
