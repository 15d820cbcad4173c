/-
  THE WALK OF THE LAW HttpGets.
-/
import Derived.Test.YtiaollhiggeolaaDoorHttpFirst
import Derived.Test.YtiaollhiggeolaaDoorCharLetters
import Derived.IntWalk
import Derived.BigQuiet
import Derived.Deep.QuietTactic
import Derived.LoopTactic
set_option linter.unusedVariables false
namespace Go.Proofs.YtiaollhiggeolaaDoor.Ht
open Go.Lib Go.RowKit

theorem getF_hit {F : List Fd} {nm : Row} {k : Nat} {p : Fd} (h : ∀ (j : Nat) (q : Fd), j < k → F[j]? = some q → Ch.low q.1 ≠ Ch.low nm) (hp : F[k]? = some p) (e : Ch.low p.1 = Ch.low nm) : getF F nm = some p.2 := by
  induction F generalizing k with
  | nil => simp at hp
  | cons q F ih =>
    unfold getF at ih ⊢
    cases k with
    | zero =>
      simp at hp
      subst hp
      simp [e]
    | succ k =>
      have hq := h 0 q (by omega) rfl
      rw [List.find?_cons, decide_eq_false hq]
      exact ih (k := k) (fun j r hj hr => h (j + 1) r (by omega) (by simpa using hr)) (by simpa using hp)
theorem getF_none {F : List Fd} {nm : Row} (h : ∀ (j : Nat) (q : Fd), F[j]? = some q → Ch.low q.1 ≠ Ch.low nm) : getF F nm = none := by
  unfold getF
  rw [List.find?_eq_none.2 (fun q hq => by
    obtain ⟨j, hj⟩ := List.getElem?_of_mem hq
    simpa using h j q hj)]
  rfl
theorem szF_mem {F : List Fd} {p : Fd} (h : p ∈ F) : p.1.length + p.2.length + 1 ≤ szF F := by
  induction F with
  | nil => cases h
  | cons q F ih =>
    unfold szF at ih ⊢
    simp only [List.map_cons, List.sum_cons]
    rcases List.mem_cons.1 h with rfl | h
    · omega
    · have := ih h; omega
theorem szF_len (F : List Fd) : F.length ≤ szF F := by
  induction F with
  | nil => exact Nat.zero_le _
  | cons q F ih =>
    unfold szF at ih ⊢
    simp only [List.map_cons, List.sum_cons, List.length_cons]
    omega
set_option maxHeartbeats 4000000 in
set_option maxRecDepth 100000 in
theorem gets_walk {G : World → Prop} (hK : Keeps G) (cP : ParseQC G) (cA : PrintAC G) (cG : GetC G) (v : Value) (F : List Fd) (nm : ByteArray) (w : World) (h : FsAt w v F) (s1 : szF F ≤ mostF) (s2 : nm.size ≤ mostS) (hG : G w) :
    Calls Tryd.prog 4 #[v, .string nm] w fun e w' => e = .returned (.bool true) ∧ Below w.heap.size w w' := by
  have c0 := first_any hK cP cA w hG
  have c1 := fun (W : World) (hW : Below w.heap.size w W) => cG v F nm W (h.kept hW) s2 s1 (hK w W hG hW)
  have cL := fun (x : ByteArray) (hx : x.size ≤ mostS) (W : World) => Ch.refLower_any x W (by unfold mostS at hx; omega)
  have hlen := szF_len F
  have hmem : Hid (∀ p ∈ F, p.1.length ≤ mostS) := Lib.hid fun p hp => by have := szF_mem hp; unfold mostF at s1; unfold mostS; omega
  obtain ⟨A, b, off, c, rfl, hc1, hc2, hA, hP⟩ := h
  obtain ⟨n, hn⟩ : ∃ n, F.length = n := ⟨_, rfl⟩
  rw [hn] at hc1 hA c1 ⊢
  unfold maxLen at hc2
  have hA' := Lib.hid hA
  have hP' := Lib.hid hP
  have c1' := Lib.hid c1
  have cL' := Lib.hid cL
  clear hA hP c1 cL
  go_enter Tryd.func4, Tryd.ntmps4
  go_wp2_with fail
  go_at_call 8
  with_reducible refine c0.mono ?_
  rintro e w1 ⟨rfl, hb1⟩
  have hb1' := Lib.hid hb1
  clear c0 hb1
  go_wp2_with fail
  go_at_call 19
  with_reducible refine (c1'.out w1 hb1'.out).mono ?_
  rintro e w2 ⟨rfl, hb2⟩
  have hb2' := below_then hb1'.out hb2
  clear hb2 hb1'
  obtain ⟨V, eV, hV⟩ := sv_some ((getF F nm.data.toList).getD [])
  obtain ⟨K, hKe⟩ : ∃ K, (getF F nm.data.toList).isSome = K := ⟨_, rfl⟩
  rw [eV, hKe]
  have hV' := Lib.hid hV
  have hKe' := Lib.hid hKe
  clear eV hV hKe c1'
  go_wp2_with fail
  go_loopw [19] (fun s19 wr => ∃ k : Nat, s19 = .int .i64 (k : Int) ∧ k ≤ n ∧ (∀ (j : Nat) (q : Fd), j < k → F[j]? = some q → Ch.low q.1 ≠ Ch.low nm.data.toList) ∧ Below w.heap.size w wr) (fun s19 wr => n - (RowKit.intOf s19).toNat)
  case atStart => exact ⟨0, rfl, Nat.zero_le _, fun j q hj => absurd hj (by omega), hb2'⟩
  case round =>
    obtain ⟨k, rfl, hk, hall, hbr⟩ := hrel
    by_cases hlt : k < n
    · have hp : F[k]? = some (F[k]'(by omega)) := List.getElem?_eq_getElem _
      obtain ⟨p, hpe⟩ : ∃ p, F[k]'(by omega) = p := ⟨_, rfl⟩
      rw [hpe] at hp
      clear hpe
      obtain ⟨rfl, hAb⟩ := hA'.out (by omega)
      obtain ⟨a1, a2, d1, d2, p0, p1⟩ := FsAt.field hP'.out hAb hbr hp
      have hla := hmem.out p (List.mem_of_getElem? hp)
      have cLa := cL'.out a1 (by rw [Lib.size_eq, d1]; exact hla)
      have cLb := cL'.out nm s2
      rw [d1] at cLa
      have hall' := Lib.hid hall
      have hbr' := Lib.hid hbr
      have hp' := Lib.hid hp
      have d1' := Lib.hid d1
      have d2' := Lib.hid d2
      clear hall hbr hp d1 d2
      go_wp2_with fail
      go_at_call 20
      have OY : (wr.alloc (.cells #[.string a1, .string a2] 47)).heap[wr.heap.size]? = some (.cells #[.string a1, .string a2] 47 (0, 0)) := heap_alloc_new wr _
      have hbz : Below w.heap.size w (wr.alloc (.cells #[.string a1, .string a2] 47)) := hbr'.out.alloc hbr'.out.size _
      have hbz' := Lib.hid hbz
      with_reducible refine (cLa _).mono ?_
      rintro e w3 ⟨rfl, hb3⟩
      have OY3 := (hb3.block _ (Array.getElem?_eq_some_iff.1 OY).1).trans OY
      have hb3' := Lib.hid (below_then hbz hb3)
      have OY3' := Lib.hid OY3
      obtain ⟨X1, eX1⟩ : ∃ X1 : ByteArray, (⟨(Ch.low p.1).toArray⟩ : ByteArray) = X1 := ⟨_, rfl⟩
      have dX1 : X1.data.toList = Ch.low p.1 := by rw [← eX1]
      rw [eX1]
      clear OY hbz hb3 OY3 cLa eX1 p0 p1 hbz'
      go_wp2_with fail
      go_at_call 20
      with_reducible refine (cLb _).mono ?_
      rintro e w4 ⟨rfl, hb4⟩
      have OY4 := (hb4.block _ (Array.getElem?_eq_some_iff.1 OY3'.out).1).trans OY3'.out
      have hb4' := Lib.hid (below_then hb3'.out hb4)
      obtain ⟨X2, eX2⟩ : ∃ X2 : ByteArray, (⟨(Ch.low nm.data.toList).toArray⟩ : ByteArray) = X2 := ⟨_, rfl⟩
      have dX2 : X2.data.toList = Ch.low nm.data.toList := by rw [← eX2]
      rw [eX2]
      have q1 : w4.cell? ⟨wr.heap.size, 1, none⟩ = some (.string a2) := (Lib.cell_of_heap OY4 1).trans rfl
      clear hb4 OY4 cLb eX2 OY3' hb3'
      have hE : (X1.toList == X2.toList) = decide (Ch.low p.1 = Ch.low nm.data.toList) := by
        rw [Lib.toList_data, Lib.toList_data, dX1, dX2, Bool.eq_iff_iff, decide_eq_true_iff, beq_iff_eq]
      by_cases hc : Ch.low p.1 = Ch.low nm.data.toList
      · rw [decide_eq_true hc] at hE
        have hg := getF_hit hall'.out hp'.out hc
        have hKt : K = true := by rw [← hKe'.out, hg]; rfl
        have hVt : V.data.toList = p.2 := by rw [hV'.out, hg]; rfl
        have hE2 : (V.toList == a2.toList) = true := by rw [Lib.toList_data, Lib.toList_data, hVt, d2'.out, beq_self_eq_true]
        subst hKt
        clear hVt hg hc dX1 dX2
        go_wp2
        go_ret
        exact ⟨rfl, hb4'.out⟩
      · rw [decide_eq_false hc] at hE
        have hnx : Hid (∀ (j : Nat) (q : Fd), j < k + 1 → F[j]? = some q → Ch.low q.1 ≠ Ch.low nm.data.toList) := Lib.hid fun j q hj hq => by
          by_cases hjk : j = k
          · rw [hjk, hp'.out] at hq
            rw [← Option.some.inj hq]
            exact hc
          · exact hall'.out j q (by omega) hq
        clear hc dX1 dX2
        go_wp2
        go_roundw
        case rel => exact ⟨k + 1, by go_num, by omega, hnx.out, hb4'.out⟩
        case measure => simp [RowKit.intOf]; omega
    · have hg := getF_none (F := F) (nm := nm.data.toList) fun j q hq => hall j q (by have := (List.getElem?_eq_some_iff.1 hq).1; omega) hq
      have hKt : K = false := by rw [← hKe'.out, hg]; rfl
      have hVt : V.data.toList = [] := by rw [hV'.out, hg]; rfl
      have hV0 : V = ⟨#[]⟩ := data_is (by rw [hVt])
      subst hKt
      subst hV0
      have hbr' := Lib.hid hbr
      clear hall hg hVt hbr
      go_wp2
      go_ret
      exact ⟨rfl, hbr'.out⟩
end Go.Proofs.YtiaollhiggeolaaDoor.Ht
