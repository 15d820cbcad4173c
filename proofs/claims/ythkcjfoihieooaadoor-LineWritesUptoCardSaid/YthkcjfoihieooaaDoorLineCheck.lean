/-
  THE WALK OF line.check.
-/
import Derived.Test.YthkcjfoihieooaaDoorLinePred
import Derived.Test.YthkcjfoihieooaaDoorLineParse
import Derived.Laws.EntriesVeiled
set_option linter.unusedVariables false
namespace Go.Proofs.YthkcjfoihieooaaDoor.Li
open Go.Lib Go.RowKit Bu

structure SmallL (L : LD) : Prop where
  group : L.group.length ≤ 9223372036854775807
  name : L.name.length ≤ 9223372036854775807
  value : L.value.length ≤ 9223372036854775807
  params : Small L.params
theorem chk_30 {L : LD} (h : badN L = true) : chk L = 30 := by unfold chk; rw [if_pos h]
theorem chk_31 {L : LD} (h : badN L = false) (h2 : badF L = true) : chk L = 31 := by unfold chk; rw [h, if_neg (by decide), if_pos h2]
theorem chk_10 {L : LD} (h : badN L = false) (h2 : badF L = false) (h3 : badT L = true) : chk L = 10 := by unfold chk; rw [h, h2, if_neg (by decide), if_neg (by decide), if_pos h3]
theorem chk_0 {L : LD} (h : badN L = false) (h2 : badF L = false) (h3 : badT L = false) : chk L = 0 := by unfold chk; rw [h, h2, h3]; rfl
def ChkP (L : LD) (e : Ending) : Prop := e = .returned (.int .i64 (chk L : Int))
theorem ChkP.of {L : LD} {n : Nat} (h : chk L = n) : ChkP L (.returned (.int .i64 (n : Int))) := by unfold ChkP; rw [h]

set_option maxHeartbeats 8000000 in
set_option maxRecDepth 100000 in
theorem check_any (v : Value) (L : LD) (w : World) (hv : LineAt w v L) (hS : SmallL L) (hT : Ch.Tabs w) :
    Calls Tryd.prog 32 #[v] w fun e w' => ChkP L e ∧ Below w.heap.size w w' := by
  obtain ⟨pv, rfl, hP⟩ := hv
  have hpf : ∃ A c, pv = .slice A L.params.length c := by obtain ⟨A, b, o, c, h, _⟩ := hP; exact ⟨A, c, h⟩
  obtain ⟨A, c, rfl⟩ := hpf
  obtain ⟨n, hn⟩ : ∃ n, L.params.length = n := ⟨_, rfl⟩
  rw [hn] at hP ⊢
  clear hn
  unfold sv
  obtain ⟨a1, ha1⟩ : ∃ a : ByteArray, (⟨L.group.toArray⟩ : ByteArray) = a := ⟨_, rfl⟩
  obtain ⟨a2, ha2⟩ : ∃ a : ByteArray, (⟨L.name.toArray⟩ : ByteArray) = a := ⟨_, rfl⟩
  obtain ⟨a4, ha4⟩ : ∃ a : ByteArray, (⟨L.value.toArray⟩ : ByteArray) = a := ⟨_, rfl⟩
  have d1 : a1.data.toList = L.group := by rw [← ha1]
  have d2 : a2.data.toList = L.name := by rw [← ha2]
  have d4 : a4.data.toList = L.value := by rw [← ha4]
  rw [ha1, ha2, ha4]
  clear ha1 ha2 ha4
  have n1 := fun W => name_any a1 W (by rw [Lib.size_eq, d1]; exact hS.group)
  have n2 := fun W => name_any a2 W (by rw [Lib.size_eq, d2]; exact hS.name)
  rw [d1] at n1
  rw [d2] at n2
  obtain ⟨wA, hwA⟩ : ∃ wA, (w.alloc (.cells #[.string a1, .string a2, .slice A n c, .string a4] 25)).alloc (.cells #[.func (.func 52) #[] #[]] 32) = wA := ⟨_, rfl⟩
  have hbA : Below w.heap.size w wA := by rw [← hwA]; exact ((Below.refl _ _).alloc (Nat.le_refl _) _).alloc (by simp) _
  have hkA : wA.heap[w.heap.size]? = some (.cells #[.string a1, .string a2, .slice A n c, .string a4] 25 (0, 0)) := by
    rw [← hwA, Below.heap_alloc _ _ _ (by simp)]
    exact heap_alloc_new w _
  have hoA : wA.heap[w.heap.size + 1]? = some (.cells #[.func (.func 52) #[] #[]] 32 (0, 0)) := by
    rw [← hwA]
    have := heap_alloc_new (w.alloc (.cells #[.string a1, .string a2, .slice A n c, .string a4] 25)) (.cells #[.func (.func 52) #[] #[]] 32)
    simpa using this
  have hzA : w.heap.size + 1 < wA.heap.size := (Array.getElem?_eq_some_iff.1 hoA).1
  have hF : ∀ W, Below wA.heap.size wA W → W.cell? ⟨w.heap.size, 0, none⟩ = some (.string a1) ∧ W.cell? ⟨w.heap.size, 1, none⟩ = some (.string a2) ∧ W.cell? ⟨w.heap.size, 2, none⟩ = some (.slice A n c) ∧ W.cell? ⟨w.heap.size, 3, none⟩ = some (.string a4) ∧
      W.cell? ⟨w.heap.size + 1, 0, none⟩ = some (.func (.func 52) #[] #[]) ∧ w.heap.size + 1 < W.heap.size ∧ Below w.heap.size w W := fun W hW => by
    have hk := (hW.block w.heap.size (by omega)).trans hkA
    have ho := (hW.block (w.heap.size + 1) hzA).trans hoA
    obtain ⟨c0, c1, c2, c3, _⟩ := res4 hk
    exact ⟨c0, c1, c2, c3, by rw [Lib.cell_of_heap ho]; rfl, Nat.lt_of_lt_of_le hzA hW.size, hbA.trans (hW.mono hbA.size)⟩
  have cU : ∀ W, Below wA.heap.size wA W → Calls Tryd.prog 55 #[.slice A n c, .func (.func 50) #[] #[]] W fun e w' => e = .returned (.bool (L.params.any fun p => !nameB p.name)) ∧ Below W.heap.size W w' := fun W hW =>
    containsFuncP 50 #[] _ L.params _ W (enters_of Tryd.func50 (by kernel_rfl) rfl) (hP.kept (hF W hW).2.2.2.2.2.2) (unnamed_is _ hS.params W)
  have cN : ∀ W, Below wA.heap.size wA W → Calls Tryd.prog 55 #[.slice A n c, .func (.func 51) #[] #[]] W fun e w' => e = .returned (.bool (badF L)) ∧ Below W.heap.size W w' := fun W hW =>
    containsFuncP 51 #[] _ L.params _ W (enters_of Tryd.func51 (by kernel_rfl) rfl) (hP.kept (hF W hW).2.2.2.2.2.2) (unvalued_is _ W)
  have cO : ∀ W, Below wA.heap.size wA W → Calls Tryd.prog 55 #[.slice A n c, .func (.func 53) #[] #[.pointer (some ⟨w.heap.size + 1, 0, none⟩)]] W fun e w' => e = .returned (.bool (L.params.any fun p => p.vals.any fun v => !okV v)) ∧ Below W.heap.size W w' := fun W hW =>
    containsFuncP 53 _ _ L.params _ W (enters_of Tryd.func53 (by kernel_rfl) rfl) (hP.kept (hF W hW).2.2.2.2.2.2) (oddly_is _ hS.params _ W (hF W hW).2.2.2.2.2.1 (hF W hW).2.2.2.2.1 (Ch.tabs_below hT (hF W hW).2.2.2.2.2.2))
  have cT : ∀ W, Below wA.heap.size wA W → Calls Tryd.prog 21 #[.string a4, .string ⟨#[13, 10]⟩] W fun e w' => e = .returned (.bool (okT L.value)) ∧ Below W.heap.size W w' := fun W hW => by
    have := plainT_any a4 W (Ch.tabs_below hT (hF W hW).2.2.2.2.2.2) (by rw [Lib.size_eq, d4]; exact hS.value)
    rwa [d4] at this
  have hbadN : badN L = ((!L.group.isEmpty && !nameB L.group) || !nameB L.name || L.params.any fun p => !nameB p.name) := rfl
  have hbadT : badT L = (!okT L.value || L.params.any fun p => p.vals.any fun v => !okV v) := rfl
  have f30 := fun h => ChkP.of (chk_30 (L := L) h)
  have f31 := fun h h2 => ChkP.of (chk_31 (L := L) h h2)
  have f10 := fun h h2 h3 => ChkP.of (chk_10 (L := L) h h2 h3)
  have f0 := fun h h2 h3 => ChkP.of (chk_0 (L := L) h h2 h3)
  have hE : (L.group.isEmpty = true ∧ a1.toList.isEmpty = true) ∨ (L.group.isEmpty = false ∧ a1.toList.isEmpty = false) := by
    by_cases h : L.group = []
    · exact .inl ⟨by rw [h]; rfl, empty_of a1 (by rw [d1, h])⟩
    · exact .inr ⟨List.isEmpty_eq_false_iff.2 h, nonempty_of a1 (by rw [d1]; exact h)⟩
  generalize ChkP L = Fin at f30 f31 f10 f0 ⊢
  generalize badN L = bN at hbadN f30 f31 f10 f0
  generalize badF L = bF at f31 f10 f0 cN
  generalize badT L = bT at hbadT f10 f0
  generalize (L.params.any fun p => !nameB p.name) = U at cU hbadN
  generalize (L.params.any fun p => p.vals.any fun v => !okV v) = O at cO hbadT
  generalize nameB L.group = G at n1 hbadN
  generalize nameB L.name = N at n2 hbadN
  generalize okT L.value = T at cT hbadT
  generalize L.group.isEmpty = E at hE hbadN
  have hF' := Lib.hid hF
  have f30' := Lib.hid f30
  have f31' := Lib.hid f31
  have f10' := Lib.hid f10
  have f0' := Lib.hid f0
  have hbN := Lib.hid hbadN
  have hbT := Lib.hid hbadT
  have cU' := Lib.hid cU
  have cN' := Lib.hid cN
  have cO' := Lib.hid cO
  have cT' := Lib.hid cT
  have hwA' := Lib.hid hwA
  clear hF f30 f31 f10 f0 hbadN hbadT cU cN cO cT hP hT hS d1 d2 d4 hkA hoA hzA hwA
  have hend : ∀ W, Below wA.heap.size wA W → Below w.heap.size w W := fun W hW => (hF'.out W hW).2.2.2.2.2.2
  have hend' := Lib.hid hend
  clear hend
  rcases hE with ⟨rfl, he⟩ | ⟨rfl, he⟩
  · go_enter Tryd.func32, Tryd.ntmps32
    go_wp2_with fail
    go_at_call 12
    refine (n2 _).mono ?_
    rintro e W ⟨rfl, hb⟩
    rw [hwA'.out] at hb
    cases N
    · have hf := Lib.hid (f30'.out (by rw [hbN.out]; simp))
      go_wp2
      go_ret
      exact ⟨hf.out, hend'.out _ hb⟩
    · obtain ⟨k0, k1, k2, k3, k4, kz, _⟩ := hF'.out W hb
      go_wp2_with fail
      go_at_call 55
      refine (cU'.out _ hb).mono ?_
      rintro e W1 ⟨rfl, hb1⟩
      replace hb1 := below_then hb hb1
      clear k0 k1 k2 k3 k4 kz hb
      cases U
      · have hbn : bN = false := by rw [hbN.out]; simp
        subst hbn
        obtain ⟨k0, k1, k2, k3, k4, kz, _⟩ := hF'.out W1 hb1
        go_wp2_with fail
        go_at_call 55
        refine (cN'.out _ hb1).mono ?_
        rintro e W2 ⟨rfl, hb2⟩
        replace hb2 := below_then hb1 hb2
        clear k0 k1 k2 k3 k4 kz hb1
        cases bF
        · obtain ⟨k0, k1, k2, k3, k4, kz, _⟩ := hF'.out W2 hb2
          go_wp2_with fail
          go_at_call 21
          refine (cT'.out _ hb2).mono ?_
          rintro e W3 ⟨rfl, hb3⟩
          replace hb3 := below_then hb2 hb3
          clear k0 k1 k2 k3 k4 kz hb2
          cases T
          · have hf := Lib.hid (f10'.out (by simp) (by simp) (by rw [hbT.out]; simp))
            go_wp2
            go_ret
            exact ⟨hf.out, hend'.out _ hb3⟩
          · obtain ⟨k0, k1, k2, k3, k4, kz, _⟩ := hF'.out W3 hb3
            go_wp2_with fail
            go_at_call 55
            refine (cO'.out _ hb3).mono ?_
            rintro e W4 ⟨rfl, hb4⟩
            replace hb4 := below_then hb3 hb4
            clear k0 k1 k2 k3 k4 kz hb3
            cases O
            · have hf := Lib.hid (f0'.out (by simp) (by simp) (by rw [hbT.out]; simp))
              go_wp2
              go_ret
              exact ⟨hf.out, hend'.out _ hb4⟩
            · have hf := Lib.hid (f10'.out (by simp) (by simp) (by rw [hbT.out]; simp))
              go_wp2
              go_ret
              exact ⟨hf.out, hend'.out _ hb4⟩
        · have hf := Lib.hid (f31'.out (by simp) (by simp))
          go_wp2
          go_ret
          exact ⟨hf.out, hend'.out _ hb2⟩
      · have hf := Lib.hid (f30'.out (by rw [hbN.out]; simp))
        go_wp2
        go_ret
        exact ⟨hf.out, hend'.out _ hb1⟩
  · cases G
    · go_enter Tryd.func32, Tryd.ntmps32
      go_wp2_with fail
      go_at_call 12
      refine (n1 _).mono ?_
      rintro e W ⟨rfl, hb⟩
      rw [hwA'.out] at hb
      have hf := Lib.hid (f30'.out (by rw [hbN.out]; simp))
      go_wp2
      go_ret
      exact ⟨hf.out, hend'.out _ hb⟩
    · go_enter Tryd.func32, Tryd.ntmps32
      go_wp2_with fail
      go_at_call 12
      refine (n1 _).mono ?_
      rintro e W0 ⟨rfl, hb0⟩
      rw [hwA'.out] at hb0
      obtain ⟨k0, k1, k2, k3, k4, kz, _⟩ := hF'.out W0 hb0
      go_wp2_with fail
      go_at_call 12
      refine (n2 _).mono ?_
      rintro e W ⟨rfl, hb⟩
      replace hb := below_then hb0 hb
      clear k0 k1 k2 k3 k4 kz hb0
      cases N
      · have hf := Lib.hid (f30'.out (by rw [hbN.out]; simp))
        go_wp2
        go_ret
        exact ⟨hf.out, hend'.out _ hb⟩
      · obtain ⟨k0, k1, k2, k3, k4, kz, _⟩ := hF'.out W hb
        go_wp2_with fail
        go_at_call 55
        refine (cU'.out _ hb).mono ?_
        rintro e W1 ⟨rfl, hb1⟩
        replace hb1 := below_then hb hb1
        clear k0 k1 k2 k3 k4 kz hb
        cases U
        · have hbn : bN = false := by rw [hbN.out]; simp
          subst hbn
          obtain ⟨k0, k1, k2, k3, k4, kz, _⟩ := hF'.out W1 hb1
          go_wp2_with fail
          go_at_call 55
          refine (cN'.out _ hb1).mono ?_
          rintro e W2 ⟨rfl, hb2⟩
          replace hb2 := below_then hb1 hb2
          clear k0 k1 k2 k3 k4 kz hb1
          cases bF
          · obtain ⟨k0, k1, k2, k3, k4, kz, _⟩ := hF'.out W2 hb2
            go_wp2_with fail
            go_at_call 21
            refine (cT'.out _ hb2).mono ?_
            rintro e W3 ⟨rfl, hb3⟩
            replace hb3 := below_then hb2 hb3
            clear k0 k1 k2 k3 k4 kz hb2
            cases T
            · have hf := Lib.hid (f10'.out (by simp) (by simp) (by rw [hbT.out]; simp))
              go_wp2
              go_ret
              exact ⟨hf.out, hend'.out _ hb3⟩
            · obtain ⟨k0, k1, k2, k3, k4, kz, _⟩ := hF'.out W3 hb3
              go_wp2_with fail
              go_at_call 55
              refine (cO'.out _ hb3).mono ?_
              rintro e W4 ⟨rfl, hb4⟩
              replace hb4 := below_then hb3 hb4
              clear k0 k1 k2 k3 k4 kz hb3
              cases O
              · have hf := Lib.hid (f0'.out (by simp) (by simp) (by rw [hbT.out]; simp))
                go_wp2
                go_ret
                exact ⟨hf.out, hend'.out _ hb4⟩
              · have hf := Lib.hid (f10'.out (by simp) (by simp) (by rw [hbT.out]; simp))
                go_wp2
                go_ret
                exact ⟨hf.out, hend'.out _ hb4⟩
          · have hf := Lib.hid (f31'.out (by simp) (by simp))
            go_wp2
            go_ret
            exact ⟨hf.out, hend'.out _ hb2⟩
        · have hf := Lib.hid (f30'.out (by rw [hbN.out]; simp))
          go_wp2
          go_ret
          exact ⟨hf.out, hend'.out _ hb1⟩
end Go.Proofs.YthkcjfoihieooaaDoor.Li
