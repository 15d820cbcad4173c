/-
  THE WALK OF THE REFERENCE's Same.
-/
import Derived.Test.YthkcjfoihieooaaDoorLineMem
import Derived.BigQuiet
import Derived.Deep.QuietTactic
import Derived.LoopTactic
import Derived.IntWalk
set_option linter.unusedVariables false
namespace Go.Proofs.YthkcjfoihieooaaDoor.Li
open Go.Lib Go.RowKit

/-- a bool that says whether two lines are one -/
def SameP (L M : LD) (e : Ending) : Prop := ∃ R : Bool, e = .returned (.bool R) ∧ (R = true ↔ L = M)

theorem SameP.no {L M : LD} (h : L ≠ M) : SameP L M (.returned (.bool false)) := ⟨false, rfl, (fun h' => by cases h'), fun h' => absurd h' h⟩
theorem SameP.yes {L M : LD} (h : L = M) : SameP L M (.returned (.bool true)) := ⟨true, rfl, fun _ => h, fun _ => rfl⟩
theorem sv_some (l : Row) : ∃ x : ByteArray, sv l = .string x ∧ x.data.toList = l := ⟨⟨l.toArray⟩, rfl, by simp⟩
theorem sv_ne {l m : Row} {x y : ByteArray} (hx : x.data.toList = l) (hy : y.data.toList = m) (h : l ≠ m) : ¬ x.toList = y.toList := fun e => h (by rw [← hx, ← hy, ← Lib.toList_data, ← Lib.toList_data, e])
theorem sv_eq {l m : Row} {x y : ByteArray} (hx : x.data.toList = l) (hy : y.data.toList = m) (h : l = m) : x = y := by
  rw [← Lib.mk_data x, ← Lib.mk_data y, hx, hy, h]
theorem take_step {α : Type} {xs ys : List α} {k : Nat} {x y : α} (h : xs.take k = ys.take k) (hx : xs[k]? = some x) (hy : ys[k]? = some y) (hxy : x = y) : xs.take (k + 1) = ys.take (k + 1) := by
  obtain ⟨h1, e1⟩ := List.getElem?_eq_some_iff.1 hx
  obtain ⟨h2, e2⟩ := List.getElem?_eq_some_iff.1 hy
  rw [List.take_succ_eq_append_getElem h1, List.take_succ_eq_append_getElem h2, h, e1, e2, hxy]
theorem below_then' {a b c : World} (h1 : Below a.heap.size a b) (h2 : Below b.heap.size b c) : Below a.heap.size a c := h1.trans (h2.mono h1.size)
theorem drewN_kept {w w' : World} (n : Nat) (h : Below w.heap.size w w') : Below w.heap.size w (w'.drewN n) := ⟨h.os, h.tape, h.output, h.size, h.block⟩

set_option maxHeartbeats 16000000 in
set_option maxRecDepth 100000 in
theorem refSame_any (v1 v2 : Value) (L M : LD) (w : World) (h1 : LineAt w v1 L) (h2 : LineAt w v2 M) :
    Calls Tryd.prog 11 #[v1, v2] w fun e w' => SameP L M e ∧ Below w.heap.size w w' := by
  obtain ⟨pv1, rfl, A, b, off, c, rfl, hc1, hc2, hA, hP⟩ := h1
  obtain ⟨pv2, rfl, B, b', off', c', rfl, hd1, hd2, hB, hQ⟩ := h2
  obtain ⟨a1, ea1, ha1⟩ := sv_some L.group
  obtain ⟨a2, ea2, ha2⟩ := sv_some L.name
  obtain ⟨a4, ea4, ha4⟩ := sv_some L.value
  obtain ⟨b1, eb1, hb1⟩ := sv_some M.group
  obtain ⟨b2, eb2, hb2⟩ := sv_some M.name
  obtain ⟨b4, eb4, hb4⟩ := sv_some M.value
  rw [ea1, ea2, ea4, eb1, eb2, eb4]
  have hbox : Below w.heap.size w ((w.alloc (.cells #[.string a1, .string a2, .slice A L.params.length c, .string a4] 25)).alloc (.cells #[.string b1, .string b2, .slice B M.params.length c', .string b4] 25)) := ((Below.refl _ _).alloc (Nat.le_refl _) _).alloc (by simp) _
  clear ea1 ea2 ea4 eb1 eb2 eb4
  by_cases g1 : L.group = M.group
  · obtain rfl := sv_eq ha1 hb1 g1
    by_cases g2 : L.name = M.name
    · obtain rfl := sv_eq ha2 hb2 g2
      by_cases g4 : L.value = M.value
      · obtain rfl := sv_eq ha4 hb4 g4
        by_cases gn : L.params.length = M.params.length
        · obtain ⟨n, hn⟩ : ∃ n, L.params.length = n := ⟨_, rfl⟩
          have hm : M.params.length = n := by omega
          have hno : ∀ (k : Nat) (p q : PD), L.params[k]? = some p → M.params[k]? = some q → p ≠ q → SameP L M (.returned (.bool false)) := fun k p q hp hq hne => SameP.no fun e => by
            rw [e, hq] at hp
            exact hne (Option.some.inj hp).symm
          have hyes : L.params.take n = M.params.take n → SameP L M (.returned (.bool true)) := fun h => SameP.yes (by
            rw [List.take_of_length_le (by omega), List.take_of_length_le (by omega)] at h
            cases L; cases M; simp_all)
          rw [hn] at hbox hc1 hA ⊢
          rw [hm] at hbox hd1 hB ⊢
          have hno' := Lib.hid hno
          have hyes' := Lib.hid hyes
          have hn' := Lib.hid hn
          have hm' := Lib.hid hm
          have hP' := Lib.hid hP
          have hQ' := Lib.hid hQ
          have hA' := Lib.hid hA
          have hB' := Lib.hid hB
          unfold maxLen at hc2 hd2
          clear g1 g2 g4 gn hno hyes hn hm hP hQ hA hB ha1 ha2 ha4 hb1 hb2 hb4
          go_enter Tryd.func11, Tryd.ntmps11
          go_wp2
          have k2 : ∀ wr, Below ((w.alloc (.cells #[.string a1, .string a2, .slice A n c, .string a4] 25)).alloc (.cells #[.string a1, .string a2, .slice B n c', .string a4] 25)).heap.size ((w.alloc (.cells #[.string a1, .string a2, .slice A n c, .string a4] 25)).alloc (.cells #[.string a1, .string a2, .slice B n c', .string a4] 25)) wr →
              wr.cell? ⟨w.heap.size, 2, none⟩ = some (.slice A n c) ∧ wr.cell? ⟨w.heap.size + 1, 2, none⟩ = some (.slice B n c') := fun wr h => by
            rw [h.cell (p := ⟨w.heap.size, 2, none⟩) (by simp; omega), h.cell (p := ⟨w.heap.size + 1, 2, none⟩) (by simp)]
            constructor
            · rw [World.cell?_alloc_lt _ _ _ (by simp), World.cell?_alloc_at _ _ _ _ rfl]; rfl
            · rw [World.cell?_alloc_at _ _ _ _ (by simp)]; rfl
          obtain ⟨wb, hwb⟩ : ∃ wb, ((w.alloc (.cells #[.string a1, .string a2, .slice A n c, .string a4] 25)).alloc (.cells #[.string a1, .string a2, .slice B n c', .string a4] 25)) = wb := ⟨_, rfl⟩
          rw [hwb] at k2 hbox ⊢
          have k2' := Lib.hid k2
          clear hwb k2
          go_loopw [38] (fun s38 wr => ∃ k : Nat, s38 = .int .i64 (k : Int) ∧ k ≤ n ∧ L.params.take k = M.params.take k ∧ Below wb.heap.size wb wr) (fun s38 wr => n - (RowKit.intOf s38).toNat)
          case atStart => exact ⟨0, rfl, Nat.zero_le _, rfl, Below.refl _ _⟩
          case round =>
            obtain ⟨k, rfl, hk, heq, hbr⟩ := hrel
            have heq' := Lib.hid heq
            clear heq
            by_cases hlt : k < n
            · have hp : L.params[k]? = some (L.params[k]'(by have := hn'.out; omega)) := List.getElem?_eq_getElem _
              have hq : M.params[k]? = some (M.params[k]'(by have := hm'.out; omega)) := List.getElem?_eq_getElem _
              obtain ⟨P, hPe⟩ : ∃ P, L.params[k]'(by have := hn'.out; omega) = P := ⟨_, rfl⟩
              obtain ⟨Q, hQe⟩ : ∃ Q, M.params[k]'(by have := hm'.out; omega) = Q := ⟨_, rfl⟩
              rw [hPe] at hp
              rw [hQe] at hq
              clear hPe hQe
              obtain ⟨rfl, hAb⟩ := hA'.out (by omega)
              obtain ⟨rfl, hBb⟩ := hB'.out (by omega)
              have hbw := below_then' hbox hbr
              obtain ⟨p1, u, p2, hu⟩ := hP'.out k P hp
              obtain ⟨q1, z, q2, hz⟩ := hQ'.out k Q hq
              obtain ⟨x, ex, hx⟩ := sv_some P.name
              obtain ⟨y, ey, hy⟩ := sv_some Q.name
              rw [ex] at p1
              rw [ey] at q1
              rw [← hbw.cell (p := ⟨b, off + k * 2, none⟩) hAb] at p1
              rw [← hbw.cell (p := ⟨b, off + k * 2 + 1, none⟩) hAb] at p2
              rw [← hbw.cell (p := ⟨b', off' + k * 2, none⟩) hBb] at q1
              rw [← hbw.cell (p := ⟨b', off' + k * 2 + 1, none⟩) hBb] at q2
              have hu2 := hu
              have hz2 := hz
              obtain ⟨k3, k4⟩ := k2'.out wr hbr
              have hnof := Lib.hid (hno'.out k P Q hp hq)
              have hp' := Lib.hid hp
              have hq' := Lib.hid hq
              clear hp hq hu hz ex ey
              by_cases gx : P.name = Q.name
              · obtain rfl := sv_eq hx hy gx
                have gx' := Lib.hid gx
                clear hx hy gx
                obtain ⟨A2, c2, o2, d2, rfl, hs1, hs2, hs3, hs4⟩ := hu2
                obtain ⟨B2, e2, r2, t2, rfl, ht1, ht2, ht3, ht4⟩ := hz2
                by_cases gl : P.vals.length = Q.vals.length
                · obtain ⟨l, hl⟩ : ∃ l, P.vals.length = l := ⟨_, rfl⟩
                  have hl2 : Q.vals.length = l := by omega
                  have Hc : ∀ W, Below w.heap.size w W → W.cell? ⟨w.heap.size, 2, none⟩ = W.cell? ⟨w.heap.size, 2, none⟩ ∧ W.cell? ⟨b, off + k * 2 + 1, none⟩ = some (.slice A2 P.vals.length d2) ∧ W.cell? ⟨b', off' + k * 2 + 1, none⟩ = some (.slice B2 Q.vals.length t2) := fun W hW =>
                    ⟨rfl, by rw [hW.cell (p := ⟨b, off + k * 2 + 1, none⟩) hAb, ← hbw.cell (p := ⟨b, off + k * 2 + 1, none⟩) hAb]; exact p2, by rw [hW.cell (p := ⟨b', off' + k * 2 + 1, none⟩) hBb, ← hbw.cell (p := ⟨b', off' + k * 2 + 1, none⟩) hBb]; exact q2⟩
                  have hdone : P.vals.take l = Q.vals.take l → L.params.take (k + 1) = M.params.take (k + 1) := fun h => by
                    refine take_step heq'.out hp'.out hq'.out ?_
                    rw [List.take_of_length_le (by omega), List.take_of_length_le (by omega)] at h
                    cases P; cases Q
                    have := gx'.out
                    simp_all
                  have hdone' := Lib.hid hdone
                  unfold maxLen at hs2 ht2
                  rw [hl] at Hc hs1 hs3 p2
                  rw [hl2] at Hc ht1 ht3 q2
                  have hl' := Lib.hid hl
                  have hl2' := Lib.hid hl2
                  have Hc' := Lib.hid Hc
                  have hs4' := Lib.hid hs4
                  have ht4' := Lib.hid ht4
                  have hs3' := Lib.hid hs3
                  have ht3' := Lib.hid ht3
                  clear gl hl hl2 Hc hdone hs4 ht4 hs3 ht3
                  go_wp2
                  go_quiet (fail)
                  go_wp2
                  clear p1 p2 q1 q2 k3 k4
                  obtain ⟨wo, rfl⟩ : ∃ wo : World, wo = wr := ⟨_, rfl⟩
                  go_loopw [78] (fun s78 wx => ∃ j : Nat, s78 = .int .i64 (j : Int) ∧ j ≤ l ∧ P.vals.take j = Q.vals.take j ∧ Below wb.heap.size wb wx) (fun s78 wx => l - (RowKit.intOf s78).toNat)
                  case atStart => exact ⟨0, rfl, Nat.zero_le _, rfl, drewN_kept _ hbr⟩
                  case round =>
                    obtain ⟨j, rfl, hj, hje, hbx⟩ := hrel
                    have hje' := Lib.hid hje
                    clear hje
                    have hbxw := below_then' hbox hbx
                    obtain ⟨k3, k4⟩ := k2'.out wr hbx
                    obtain ⟨_, p2, q2⟩ := Hc'.out wr hbxw
                    by_cases hjl : j < l
                    · have hpj : P.vals[j]? = some (P.vals[j]'(by have := hl'.out; omega)) := List.getElem?_eq_getElem _
                      have hqj : Q.vals[j]? = some (Q.vals[j]'(by have := hl2'.out; omega)) := List.getElem?_eq_getElem _
                      obtain ⟨X, hX⟩ : ∃ X, P.vals[j]'(by have := hl'.out; omega) = X := ⟨_, rfl⟩
                      obtain ⟨Y, hY⟩ : ∃ Y, Q.vals[j]'(by have := hl2'.out; omega) = Y := ⟨_, rfl⟩
                      rw [hX] at hpj
                      rw [hY] at hqj
                      clear hX hY
                      obtain ⟨rfl, hcb⟩ := hs3'.out (by omega)
                      obtain ⟨rfl, heb⟩ := ht3'.out (by omega)
                      have v1 := hs4'.out j X hpj
                      have v2 := ht4'.out j Y hqj
                      rw [← hbxw.cell (p := ⟨c2, o2 + j, none⟩) hcb] at v1
                      rw [← hbxw.cell (p := ⟨e2, r2 + j, none⟩) heb] at v2
                      obtain ⟨x1, ex1, hx1⟩ := sv_some X
                      obtain ⟨y1, ey1, hy1⟩ := sv_some Y
                      rw [ex1] at v1
                      rw [ey1] at v2
                      clear ex1 ey1
                      by_cases gv : X = Y
                      · obtain rfl := sv_eq hx1 hy1 gv
                        have hnx := Lib.hid (take_step hje'.out hpj hqj gv)
                        clear hpj hqj gv hx1 hy1
                        go_wp2
                        go_quiet (fail)
                        go_wp2
                        exact ⟨⟨j + 1, by go_num, by omega, hnx.out, drewN_kept _ hbx⟩, by simp [RowKit.intOf]; omega⟩
                      · have hf := Lib.hid (hnof.out fun e => gv (by rw [e, hqj] at hpj; exact (Option.some.inj hpj).symm))
                        have dv := sv_ne hx1 hy1 gv
                        have dv' := Lib.hid dv
                        clear hpj hqj gv hx1 hy1
                        go_wp2
                        go_quiet (fail)
                        go_wp2
                        · go_ret
                          exact ⟨hf.out, drewN_kept _ hbxw⟩
                        · rename_i hbad
                          exact absurd hbad (by simp [dv'.out])
                    · have hnx := Lib.hid (hdone'.out (by have := hje'.out; rwa [show j = l by omega] at this))
                      go_wp2
                      go_roundw
                      case rel => exact ⟨k + 1, by go_num, by omega, hnx.out, hbx⟩
                      case measure => simp [RowKit.intOf]; omega
                · have hf := Lib.hid (hnof.out fun e => gl (by rw [e]))
                  have dl : ((P.vals.length : Int) != (Q.vals.length : Int)) = true := bne_iff_ne.2 (by omega)
                  clear gl hs1 hs2 hs3 hs4 ht1 ht2 ht3 ht4 hnof
                  go_wp2
                  go_quiet (fail)
                  go_wp2
                  go_ret
                  exact ⟨hf.out, drewN_kept _ hbw⟩
              · have hf := Lib.hid (hnof.out fun e => gx (by rw [e]))
                have dx := sv_ne hx hy gx
                clear gx hx hy hu2 hz2
                go_wp2
                go_quiet (fail)
                go_wp2
                go_ret
                exact ⟨hf.out, drewN_kept _ hbw⟩
            · have hf := Lib.hid (hyes'.out (by have := heq'.out; rwa [show k = n by omega] at this))
              go_wp2
              go_ret
              exact ⟨hf.out, below_then' hbox hbr⟩
        · have hf := Lib.hid (SameP.no (L := L) (M := M) fun e => gn (by rw [e]))
          obtain ⟨n, hn⟩ : ∃ n, L.params.length = n := ⟨_, rfl⟩
          obtain ⟨m, hm⟩ : ∃ m, M.params.length = m := ⟨_, rfl⟩
          rw [hn, hm] at gn hbox ⊢
          have dl : ((n : Int) != (m : Int)) = true := bne_iff_ne.2 (by omega)
          clear g1 g2 g4 gn hn hm hP hQ hA hB ha1 ha2 ha4 hb1 hb2 hb4
          go_enter Tryd.func11, Tryd.ntmps11
          go_wp2
          go_ret
          exact ⟨hf.out, hbox⟩
      · have hf := Lib.hid (SameP.no (L := L) (M := M) fun e => g4 (by rw [e]))
        have d4 := sv_ne ha4 hb4 g4
        clear g1 g2 g4 hP hQ hA hB ha1 ha2 ha4 hb1 hb2 hb4
        go_enter Tryd.func11, Tryd.ntmps11
        go_wp2
        go_ret
        exact ⟨hf.out, hbox⟩
    · have hf := Lib.hid (SameP.no (L := L) (M := M) fun e => g2 (by rw [e]))
      have d2 := sv_ne ha2 hb2 g2
      clear g1 g2 hP hQ hA hB ha1 ha2 ha4 hb1 hb2 hb4
      go_enter Tryd.func11, Tryd.ntmps11
      go_wp2
      go_ret
      exact ⟨hf.out, hbox⟩
  · have hf := Lib.hid (SameP.no (L := L) (M := M) fun e => g1 (by rw [e]))
    have d1 := sv_ne ha1 hb1 g1
    clear g1 hP hQ hA hB ha1 ha2 ha4 hb1 hb2 hb4
    go_enter Tryd.func11, Tryd.ntmps11
    go_wp2
    go_ret
    exact ⟨hf.out, hbox⟩
end Go.Proofs.YthkcjfoihieooaaDoor.Li
