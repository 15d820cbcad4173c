/-
  WALKS OF slices.Equal AT []string, slices.EqualFunc AT []api.Param, line.Same.
-/
import Derived.Test.YthkcjfoihieooaaDoorLinePred
import Derived.Test.YthkcjfoihieooaaDoorLineSame
import Derived.Test.YthkcjfoihieooaaDoorLineParse
set_option linter.unusedVariables false
namespace Go.Proofs.YthkcjfoihieooaaDoor.Li
open Go.Lib Go.RowKit Bu

/-- a bool that says whether two things are one -/
def IffP (p : Prop) (e : Ending) : Prop := ∃ R : Bool, e = .returned (.bool R) ∧ (R = true ↔ p)
theorem IffP.no {p : Prop} (h : ¬ p) : IffP p (.returned (.bool false)) := ⟨false, rfl, (fun h' => by cases h'), fun h' => absurd h' h⟩
theorem IffP.yes {p : Prop} (h : p) : IffP p (.returned (.bool true)) := ⟨true, rfl, fun _ => h, fun _ => rfl⟩

theorem getD_map (ls : List Row) (j : Nat) (l : Row) (h : ls[j]? = some l) : (ls.map fun l : Row => (⟨l.toArray⟩ : ByteArray)).getD j ByteArray.empty = ⟨l.toArray⟩ := by
  rw [List.getD_eq_getElem?_getD, List.getElem?_map, h]; rfl
theorem map_inj (ls ms : List Row) : (ls.map fun l : Row => (⟨l.toArray⟩ : ByteArray)) = (ms.map fun l : Row => (⟨l.toArray⟩ : ByteArray)) ↔ ls = ms := by
  constructor
  · intro h
    have := congrArg (List.map fun s : ByteArray => s.data.toList) h
    have e : ((fun s : ByteArray => s.data.toList) ∘ fun l : Row => (⟨l.toArray⟩ : ByteArray)) = id := by funext l; simp
    rw [List.map_map, List.map_map, e, List.map_id, List.map_id] at this
    exact this
  · intro h; rw [h]
theorem eqStrs_any (u z : Value) (ls ms : List Row) (w : World) (h1 : StrsAt w u ls) (h2 : StrsAt w z ms) :
    Calls Tryd.prog 39 #[u, z] w fun e w' => IffP (ls = ms) e ∧ Below w.heap.size w w' := by
  obtain ⟨A, b, o, c, rfl, p1, p2, p3, p4⟩ := h1
  obtain ⟨B, b', o', c', rfl, q1, q2, q3, q4⟩ := h2
  unfold maxLen at p2 q2
  by_cases hl : ls.length = ms.length
  · by_cases h0 : ls.length = 0
    · have e1 : ls = [] := List.eq_nil_of_length_eq_zero h0
      have e2 : ms = [] := List.eq_nil_of_length_eq_zero (by omega)
      subst e1; subst e2
      refine (Tryd.slices_Equal_string_empty A B c 0 c' w (by decide)).mono ?_
      rintro e w' ⟨rfl, rfl⟩
      exact ⟨IffP.yes rfl, Below.refl _ _⟩
    · obtain ⟨rfl, _⟩ := p3 (by omega)
      obtain ⟨rfl, _⟩ := q3 (by omega)
      refine (Tryd.slices_Equal_string b o ls.length c b' o' ms.length c' (ls.map fun l : Row => (⟨l.toArray⟩ : ByteArray)) (ms.map fun l : Row => (⟨l.toArray⟩ : ByteArray)) w (by simp) (by simp) (by omega) (by omega) (fun j hj => ?_) (fun j hj => ?_)).mono ?_
      · rw [List.length_map] at hj
        have hv : ls[j]? = some (ls[j]'hj) := List.getElem?_eq_getElem _
        rw [getD_map _ _ _ hv]
        exact p4 j _ hv
      · rw [List.length_map] at hj
        have hv : ms[j]? = some (ms[j]'hj) := List.getElem?_eq_getElem _
        rw [getD_map _ _ _ hv]
        exact q4 j _ hv
      · rintro e w' ⟨rfl, q, rfl⟩
        refine ⟨⟨_, rfl, ?_⟩, drewN_kept _ (Below.refl _ _)⟩
        rw [decide_eq_true_iff, List.take_of_length_le (by simp), List.take_of_length_le (by simp)]
        exact map_inj ls ms
  · refine (Tryd.slices_Equal_string_lens A B ls.length c ms.length c' w hl).mono ?_
    rintro e w' ⟨rfl, rfl⟩
    exact ⟨IffP.no fun h => hl (by rw [h]), Below.refl _ _⟩

theorem PD.eq_iff (p q : PD) : p = q ↔ p.name = q.name ∧ p.vals = q.vals := by
  constructor
  · intro h; rw [h]; exact ⟨rfl, rfl⟩
  · intro h; cases p; cases q; simp_all

set_option maxHeartbeats 4000000 in
set_option maxRecDepth 100000 in
theorem same1_any (p q : PD) (u z : Value) (w : World) (h1 : StrsAt w u p.vals) (h2 : StrsAt w z q.vals) :
    Calls Tryd.prog 38 #[.agg #[sv p.name, u], .agg #[sv q.name, z]] w fun e w' => IffP (p = q) e ∧ Below w.heap.size w w' := by
  obtain ⟨x, ex, hx⟩ := sv_some p.name
  obtain ⟨y, ey, hy⟩ := sv_some q.name
  rw [ex, ey]
  have hal : Below w.heap.size w ((w.alloc (.cells #[.string x, u] 40)).alloc (.cells #[.string y, z] 40)) := ((Below.refl _ _).alloc (Nat.le_refl _) _).alloc (by simp) _
  have cE := eqStrs_any u z _ _ _ (h1.kept hal) (h2.kept hal)
  obtain ⟨A, b, o, c, rfl, _⟩ := h1
  obtain ⟨B, b', o', c', rfl, _⟩ := h2
  generalize p.vals.length = n at hal cE ⊢
  generalize q.vals.length = m at hal cE ⊢
  have hP := PD.eq_iff p q
  have hP' := Lib.hid hP
  clear hP ex ey
  by_cases gx : p.name = q.name
  · obtain rfl := sv_eq hx hy gx
    have gx' := Lib.hid gx
    clear hx hy gx
    go_enter Tryd.func38, Tryd.ntmps38
    go_wp2_with fail
    go_at_call 39
    refine cE.mono ?_
    rintro e w1 ⟨⟨R, rfl, hR⟩, hb1⟩
    have hf : IffP (p = q) (.returned (.bool R)) := ⟨R, rfl, by rw [hR, hP'.out]; exact ⟨fun h => ⟨gx'.out, h⟩, fun h => h.2⟩⟩
    have hf' := Lib.hid hf
    clear hR hf cE
    go_wp2
    go_ret
    exact ⟨hf'.out, hal.trans (hb1.mono hal.size)⟩
  · have dx := sv_ne hx hy gx
    have hf := Lib.hid (IffP.no (p := p = q) fun h => gx (by rw [h]))
    clear gx hx hy cE
    go_enter Tryd.func38, Tryd.ntmps38
    go_wp2
    go_ret
    exact ⟨hf.out, hal⟩

set_option maxHeartbeats 8000000 in
set_option maxRecDepth 100000 in
theorem eqPrms_any (u z : Value) (ps qs : List PD) (w : World) (h1 : PrmsAt w u ps) (h2 : PrmsAt w z qs) :
    Calls Tryd.prog 37 #[u, z, .func (.func 38) #[] #[]] w fun e w' => IffP (ps = qs) e ∧ Below w.heap.size w w' := by
  obtain ⟨A, b, o, c, rfl, p1, p2, p3, p4⟩ := h1
  obtain ⟨B, b', o', c', rfl, q1, q2, q3, q4⟩ := h2
  unfold maxLen at p2 q2
  by_cases hl : ps.length = qs.length
  · obtain ⟨n, hn⟩ : ∃ n, ps.length = n := ⟨_, rfl⟩
    have hm : qs.length = n := by omega
    have hno : ∀ (k : Nat) (p q : PD), ps[k]? = some p → qs[k]? = some q → p ≠ q → IffP (ps = qs) (.returned (.bool false)) := fun k p q hp hq hne => IffP.no fun e => by
      rw [e, hq] at hp
      exact hne (Option.some.inj hp).symm
    have hyes : ps.take n = qs.take n → IffP (ps = qs) (.returned (.bool true)) := fun h => IffP.yes (by
      rw [List.take_of_length_le (by omega), List.take_of_length_le (by omega)] at h
      exact h)
    rw [hn] at p1 p3 ⊢
    rw [hm] at q1 q3 ⊢
    have hno' := Lib.hid hno
    have hyes' := Lib.hid hyes
    have hn' := Lib.hid hn
    have hm' := Lib.hid hm
    have p3' := Lib.hid p3
    have p4' := Lib.hid p4
    have q3' := Lib.hid q3
    have q4' := Lib.hid q4
    have eg := enters_of Tryd.func38 (by kernel_rfl) rfl
    clear hl hno hyes hn hm p3 p4 q3 q4
    go_enter Tryd.func37, Tryd.ntmps37
    go_wp2
    go_loopw [17] (fun s17 wr => ∃ k : Nat, s17 = .int .i64 (k : Int) ∧ k ≤ n ∧ ps.take k = qs.take k ∧ Below w.heap.size w wr) (fun s17 wr => n - (RowKit.intOf s17).toNat)
    case atStart => exact ⟨0, rfl, Nat.zero_le _, rfl, Below.refl _ _⟩
    case round =>
      obtain ⟨k, rfl, hk, heq, hbw⟩ := hrel
      have heq' := Lib.hid heq
      clear heq
      by_cases hlt : k < n
      · have hp : ps[k]? = some (ps[k]'(by have := hn'.out; omega)) := List.getElem?_eq_getElem _
        have hq : qs[k]? = some (qs[k]'(by have := hm'.out; omega)) := List.getElem?_eq_getElem _
        obtain ⟨P, hPe⟩ : ∃ P, ps[k]'(by have := hn'.out; omega) = P := ⟨_, rfl⟩
        obtain ⟨Q, hQe⟩ : ∃ Q, qs[k]'(by have := hm'.out; omega) = Q := ⟨_, rfl⟩
        rw [hPe] at hp
        rw [hQe] at hq
        clear hPe hQe
        obtain ⟨rfl, hAb⟩ := p3'.out (by omega)
        obtain ⟨rfl, hBb⟩ := q3'.out (by omega)
        obtain ⟨g1, u, g2, hu⟩ := p4'.out k P hp
        obtain ⟨i1, z, i2, hz⟩ := q4'.out k Q hq
        rw [← hbw.cell (p := ⟨b, o + k * 2, none⟩) hAb] at g1
        rw [← hbw.cell (p := ⟨b, o + k * 2 + 1, none⟩) hAb] at g2
        rw [← hbw.cell (p := ⟨b', o' + k * 2, none⟩) hBb] at i1
        rw [← hbw.cell (p := ⟨b', o' + k * 2 + 1, none⟩) hBb] at i2
        have hu2 := hu.kept hbw
        have hz2 := hz.kept hbw
        have hAr : b < wr.heap.size := Nat.lt_of_lt_of_le hAb hbw.size
        have hBr : b' < wr.heap.size := Nat.lt_of_lt_of_le hBb hbw.size
        obtain ⟨x, ex, hx⟩ := sv_some P.name
        obtain ⟨y, ey, hy⟩ := sv_some Q.name
        have hal : Below wr.heap.size wr ((wr.alloc (.cells #[.string x, u] 40)).alloc (.cells #[.string y, z] 40)) := ((Below.refl _ _).alloc (Nat.le_refl _) _).alloc (by simp) _
        have cS := same1_any P Q u z _ (hu2.kept hal) (hz2.kept hal)
        rw [ex] at g1 cS
        rw [ey] at i1 cS
        obtain ⟨A2, b2, o2, c2, rfl, _⟩ := hu2
        obtain ⟨B2, e2, r2, t2, rfl, _⟩ := hz2
        generalize P.vals.length = n1 at g2 hal cS
        generalize Q.vals.length = n2 at i2 hal cS
        have hp' := Lib.hid hp
        have hq' := Lib.hid hq
        clear hp hq hu hz ex ey hx hy hAb hBb
        go_wp2_with fail
        go_at_call 38
        refine cS.mono ?_
        rintro e w3 ⟨⟨R, rfl, hR⟩, hb3⟩
        have hbf := hbw.trans ((hal.trans (hb3.mono hal.size)).mono hbw.size)
        clear cS
        cases R
        · have hf := Lib.hid (hno'.out k P Q hp'.out hq'.out (fun h => by have := hR.2 h; cases this))
          clear hR
          go_wp2
          go_ret
          exact ⟨hf.out, hbf⟩
        · have hnx := Lib.hid (take_step heq'.out hp'.out hq'.out (hR.1 rfl))
          clear hR
          go_wp2
          go_roundw
          case rel => exact ⟨k + 1, by go_num, by omega, hnx.out, hbf⟩
          case measure => simp [RowKit.intOf]; omega
      · have hf := Lib.hid (hyes'.out (by have := heq'.out; rwa [show k = n by omega] at this))
        go_wp2
        go_ret
        exact ⟨hf.out, hbw⟩
  · have hf := Lib.hid (IffP.no (p := ps = qs) fun e => hl (by rw [e]))
    generalize ps.length = n at hl p1 p3 ⊢
    generalize qs.length = m at hl q1 q3 ⊢
    have dl : ((n : Int) != (m : Int)) = true := bne_iff_ne.2 (by omega)
    clear hl p3 p4 q3 q4
    go_enter Tryd.func37, Tryd.ntmps37
    go_wp2
    go_ret
    exact ⟨hf.out, Below.refl _ _⟩

theorem LD.eq_iff (L M : LD) : L = M ↔ L.params = M.params ∧ L.group = M.group ∧ L.name = M.name ∧ L.value = M.value := by
  constructor
  · intro h; rw [h]; exact ⟨rfl, rfl, rfl, rfl⟩
  · intro h; cases L; cases M; simp_all

set_option maxHeartbeats 8000000 in
set_option maxRecDepth 100000 in
theorem same_any (v1 v2 : Value) (L M : LD) (w : World) (h1 : LineAt w v1 L) (h2 : LineAt w v2 M) :
    Calls Tryd.prog 16 #[v1, v2] w fun e w' => SameP L M e ∧ Below w.heap.size w w' := by
  obtain ⟨pu, rfl, hP⟩ := h1
  obtain ⟨pz, rfl, hQ⟩ := h2
  obtain ⟨a1, ea1, ha1⟩ := sv_some L.group
  obtain ⟨a2, ea2, ha2⟩ := sv_some L.name
  obtain ⟨a4, ea4, ha4⟩ := sv_some L.value
  obtain ⟨b1, eb1, hb1⟩ := sv_some M.group
  obtain ⟨b2, eb2, hb2⟩ := sv_some M.name
  obtain ⟨b4, eb4, hb4⟩ := sv_some M.value
  rw [ea1, ea2, ea4, eb1, eb2, eb4]
  obtain ⟨wB, hwB⟩ : ∃ wB, (w.alloc (.cells #[.string a1, .string a2, pu, .string a4] 25)).alloc (.cells #[.string b1, .string b2, pz, .string b4] 25) = wB := ⟨_, rfl⟩
  have hbB : Below w.heap.size w wB := by rw [← hwB]; exact ((Below.refl _ _).alloc (Nat.le_refl _) _).alloc (by simp) _
  have hx : wB.heap[w.heap.size]? = some (.cells #[.string a1, .string a2, pu, .string a4] 25 (0, 0)) := by
    rw [← hwB, Below.heap_alloc _ _ _ (by simp)]
    exact heap_alloc_new w _
  have hy : wB.heap[w.heap.size + 1]? = some (.cells #[.string b1, .string b2, pz, .string b4] 25 (0, 0)) := by
    rw [← hwB]
    have := heap_alloc_new (w.alloc (.cells #[.string a1, .string a2, pu, .string a4] 25)) (.cells #[.string b1, .string b2, pz, .string b4] 25)
    simpa using this
  have hz : w.heap.size + 1 < wB.heap.size := (Array.getElem?_eq_some_iff.1 hy).1
  have cE := eqPrms_any pu pz _ _ wB (hP.kept hbB) (hQ.kept hbB)
  obtain ⟨A, b, o, c, rfl, _⟩ := hP
  obtain ⟨B, b', o', c', rfl, _⟩ := hQ
  generalize hn1 : L.params.length = n at hwB hx cE ⊢
  generalize hn2 : M.params.length = m at hwB hy cE ⊢
  have hI := LD.eq_iff L M
  have hI' := Lib.hid hI
  have hx' := Lib.hid hx
  have hy' := Lib.hid hy
  obtain ⟨z0, z1, z2, z3, _⟩ := res4 hx
  obtain ⟨x0, x1, x2, x3, _⟩ := res4 hy
  clear ea1 ea2 ea4 eb1 eb2 eb4 hI hx hy hn1 hn2
  go_enter Tryd.func16, Tryd.ntmps16
  go_wp2_with fail
  go_at_call 37
  refine cE.mono ?_
  rintro e w1 ⟨⟨R, rfl, hR⟩, hb⟩
  obtain ⟨k0, k1, k2, k3, _⟩ := res4 ((hb.block _ (by omega)).trans hx'.out)
  obtain ⟨i0, i1, i2, i3, _⟩ := res4 ((hb.block _ hz).trans hy'.out)
  have hbf := hbB.trans (hb.mono hbB.size)
  clear cE hwB z0 z1 z2 z3 x0 x1 x2 x3
  cases R
  · have hf := Lib.hid (SameP.no (L := L) (M := M) fun h => by have := hR.2 (by rw [h]); cases this)
    clear hR ha1 ha2 ha4 hb1 hb2 hb4
    go_wp2
    go_ret
    exact ⟨hf.out, hbf⟩
  · have hps := Lib.hid (hR.1 rfl)
    clear hR
    by_cases g1 : L.group = M.group
    · obtain rfl := sv_eq ha1 hb1 g1
      by_cases g2 : L.name = M.name
      · obtain rfl := sv_eq ha2 hb2 g2
        by_cases g4 : L.value = M.value
        · obtain rfl := sv_eq ha4 hb4 g4
          have hf := Lib.hid (SameP.yes (hI'.out.2 ⟨hps.out, g1, g2, g4⟩))
          clear g1 g2 g4 ha1 ha2 ha4 hb1 hb2 hb4
          go_wp2
          go_ret
          exact ⟨hf.out, hbf⟩
        · have hf := Lib.hid (SameP.no (L := L) (M := M) fun e => g4 (by rw [e]))
          have d4 : (a4.toList == b4.toList) = false := beq_eq_false_iff_ne.2 (sv_ne ha4 hb4 g4)
          clear g1 g2 g4 ha1 ha2 ha4 hb1 hb2 hb4
          go_wp2
          go_ret
          exact ⟨hf.out, hbf⟩
      · have hf := Lib.hid (SameP.no (L := L) (M := M) fun e => g2 (by rw [e]))
        have d2 := sv_ne ha2 hb2 g2
        clear g1 g2 ha1 ha2 ha4 hb1 hb2 hb4
        go_wp2
        go_ret
        exact ⟨hf.out, hbf⟩
    · have hf := Lib.hid (SameP.no (L := L) (M := M) fun e => g1 (by rw [e]))
      have d1 := sv_ne ha1 hb1 g1
      clear g1 ha1 ha2 ha4 hb1 hb2 hb4
      go_wp2
      go_ret
      exact ⟨hf.out, hbf⟩
end Go.Proofs.YthkcjfoihieooaaDoor.Li
