/-
  THE WALK OF line.Parse.
-/
import Derived.Test.YthkcjfoihieooaaDoorLineParams
set_option linter.unusedVariables false
namespace Go.Proofs.YthkcjfoihieooaaDoor.Li
open Go.Lib Go.RowKit Bu

theorem POwn.form {B : Nat} {v : Value} {ps : List PD} {w : World} (h : POwn B v ps w) : ∃ ao c, v = .slice ao ps.length c := by
  obtain ⟨vs, _, h, _⟩ := h
  rcases h.2 with ⟨h1, h2⟩ | ⟨g, cap, cur, h1, _⟩
  · exact ⟨none, 0, by rw [h1, h2]⟩
  · exact ⟨_, _, h1⟩
theorem POwn.stored {w : World} {B : Nat} {v : Value} {ps : List PD} (h : POwn B v ps w) {a : Addr} (ha : a.block < B) (u : Value) : POwn B v ps (w.setCell a u) := by
  obtain ⟨vs, h1, h2, h3⟩ := h
  exact ⟨vs, h1, ownsRow_setCell_below h2 ha u, fun j p x hp hx => ownsRow_setCell_below (h3 j p x hp hx) ha u⟩
/-- what Parse answers -/
def ParseP (B : Nat) (t : Row) (e : Ending) (w' : World) : Prop :=
  (∃ n : Nat, parse t = .bad n ∧ n ≠ 0 ∧ n < 100 ∧ e = .returned (.tuple #[.agg #[.string ⟨#[]⟩, .string ⟨#[]⟩, .slice none 0 0, .string ⟨#[]⟩], .int .i64 (n : Int)])) ∨
  ∃ (L : LD) (v : Value), parse t = .ok L ∧ e = .returned (.tuple #[v, .int .i64 0]) ∧ LOwn B v L w'

theorem names_len {l g n r : Row} (h : namesC l = some (g, n, r)) : r.length ≤ l.length := by
  unfold namesC at h
  cases hc : nameC l with
  | none => rw [hc] at h; cases h
  | some p =>
    obtain ⟨m, q⟩ := p
    have h1 := congrArg List.length (nameC_some hc).1
    rw [List.length_append] at h1
    rw [hc] at h
    dsimp only at h
    split at h
    · obtain ⟨⟨p1, p2⟩, hp, he⟩ := Option.map_eq_some_iff.1 h
      simp only [Prod.mk.injEq] at he
      obtain ⟨_, _, rfl⟩ := he
      have h2 := congrArg List.length (nameC_some hp).1
      rw [List.length_append, List.length_tail] at h2
      omega
    · have h := Option.some.inj h
      simp only [Prod.mk.injEq] at h
      obtain ⟨_, _, rfl⟩ := h
      omega
theorem res4 {W : World} {b : Nat} {x0 x1 x2 x3 : Value} {t : TypeId} (hk : W.heap[b]? = some (.cells #[x0, x1, x2, x3] t (0, 0))) :
    W.cell? ⟨b, 0, none⟩ = some x0 ∧ W.cell? ⟨b, 1, none⟩ = some x1 ∧ W.cell? ⟨b, 2, none⟩ = some x2 ∧ W.cell? ⟨b, 3, none⟩ = some x3 ∧
    W.frozen? ⟨b, 0, none⟩ = false ∧ W.frozen? ⟨b, 1, none⟩ = false ∧ W.frozen? ⟨b, 2, none⟩ = false ∧ W.frozen? ⟨b, 3, none⟩ = false := by
  refine ⟨?_, ?_, ?_, ?_, Lib.frozen_of_heap hk 0, Lib.frozen_of_heap hk 1, Lib.frozen_of_heap hk 2, Lib.frozen_of_heap hk 3⟩
  all_goals rw [Lib.cell_of_heap hk]; rfl
theorem set4 {w w1 : World} (h : Below w.heap.size w w1) (x0 x1 x2 x3 : Value) : Below w.heap.size w ((((w1.setCell ⟨w.heap.size, 0, none⟩ x0).setCell ⟨w.heap.size, 1, none⟩ x1).setCell ⟨w.heap.size, 2, none⟩ x2).setCell ⟨w.heap.size, 3, none⟩ x3) :=
  (((h.setCell (p := ⟨w.heap.size, 0, none⟩) (Nat.le_refl _) _).setCell (p := ⟨w.heap.size, 1, none⟩) (Nat.le_refl _) _).setCell (p := ⟨w.heap.size, 2, none⟩) (Nat.le_refl _) _).setCell (p := ⟨w.heap.size, 3, none⟩) (Nat.le_refl _) _

set_option maxHeartbeats 8000000 in
set_option maxRecDepth 100000 in
theorem parse_any (s : ByteArray) (w : World) (hT : Ch.Tabs w) (hs : s.size ≤ 1099511627776) :
    Calls Tryd.prog 9 #[.string s] w fun e w' => ParseP w.heap.size s.data.toList e w' ∧ Below w.heap.size w w' := by
  have hsz := Lib.hid (Lib.size_eq s)
  have cT := plainT_any s (w.alloc (.cells #[.string ⟨#[]⟩, .string ⟨#[]⟩, .slice none 0 0, .string ⟨#[]⟩] 25)) (Ch.tabs_below hT ((Below.refl _ _).alloc (Nat.le_refl _) _)) (by omega)
  have hT' := Lib.hid hT
  clear hT
  obtain ⟨O, hO⟩ : ∃ O, okT s.data.toList = O := ⟨_, rfl⟩
  rw [hO] at cT
  have hO' := Lib.hid hO
  clear hO
  go_enter Tryd.func9, Tryd.ntmps9
  go_wp2_with fail
  go_at_call 21
  refine cT.mono ?_
  rintro e w1 ⟨rfl, hb0⟩
  clear cT
  have hz1 : w.heap.size < w1.heap.size := by have := hb0.size; simp at this; omega
  have hk1 : w1.heap[w.heap.size]? = some (.cells #[.string ⟨#[]⟩, .string ⟨#[]⟩, .slice none 0 0, .string ⟨#[]⟩] 25 (0, 0)) := by
    rw [hb0.block w.heap.size (by simp)]
    exact heap_alloc_new w _
  have hb1 : Below w.heap.size w w1 := ((Below.refl _ _).alloc (Nat.le_refl _) _).trans (hb0.mono (by simp))
  clear hb0
  have hfinB : ∀ n : Nat, n ≠ 0 → n < 100 → parse s.data.toList = .bad n → ∀ W, ParseP w.heap.size s.data.toList (.returned (.tuple #[.agg #[.string ⟨#[]⟩, .string ⟨#[]⟩, .slice none 0 0, .string ⟨#[]⟩], .int .i64 (n : Int)])) W := fun n h0 h1 h W => .inl ⟨n, h, h0, h1, rfl⟩
  have hfinB' := Lib.hid hfinB
  clear hfinB
  cases O
  · have hf := Lib.hid (hfinB'.out 10 (by decide) (by decide) (parse_text (fun h => by
      have := hO'.out
      unfold okT at this
      rw [h.1, h.2] at this
      exact absurd this (by decide))))
    obtain ⟨c0, c1, c2, c3, f0, f1, f2, f3⟩ := res4 hk1
    clear hk1
    go_wp2
    exact bodyPost_ret (v := .tuple #[.agg #[.string ⟨#[]⟩, .string ⟨#[]⟩, .slice none 0 0, .string ⟨#[]⟩], .int .i64 10]) (by simp [results, Tryd.results9, go_sem, c0, c1, c2, c3]) rfl ⟨hf.out _, set4 hb1 _ _ _ _⟩
  · have htx : Ch.valid s.data.toList = true ∧ ends s.data.toList = false := okT_tx hO'.out
    have htx' := Lib.hid htx
    have hk1' := Lib.hid hk1
    clear htx hk1
    go_wp2_with fail
    go_at_call 22
    refine (cutNames_any s w1 (by omega)).mono ?_
    rintro e w2 ⟨hc, hb0⟩
    have hk2 : w2.heap[w.heap.size]? = some (.cells #[.string ⟨#[]⟩, .string ⟨#[]⟩, .slice none 0 0, .string ⟨#[]⟩] 25 (0, 0)) := (hb0.block _ hz1).trans hk1'.out
    have hz2 : w.heap.size < w2.heap.size := Nat.lt_of_lt_of_le hz1 hb0.size
    have hb2 := below_then hb1 hb0
    clear hb0
    rcases hc with ⟨h1, rfl⟩ | ⟨g, n, r, h1, rfl⟩
    · have hf := Lib.hid (hfinB'.out 30 (by decide) (by decide) (parse_name htx'.out h1))
      obtain ⟨c0, c1, c2, c3, f0, f1, f2, f3⟩ := res4 hk2
      clear hk2 h1
      go_wp2
      exact bodyPost_ret (v := .tuple #[.agg #[.string ⟨#[]⟩, .string ⟨#[]⟩, .slice none 0 0, .string ⟨#[]⟩], .int .i64 30]) (by simp [results, Tryd.results9, go_sem, c0, c1, c2, c3]) rfl ⟨hf.out _, set4 hb2 _ _ _ _⟩
    · have hrl : r.size ≤ s.size := by
        have := names_len h1
        rw [← Lib.size_eq, ← Lib.size_eq] at this
        exact this
      have cP := cutParams_any r w2 (by omega)
      have h1' := Lib.hid h1
      have hk2' := Lib.hid hk2
      clear h1 hk2
      go_wp2_with fail
      go_at_call 23
      refine cP.mono ?_
      rintro e w3 ⟨hc, hb0⟩
      clear cP
      have hk3 : w3.heap[w.heap.size]? = some (.cells #[.string ⟨#[]⟩, .string ⟨#[]⟩, .slice none 0 0, .string ⟨#[]⟩] 25 (0, 0)) := (hb0.block _ hz2).trans hk2'.out
      have hz3 : w.heap.size < w3.heap.size := Nat.lt_of_lt_of_le hz2 hb0.size
      have hb3 := below_then hb2 hb0
      clear hb0
      rcases hc with ⟨m, h2, hm0, hm1, rfl⟩ | ⟨q, v, ps, h2, h59, hq, rfl, hown⟩
      · have hf := Lib.hid (hfinB'.out m hm0 hm1 (by rw [parse_fin htx'.out h1'.out]; exact h2 _ _ _))
        obtain ⟨c0, c1, c2, c3, f0, f1, f2, f3⟩ := res4 hk3
        have d1 : ((m : Int) != 0) = true := bne_iff_ne.2 (by omega)
        have d2 : ((m : Int) == 0) = false := beq_eq_false_iff_ne.2 (by omega)
        clear hk3 h2
        go_wp2
        exact bodyPost_ret (v := .tuple #[.agg #[.string ⟨#[]⟩, .string ⟨#[]⟩, .slice none 0 0, .string ⟨#[]⟩], .int .i64 (m : Int)]) (by simp [results, Tryd.results9, go_sem, c0, c1, c2, c3]) rfl ⟨hf.out _, set4 hb3 _ _ _ _⟩
      · have hpf : parse s.data.toList = if q.data.toList.head? = some 58 then .ok ⟨g.data.toList, n.data.toList, ps, q.data.toList.tail⟩ else .bad 31 := by
          rw [parse_fin htx'.out h1'.out, h2, fin_end h59, List.nil_append]
        have hC := cutPre_any q 58 w3
        have hpf' := Lib.hid hpf
        obtain ⟨c0, c1, c2, c3, f0, f1, f2, f3⟩ := res4 hk3
        clear hk3 h2 h59 hpf
        obtain ⟨ao, c, rfl⟩ := hown.form
        have hown' := Lib.hid hown
        obtain ⟨l, hl⟩ : ∃ l, ps.length = l := ⟨_, rfl⟩
        rw [hl] at hown' ⊢
        clear hown hl
        go_wp2_with fail
        go_at_call 24
        refine hC.mono ?_
        rintro e w4 ⟨hc, rfl⟩
        clear hC
        rcases hc with ⟨h5, rfl⟩ | ⟨h5, x, hx, rfl⟩
        · have hf := Lib.hid (hfinB'.out 31 (by decide) (by decide) (by rw [hpf'.out, if_neg h5]))
          clear h5
          go_wp2
          exact bodyPost_ret (v := .tuple #[.agg #[.string ⟨#[]⟩, .string ⟨#[]⟩, .slice none 0 0, .string ⟨#[]⟩], .int .i64 31]) (by simp [results, Tryd.results9, go_sem, c0, c1, c2, c3]) rfl ⟨hf.out _, set4 hb3 _ _ _ _⟩
        · have hf : ∀ W, POwn w.heap.size (.slice ao l c) ps W → ParseP w.heap.size s.data.toList (.returned (.tuple #[.agg #[.string g, .string n, .slice ao l c, .string x], .int .i64 0])) W := fun W hW =>
            .inr ⟨⟨g.data.toList, n.data.toList, ps, x.data.toList⟩, _, by rw [hpf'.out, if_pos h5, hx], rfl, .slice ao l c, by simp only [sv_data], hW⟩
          have hf' := Lib.hid hf
          have hO4 : ∀ x0 x1 x2 x3, POwn w.heap.size (.slice ao l c) ps ((((w3.setCell ⟨w.heap.size, 0, none⟩ x0).setCell ⟨w.heap.size, 1, none⟩ x1).setCell ⟨w.heap.size, 2, none⟩ x2).setCell ⟨w.heap.size, 3, none⟩ x3) := fun x0 x1 x2 x3 =>
            ((((hown'.out.stored (a := ⟨w.heap.size, 0, none⟩) hz2 x0).stored (a := ⟨w.heap.size, 1, none⟩) hz2 x1).stored (a := ⟨w.heap.size, 2, none⟩) hz2 x2).stored (a := ⟨w.heap.size, 3, none⟩) hz2 x3).less (by omega)
          have hO4' := Lib.hid hO4
          clear h5 hx hf hO4
          go_wp2
          exact bodyPost_ret (v := .tuple #[.agg #[.string g, .string n, .slice ao l c, .string x], .int .i64 0]) (by simp [results, Tryd.results9, go_sem, c0, c1, c2, c3]) rfl ⟨hf'.out _ (hO4'.out _ _ _ _), set4 hb3 _ _ _ _⟩
end Go.Proofs.YthkcjfoihieooaaDoor.Li
