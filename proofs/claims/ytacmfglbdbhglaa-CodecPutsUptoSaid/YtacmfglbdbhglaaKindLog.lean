/-
  PARAMETERS OF TYPES api.Log AND api.Reply, TOLD IN THE CODEC's WORDS.
-/
import Derived.Test.YtacmfglbdbhglaaKindCod
import Derived.Test.YtacmfglbdbhglaaCodRefRep
set_option linter.unusedVariables false
namespace Go.Proofs.Ytacmfglbdbhglaa.Kc
open Go.Lib Go.RowKit Go.ChangeShapes Go.WideShapes Go.ChangeAt Go.Deep Cd
open Bo (Row sv sv_data)

variable {H : Type} {enc : TypeId × Value → H}
set_option maxRecDepth 100000 in
theorem ints_trod {W : World} {fuel : Nat} {v : Value} {x : DataW H × List MemPlace} (h : DataW.trod enc Try.prog W 0 (fun _ => true) true fuel 37 [v] = some x) : ∃ ls, IntsAt W v ls ∧ ls.length ≤ Rows.uptoBulk x.1 ∧ ∀ z ∈ ls, i64 z := by
  have hce : Try.prog.cellsOf 3 = 1 := by kernel_rfl
  rcases open_slice1 Try.underlying37 hce h with ⟨hcs, hx⟩ | ⟨a, len, cap, m, n, V, D, Pl, hcs, _, hl, hm, hmm, hx, hi⟩
  · simp at hcs
    subst hcs
    exact ⟨[], RowsAt.nil W, Nat.zero_le _, fun z hz => by cases hz⟩
  · simp at hcs
    subst hcs
    simp only [if_true] at hmm
    obtain ⟨qs, hqs, hp⟩ := listed (fun i (p : Int) => W.cell? (a.add i) = some (.int .i64 p) ∧ i64 p ∧ 1 ≤ Rows.uptoBulk (D i)) len (fun i hil => by
      obtain ⟨hc, ht⟩ := hi i (by omega)
      obtain ⟨z, hs, hx, hw⟩ := DataW.trod_int Try.underlying3 ht
      simp at hs
      obtain ⟨hx1, _⟩ := Prod.mk.inj hx
      refine ⟨z, by rw [hc, hs], wf_i64 hw, ?_⟩
      rw [hx1, Rows.uptoBulk]
      · exact Nat.le_refl _
      · intro b hb; cases hb)
    have key : 0 < qs.length → a = ⟨a.block, a.off, none⟩ ∧ a.block < W.heap.size := fun h0 => by
      have h1 : qs[0]? = some (qs[0]'h0) := List.getElem?_eq_getElem _
      have h2 := (hp 0 _ h1).1
      have h3 := add_spot a (spot_none h2)
      have h4 := World.block_lt_of_cell? W (a.add 0) h2
      rw [h3, add_is] at h4
      exact ⟨h3, h4⟩
    refine ⟨qs, ⟨some a, a.block, a.off, cap, by rw [hqs], by omega, hm, fun h0 => ?_, fun j p hj q u hu => ?_⟩, ?_, fun z hz => ?_⟩
    · obtain ⟨h3, h4⟩ := key h0
      exact ⟨by rw [← h3], h4⟩
    · obtain ⟨g0, _⟩ := hp j p hj
      obtain ⟨h3, _⟩ := key (by have := (List.getElem?_eq_some_iff.1 hj).1; omega)
      rw [h3, add_is] at g0
      match q, hu with
      | 0, hu =>
        simp [Cd.encI] at hu
        subst hu
        rw [Nat.mul_one, Nat.add_zero]
        exact g0
      | q + 1, hu => simp [Cd.encI] at hu
    · rw [hx, Rows.uptoBulk]
      have := bulk_sum (fun _ : Int => 1) qs D (fun i p hip => (hp i p hip).2.2)
      have hs : ∀ l : List Int, (l.map fun _ => 1).sum = l.length := fun l => by
        induction l with
        | nil => rfl
        | cons x r ih => rw [List.map_cons, List.sum_cons, ih, List.length_cons]; omega
      rw [hqs, hs] at this
      omega
    · obtain ⟨i, hi2, hz2⟩ := List.mem_iff_getElem.1 hz
      exact (hp i z (by rw [← hz2]; exact List.getElem?_eq_getElem hi2)).2.1
set_option maxRecDepth 100000 in
theorem log_open {base : Nat} {W : World} {v : Value} {d : DataW H} {ps : List MemPlace} (hval : Value.okWide Try.prog W .any base 39 v) (h : DataW.Trod enc Try.prog W 0 (fun _ => true) true 39 v d ps) :
    ∃ (l : Lg) (nv ds : Value), v = logV l nv ds ∧ StrsAt W nv l.com.names ∧ IntsAt W ds l.nodes ∧ (Rows.uptoBulk d ≤ 1048576 → okLg l ∧ 88 + l.com.book.length + l.com.name.length + l.com.data.length + l.com.mat.length + l.com.non.length + l.com.tok.length + flatN Ly.text l.com.names ≤ 16777216 ∧ l.nodes.length ≤ 1048576) := by
  obtain ⟨cs, rfl, hsz⟩ := okWide_struct Try.underlying39 hval
  have hC : Try.prog.cellsOf 39 = 14 := by kernel_rfl
  have h1i : Try.prog.cellsOf 3 = 1 := by kernel_rfl
  have h1k : Try.prog.cellsOf 36 = 1 := by kernel_rfl
  have h1c : Try.prog.cellsOf 25 = 11 := by kernel_rfl
  have h1v : Try.prog.cellsOf 37 = 1 := by kernel_rfl
  obtain ⟨fuel, hf⟩ := h
  obtain ⟨l⟩ := cs
  obtain ⟨xs, n', _, hx, _, hlen, hft⟩ := DataW.trod_struct Try.underlying39 hf
  match l, hsz.trans hC with
  | [c0, c1, c2, c3, c4, c5, c6, c7, c8, c9, c10, c11, c12, c13], _ =>
    match xs, hlen with
    | [y0, y1, y2, y3], _ =>
      have ht0 : DataW.trod enc Try.prog W 0 (fun _ => true) true n' 3 (([c0, c1, c2, c3, c4, c5, c6, c7, c8, c9, c10, c11, c12, c13].drop 0).take (Try.prog.cellsOf 3)) = some y0 := hft 0 _ rfl
      have ht1 : DataW.trod enc Try.prog W 0 (fun _ => true) true n' 36 (([c0, c1, c2, c3, c4, c5, c6, c7, c8, c9, c10, c11, c12, c13].drop 1).take (Try.prog.cellsOf 36)) = some y1 := hft 1 _ rfl
      have ht2 : DataW.trod enc Try.prog W 0 (fun _ => true) true n' 25 (([c0, c1, c2, c3, c4, c5, c6, c7, c8, c9, c10, c11, c12, c13].drop 2).take (Try.prog.cellsOf 25)) = some y2 := hft 2 _ rfl
      have ht3 : DataW.trod enc Try.prog W 0 (fun _ => true) true n' 37 (([c0, c1, c2, c3, c4, c5, c6, c7, c8, c9, c10, c11, c12, c13].drop 13).take (Try.prog.cellsOf 37)) = some y3 := hft 3 _ rfl
      simp only [h1i, h1k, h1c, h1v, List.drop_zero, List.take_succ_cons, List.take_zero, List.drop_succ_cons] at ht0 ht1 ht2 ht3
      obtain ⟨n0, hs0, hx0, hw0⟩ := DataW.trod_int Try.underlying3 ht0
      obtain ⟨n1, hs1, hx1, hw1⟩ := DataW.trod_int Try.underlying36 ht1
      obtain ⟨C, nv, hcs, hsn, hcz, hcw⟩ := cmd_trod rfl ht2
      obtain ⟨ls, hls, hlb, hlw⟩ := ints_trod ht3
      simp at hs0 hs1
      subst hs0; subst hs1
      unfold cells at hcs
      injection hcs with e2 hcs; injection hcs with e3 hcs; injection hcs with e4 hcs; injection hcs with e5 hcs; injection hcs with e6 hcs; injection hcs with e7 hcs; injection hcs with e8 hcs; injection hcs with e9 hcs; injection hcs with e10 hcs; injection hcs with e11 hcs; injection hcs with e12 hcs
      subst e2 e3 e4 e5 e6 e7 e8 e9 e10 e11 e12
      refine ⟨⟨n0, n1, comOf C, ls⟩, c9, c13, ?_, hsn, hls, fun hb => ?_⟩
      · unfold logV comOf
        simp only [sv_data]
        try rfl
      · have hx' : d = .agg [y0.1, y1.1, y2.1, y3.1] := by have := congrArg Prod.fst hx; exact this
        rw [hx', Rows.uptoBulk] at hb
        simp only [Rows.uptoBulkAll] at hb
        have hc2 : C.sz ≤ 1048576 := by omega
        exact ⟨⟨is_64 (wf_i64 hw0), com_ok hc2 hcw, ⟨by show isC ls.length; unfold isC; omega, fun x hx => is_64 (hlw x hx)⟩⟩, com_len hc2, by show ls.length ≤ _; omega⟩
def szE (l : List En) : Nat := (l.map fun e => e.name.length + e.data.length + 1).sum
theorem szE_mem {l : List En} {e : En} (h : e ∈ l) : e.name.length + e.data.length ≤ szE l := by
  unfold szE
  induction l with
  | nil => cases h
  | cons y r ih =>
    simp only [List.map_cons, List.sum_cons]
    rcases List.mem_cons.1 h with rfl | h
    · omega
    · have := ih h; omega
theorem flat_ents (xs : List En) : flatN enB xs ≤ 25 * szE xs := by
  unfold flatN szE
  induction xs with
  | nil => simp
  | cons x r ih =>
    rw [List.map_cons, List.flatten_cons, List.length_append, enB_len, List.map_cons, List.sum_cons]
    omega
set_option maxRecDepth 100000 in
theorem ents_trod {W : World} {fuel : Nat} {v : Value} {x : DataW H × List MemPlace} (h : DataW.trod enc Try.prog W 0 (fun _ => true) true fuel 43 [v] = some x) : ∃ ls, EntsAt W v ls ∧ szE ls ≤ Rows.uptoBulk x.1 ∧ ∀ e ∈ ls, i64 e.tag := by
  have hce : Try.prog.cellsOf 80 = 4 := by kernel_rfl
  have h1s : Try.prog.cellsOf 9 = 1 := by kernel_rfl
  have h1i : Try.prog.cellsOf 3 = 1 := by kernel_rfl
  have h1b : Try.prog.cellsOf 4 = 1 := by kernel_rfl
  rcases open_slice Try.underlying43 h with ⟨hcs, hx⟩ | ⟨a, len, cap, m, n, D, Pl, hcs, _, hl, hm, hmm, hx, hi⟩
  · simp at hcs
    subst hcs
    exact ⟨[], RowsAt.nil W, Nat.zero_le _, fun z hz => by cases hz⟩
  · simp at hcs
    subst hcs
    simp only [if_true] at hmm
    rw [hce] at hi
    obtain ⟨qs, hqs, hp⟩ := listed (fun i (p : En) => (∀ (q : Nat) (u : Value), (encE p)[q]? = some u → W.cell? ((a.add (i * 4)).add q) = some u) ∧ i64 p.tag ∧ p.name.length + p.data.length + 1 ≤ Rows.uptoBulk (D i)) len (fun i hil => by
      obtain ⟨cs', hc, ht⟩ := hi i (by omega)
      obtain ⟨_, hcl, hat⟩ := World.cells?_some hc
      obtain ⟨xs, n', _, hx2, _, hlen, hft⟩ := DataW.trod_struct Try.underlying80 ht
      match cs', hcl with
      | [c0, c1, c2, c3], _ =>
        match xs, hlen with
        | [y0, y1, y2, y3], _ =>
          have ht0 : DataW.trod enc Try.prog W 0 (fun _ => true) true n' 9 (([c0, c1, c2, c3].drop 0).take (Try.prog.cellsOf 9)) = some y0 := hft 0 _ rfl
          have ht1 : DataW.trod enc Try.prog W 0 (fun _ => true) true n' 3 (([c0, c1, c2, c3].drop 1).take (Try.prog.cellsOf 3)) = some y1 := hft 1 _ rfl
          have ht2 : DataW.trod enc Try.prog W 0 (fun _ => true) true n' 9 (([c0, c1, c2, c3].drop 2).take (Try.prog.cellsOf 9)) = some y2 := hft 2 _ rfl
          have ht3 : DataW.trod enc Try.prog W 0 (fun _ => true) true n' 4 (([c0, c1, c2, c3].drop 3).take (Try.prog.cellsOf 4)) = some y3 := hft 3 _ rfl
          simp only [h1s, h1i, h1b, List.drop_zero, List.take_succ_cons, List.take_zero, List.drop_succ_cons] at ht0 ht1 ht2 ht3
          obtain ⟨s0, hs0, hx0, _⟩ := DataW.trod_string Try.underlying9 ht0
          obtain ⟨z1, hs1, hx1, hw1⟩ := DataW.trod_int Try.underlying3 ht1
          obtain ⟨s2, hs2, hxb, _⟩ := DataW.trod_string Try.underlying9 ht2
          obtain ⟨b3, hs3, hx3⟩ := DataW.trod_bool Try.underlying4 ht3
          simp at hs0 hs1 hs2 hs3
          subst hs0; subst hs1; subst hs2; subst hs3
          refine ⟨⟨s0.data.toList, z1, s2.data.toList, b3⟩, fun q u hu => ?_, wf_i64 hw1, ?_⟩
          · have hq := (List.getElem?_eq_some_iff.1 hu).1
            have := hat q (by simpa [encE] using hq)
            rw [this]
            have e : encE ⟨s0.data.toList, z1, s2.data.toList, b3⟩ = [Value.string s0, .int .i64 z1, .string s2, .bool b3] := by unfold encE; simp only [sv_data]
            rw [e] at hu
            simpa using hu
          · have hx' : D i = .agg [y0.1, y1.1, y2.1, y3.1] := by have := congrArg Prod.fst hx2; exact this
            rw [hx', Rows.uptoBulk]
            simp only [Rows.uptoBulkAll, hx0, hxb, bulk_string]
            omega)
    have key : 0 < qs.length → a = ⟨a.block, a.off, none⟩ ∧ a.block < W.heap.size := fun h0 => by
      have h1 : qs[0]? = some (qs[0]'h0) := List.getElem?_eq_getElem _
      obtain ⟨h2, _⟩ := hp 0 _ h1
      have h2 := h2 0 _ rfl
      rw [Nat.zero_mul] at h2
      have ez : (a.add 0).add 0 = a.add 0 := by unfold Addr.add; simp
      rw [ez] at h2
      have h3 := add_spot a (spot_none h2)
      have h4 := World.block_lt_of_cell? W (a.add 0) h2
      rw [h3, add_is] at h4
      exact ⟨h3, h4⟩
    refine ⟨qs, ⟨some a, a.block, a.off, cap, by rw [hqs], by omega, hm, fun h0 => ?_, fun j p hj q u hu => ?_⟩, ?_, fun e he => ?_⟩
    · obtain ⟨h3, h4⟩ := key h0
      exact ⟨by rw [← h3], h4⟩
    · obtain ⟨g, _⟩ := hp j p hj
      obtain ⟨h3, _⟩ := key (by have := (List.getElem?_eq_some_iff.1 hj).1; omega)
      have := g q u hu
      rw [h3, add_is, add_is] at this
      exact this
    · have hx1 := (Prod.mk.inj hx).1
      rw [hx1, Rows.uptoBulk]
      have := bulk_sum (fun e : En => e.name.length + e.data.length + 1) qs D (fun i p hip => (hp i p hip).2.2)
      rw [hqs] at this
      unfold szE
      omega
    · obtain ⟨i, hi2, hz2⟩ := List.mem_iff_getElem.1 he
      exact (hp i e (by rw [← hz2]; exact List.getElem?_eq_getElem hi2)).2.1
set_option maxRecDepth 100000 in
theorem rep_open {base : Nat} {W : World} {v : Value} {d : DataW H} {ps : List MemPlace} (hval : Value.okWide Try.prog W .any base 45 v) (h : DataW.Trod enc Try.prog W 0 (fun _ => true) true 45 v d ps) :
    ∃ (r : Rep) (ev : Value), v = repV r ev ∧ EntsAt W ev r.ents ∧ (Rows.uptoBulk d ≤ 1048576 → okRep r ∧ 88 + r.data.length + r.tok.length + flatN enB r.ents ≤ 33554432) := by
  obtain ⟨cs, rfl, hsz⟩ := okWide_struct Try.underlying45 hval
  have hC : Try.prog.cellsOf 45 = 5 := by kernel_rfl
  have h1i : Try.prog.cellsOf 3 = 1 := by kernel_rfl
  have h1s : Try.prog.cellsOf 9 = 1 := by kernel_rfl
  have h1v : Try.prog.cellsOf 43 = 1 := by kernel_rfl
  obtain ⟨fuel, hf⟩ := h
  obtain ⟨l⟩ := cs
  obtain ⟨xs, n', _, hx, _, hlen, hft⟩ := DataW.trod_struct Try.underlying45 hf
  match l, hsz.trans hC with
  | [c0, c1, c2, c3, c4], _ =>
    match xs, hlen with
    | [y0, y1, y2, y3, y4], _ =>
      have ht0 : DataW.trod enc Try.prog W 0 (fun _ => true) true n' 3 (([c0, c1, c2, c3, c4].drop 0).take (Try.prog.cellsOf 3)) = some y0 := hft 0 _ rfl
      have ht1 : DataW.trod enc Try.prog W 0 (fun _ => true) true n' 3 (([c0, c1, c2, c3, c4].drop 1).take (Try.prog.cellsOf 3)) = some y1 := hft 1 _ rfl
      have ht2 : DataW.trod enc Try.prog W 0 (fun _ => true) true n' 9 (([c0, c1, c2, c3, c4].drop 2).take (Try.prog.cellsOf 9)) = some y2 := hft 2 _ rfl
      have ht3 : DataW.trod enc Try.prog W 0 (fun _ => true) true n' 43 (([c0, c1, c2, c3, c4].drop 3).take (Try.prog.cellsOf 43)) = some y3 := hft 3 _ rfl
      have ht4 : DataW.trod enc Try.prog W 0 (fun _ => true) true n' 9 (([c0, c1, c2, c3, c4].drop 4).take (Try.prog.cellsOf 9)) = some y4 := hft 4 _ rfl
      simp only [h1i, h1s, h1v, List.drop_zero, List.take_succ_cons, List.take_zero, List.drop_succ_cons] at ht0 ht1 ht2 ht3 ht4
      obtain ⟨n0, hs0, _, hw0⟩ := DataW.trod_int Try.underlying3 ht0
      obtain ⟨n1, hs1, _, hw1⟩ := DataW.trod_int Try.underlying3 ht1
      obtain ⟨s2, hs2, hx2, _⟩ := DataW.trod_string Try.underlying9 ht2
      obtain ⟨ls, hls, hlb, hlw⟩ := ents_trod ht3
      obtain ⟨s4, hs4, hx4, _⟩ := DataW.trod_string Try.underlying9 ht4
      simp at hs0 hs1 hs2 hs4
      subst hs0; subst hs1; subst hs2; subst hs4
      refine ⟨⟨n0, n1, s2.data.toList, ls, s4.data.toList⟩, c3, ?_, hls, fun hb => ?_⟩
      · unfold repV
        simp only [sv_data]
      · have hx' : d = .agg [y0.1, y1.1, y2.1, y3.1, y4.1] := by have := congrArg Prod.fst hx; exact this
        rw [hx', Rows.uptoBulk] at hb
        simp only [Rows.uptoBulkAll, hx2, hx4, bulk_string] at hb
        have hfe := flat_ents ls
        have hln := len_flat enB_pos ls
        refine ⟨⟨is_64 (wf_i64 hw0), is_64 (wf_i64 hw1), by show isC s2.data.toList.length; unfold isC; omega, ⟨by show isC ls.length; unfold isC; omega, fun e he => ?_⟩, by show isC s4.data.toList.length; unfold isC; omega⟩, by show 88 + s2.data.toList.length + s4.data.toList.length + flatN enB ls ≤ _; omega⟩
        have : e.name.length + e.data.length ≤ szE ls := szE_mem he
        exact ⟨by unfold isT isC; omega, is_64 (hlw e he), by unfold isT isC; omega, trivial⟩
end Go.Proofs.Ytacmfglbdbhglaa.Kc
