/-
  PARAMETERS OF TYPE api.Command AND []api.Command: what their reading gives.
-/
import Derived.Test.YtpngbfmbjldieaaProg
import Derived.Test.YtpngbfmbjldieaaRows
import Derived.Test.YtpngbfmbjldieaaRowsAt
import Derived.ChangeSame
import Derived.ChangeSlices
import Derived.Deep.Slices
import Derived.Deep.Fields
import Derived.Lib.SmallJoins
import Derived.Carry
set_option linter.unusedVariables false
namespace Go.Proofs.Ytpngbfmbjldieaa.Kc
open Go.Lib Go.RowKit Go.ChangeShapes Go.WideShapes Go.ChangeAt Go.Deep Cd
open Bo (Row sv sv_data)

structure Cm where
  op : Int
  bk : ByteArray
  nm : ByteArray
  dt : ByteArray
  mt : ByteArray
  nn : ByteArray
  tk : ByteArray
  names : List Row
  pos : Int
  ses : Int
  seq : Int
def i64 (z : Int) : Prop := -9223372036854775808 ≤ z ∧ z ≤ 9223372036854775807
structure Cm.Wf (c : Cm) : Prop where
  op : i64 c.op
  pos : i64 c.pos
  ses : i64 c.ses
  seq : i64 c.seq
theorem wf_i64 {z : Int} (h : (Lit.int .i64 z).wf = true) : i64 z := by
  simp [Lit.wf, IntKind.min, IntKind.max, IntKind.signed, IntKind.bits] at h
  unfold i64
  omega
def szN (l : List Row) : Nat := (l.map fun x => x.length + 1).sum
def Cm.sz (c : Cm) : Nat := c.bk.size + c.nm.size + c.dt.size + c.mt.size + c.nn.size + c.tk.size + szN c.names
def cells (c : Cm) (nv : Value) : List Value := [.int .i64 c.op, .string c.bk, .string c.nm, .string c.dt, .string c.mt, .string c.nn, .string c.tk, nv, .int .i64 c.pos, .int .i64 c.ses, .int .i64 c.seq]
/-- rows of commands, wherever they read -/
def CmsAt (w : World) (v : Value) (t : List Cm) : Prop :=
  ∃ (A : Option Addr) (b off c : Nat), v = .slice A t.length c ∧ t.length ≤ c ∧ c ≤ maxLen ∧ (0 < t.length → A = some ⟨b, off, none⟩ ∧ b < w.heap.size) ∧
    ∀ (j : Nat) (r : Cm), t[j]? = some r → r.Wf ∧ ∃ nv, StrsAt w nv r.names ∧ ∀ (q : Nat) (u : Value), (cells r nv)[q]? = some u → w.cell? ⟨b, off + j * 11 + q, none⟩ = some u
theorem szN_sum (l : List Row) : l.length ≤ szN l := by
  unfold szN
  induction l with
  | nil => simp
  | cons x r ih => simp only [List.map_cons, List.sum_cons, List.length_cons]; omega
theorem szN_mem {l : List Row} {x : Row} (h : x ∈ l) : x.length ≤ szN l := by
  unfold szN
  induction l with
  | nil => cases h
  | cons y r ih =>
    simp only [List.map_cons, List.sum_cons]
    rcases List.mem_cons.1 h with rfl | h
    · omega
    · have := ih h; omega
theorem listed {α : Type} (P : Nat → α → Prop) : ∀ n, (∀ i, i < n → ∃ x, P i x) → ∃ xs : List α, xs.length = n ∧ ∀ (i : Nat) (x : α), xs[i]? = some x → P i x
  | 0, _ => ⟨[], rfl, fun i x h => by simp at h⟩
  | n + 1, h => by
    obtain ⟨xs, hl, hx⟩ := listed P n (fun i hi => h i (by omega))
    obtain ⟨x, hxn⟩ := h n (by omega)
    refine ⟨xs ++ [x], by simp [hl], fun i y hy => ?_⟩
    by_cases hi : i < n
    · rw [List.getElem?_append_left (by omega)] at hy
      exact hx i y hy
    · rw [List.getElem?_append_right (by omega)] at hy
      have h0 : i - xs.length = 0 := by have := (List.getElem?_eq_some_iff.1 hy).1; simp at this; omega
      rw [h0] at hy
      simp at hy
      subst hy
      rw [show i = n by omega]
      exact hxn
theorem spot_none {W : World} {a : Addr} {v : Value} (h : W.cell? a = some v) : a.spot = none := by
  cases hs : a.spot with
  | none => rfl
  | some x =>
    exfalso
    unfold World.cell? at h
    rw [hs] at h
    split at h <;> simp at h
theorem add_spot (a : Addr) (h : (a.add 0).spot = none) : a = ⟨a.block, a.off, none⟩ := by
  obtain ⟨b, off, spot⟩ := a
  unfold Addr.add at h
  split at h <;> simp_all
theorem add_is (b off i : Nat) : (⟨b, off, none⟩ : Addr).add i = ⟨b, off + i, none⟩ := by
  unfold Addr.add
  split
  · rename_i h; subst h; rfl
  · rfl
variable {H : Type} {enc : TypeId × Value → H}
theorem bulk_string (b : List UInt8) : Rows.uptoBulk (DataW.lit (H := H) (.string b)) = b.length + 1 := by rw [Rows.uptoBulk]
theorem bulk_sum {α : Type} (f : α → Nat) : ∀ (xs : List α) (D : Nat → DataW H), (∀ (i : Nat) (x : α), xs[i]? = some x → f x ≤ Rows.uptoBulk (D i)) → (xs.map f).sum ≤ Rows.uptoBulkAll ((List.range xs.length).map D)
  | [], D, _ => by simp
  | x :: xs, D, h => by
    have h0 := h 0 x rfl
    have ih := bulk_sum f xs (fun i => D (i + 1)) (fun i y hy => h (i + 1) y (by simpa using hy))
    rw [List.length_cons, List.range_succ_eq_map, List.map_cons, List.map_cons, List.map_map, List.sum_cons, Rows.uptoBulkAll]
    have e : (D ∘ Nat.succ) = fun i => D (i + 1) := rfl
    rw [e]
    omega
set_option maxRecDepth 100000 in
theorem strs_trod {W : World} {fuel : Nat} {v : Value} {x : DataW H × List MemPlace} (h : DataW.trod enc Try.prog W 0 (fun _ => true) true fuel 25 [v] = some x) : ∃ ls, StrsAt W v ls ∧ szN ls ≤ Rows.uptoBulk x.1 := by
  have hce : Try.prog.cellsOf 9 = 1 := by kernel_rfl
  rcases open_slice1 Try.underlying25 hce h with ⟨hcs, hx⟩ | ⟨a, len, cap, m, n, V, D, Pl, hcs, _, hl, hm, hmm, hx, hi⟩
  · simp at hcs
    subst hcs
    exact ⟨[], RowsAt.nil W, Nat.zero_le _⟩
  · simp at hcs
    subst hcs
    simp only [if_true] at hmm
    obtain ⟨qs, hqs, hp⟩ := listed (fun i (p : Row) => W.cell? (a.add i) = some (sv p) ∧ p.length + 1 ≤ Rows.uptoBulk (D i)) len (fun i hil => by
      obtain ⟨hc, ht⟩ := hi i (by omega)
      obtain ⟨s, hs, hx, _⟩ := DataW.trod_string Try.underlying9 ht
      simp at hs
      obtain ⟨hx1, _⟩ := Prod.mk.inj hx
      refine ⟨s.data.toList, by rw [sv_data, hc, hs], ?_⟩
      rw [hx1, bulk_string]
      omega)
    have key : 0 < qs.length → a = ⟨a.block, a.off, none⟩ ∧ a.block < W.heap.size := fun h0 => by
      have h1 : qs[0]? = some (qs[0]'h0) := List.getElem?_eq_getElem _
      have h2 := (hp 0 _ h1).1
      have h3 := add_spot a (spot_none h2)
      have h4 := World.block_lt_of_cell? W (a.add 0) h2
      rw [h3, add_is] at h4
      exact ⟨h3, h4⟩
    refine ⟨qs, ⟨some a, a.block, a.off, cap, by rw [hqs], by omega, hm, fun h0 => ?_, fun j p hj q u hu => ?_⟩, ?_⟩
    · obtain ⟨h3, h4⟩ := key h0
      exact ⟨by rw [← h3], h4⟩
    · obtain ⟨g0, _⟩ := hp j p hj
      obtain ⟨h3, _⟩ := key (by have := (List.getElem?_eq_some_iff.1 hj).1; omega)
      rw [h3, add_is] at g0
      match q, hu with
      | 0, hu =>
        simp [Cd.encS] at hu
        subst hu
        rw [Nat.mul_one, Nat.add_zero]
        exact g0
      | q + 1, hu => simp [Cd.encS] at hu
    · rw [hx, Rows.uptoBulk]
      have := bulk_sum (fun p : Row => p.length + 1) qs D (fun i p hip => (hp i p hip).2)
      rw [hqs] at this
      unfold szN
      omega
set_option maxHeartbeats 1000000 in
set_option maxRecDepth 100000 in
theorem cmd_trod {W : World} {fuel : Nat} {cs : List Value} {x : DataW H × List MemPlace} (hl : cs.length = 11) (h : DataW.trod enc Try.prog W 0 (fun _ => true) true fuel 27 cs = some x) : ∃ (c : Cm) (nv : Value), cs = cells c nv ∧ StrsAt W nv c.names ∧ c.sz ≤ Rows.uptoBulk x.1 ∧ c.Wf := by
  have h1s : Try.prog.cellsOf 9 = 1 := by kernel_rfl
  have h1i : Try.prog.cellsOf 3 = 1 := by kernel_rfl
  have h1o : Try.prog.cellsOf 24 = 1 := by kernel_rfl
  have h1v : Try.prog.cellsOf 25 = 1 := by kernel_rfl
  obtain ⟨xs, n', _, hx, _, hlen, hft⟩ := DataW.trod_struct Try.underlying27 h
  match cs, hl with
  | [c0, c1, c2, c3, c4, c5, c6, c7, c8, c9, c10], _ =>
    match xs, hlen with
    | [y0, y1, y2, y3, y4, y5, y6, y7, y8, y9, y10], _ =>
      have ht0 : DataW.trod enc Try.prog W 0 (fun _ => true) true n' 24 (([c0, c1, c2, c3, c4, c5, c6, c7, c8, c9, c10].drop 0).take (Try.prog.cellsOf 24)) = some y0 := hft 0 _ rfl
      have ht1 : DataW.trod enc Try.prog W 0 (fun _ => true) true n' 9 (([c0, c1, c2, c3, c4, c5, c6, c7, c8, c9, c10].drop 1).take (Try.prog.cellsOf 9)) = some y1 := hft 1 _ rfl
      have ht2 : DataW.trod enc Try.prog W 0 (fun _ => true) true n' 9 (([c0, c1, c2, c3, c4, c5, c6, c7, c8, c9, c10].drop 2).take (Try.prog.cellsOf 9)) = some y2 := hft 2 _ rfl
      have ht3 : DataW.trod enc Try.prog W 0 (fun _ => true) true n' 9 (([c0, c1, c2, c3, c4, c5, c6, c7, c8, c9, c10].drop 3).take (Try.prog.cellsOf 9)) = some y3 := hft 3 _ rfl
      have ht4 : DataW.trod enc Try.prog W 0 (fun _ => true) true n' 9 (([c0, c1, c2, c3, c4, c5, c6, c7, c8, c9, c10].drop 4).take (Try.prog.cellsOf 9)) = some y4 := hft 4 _ rfl
      have ht5 : DataW.trod enc Try.prog W 0 (fun _ => true) true n' 9 (([c0, c1, c2, c3, c4, c5, c6, c7, c8, c9, c10].drop 5).take (Try.prog.cellsOf 9)) = some y5 := hft 5 _ rfl
      have ht6 : DataW.trod enc Try.prog W 0 (fun _ => true) true n' 9 (([c0, c1, c2, c3, c4, c5, c6, c7, c8, c9, c10].drop 6).take (Try.prog.cellsOf 9)) = some y6 := hft 6 _ rfl
      have ht7 : DataW.trod enc Try.prog W 0 (fun _ => true) true n' 25 (([c0, c1, c2, c3, c4, c5, c6, c7, c8, c9, c10].drop 7).take (Try.prog.cellsOf 25)) = some y7 := hft 7 _ rfl
      have ht8 : DataW.trod enc Try.prog W 0 (fun _ => true) true n' 3 (([c0, c1, c2, c3, c4, c5, c6, c7, c8, c9, c10].drop 8).take (Try.prog.cellsOf 3)) = some y8 := hft 8 _ rfl
      have ht9 : DataW.trod enc Try.prog W 0 (fun _ => true) true n' 3 (([c0, c1, c2, c3, c4, c5, c6, c7, c8, c9, c10].drop 9).take (Try.prog.cellsOf 3)) = some y9 := hft 9 _ rfl
      have ht10 : DataW.trod enc Try.prog W 0 (fun _ => true) true n' 3 (([c0, c1, c2, c3, c4, c5, c6, c7, c8, c9, c10].drop 10).take (Try.prog.cellsOf 3)) = some y10 := hft 10 _ rfl
      simp only [h1s, h1i, h1o, h1v, List.drop_zero, List.take_succ_cons, List.take_zero, List.drop_succ_cons] at ht0 ht1 ht2 ht3 ht4 ht5 ht6 ht7 ht8 ht9 ht10
      obtain ⟨n0, hs0, hx0, hw0⟩ := DataW.trod_int Try.underlying24 ht0
      obtain ⟨s1, hs1, hx1, _⟩ := DataW.trod_string Try.underlying9 ht1
      obtain ⟨s2, hs2, hx2, _⟩ := DataW.trod_string Try.underlying9 ht2
      obtain ⟨s3, hs3, hx3, _⟩ := DataW.trod_string Try.underlying9 ht3
      obtain ⟨s4, hs4, hx4, _⟩ := DataW.trod_string Try.underlying9 ht4
      obtain ⟨s5, hs5, hx5, _⟩ := DataW.trod_string Try.underlying9 ht5
      obtain ⟨s6, hs6, hx6, _⟩ := DataW.trod_string Try.underlying9 ht6
      obtain ⟨ls, hls, hb⟩ := strs_trod ht7
      obtain ⟨n8, hs8, hx8, hw8⟩ := DataW.trod_int Try.underlying3 ht8
      obtain ⟨n9, hs9, hx9, hw9⟩ := DataW.trod_int Try.underlying3 ht9
      obtain ⟨n10, hs10, hx10, hw10⟩ := DataW.trod_int Try.underlying3 ht10
      simp at hs0 hs1 hs2 hs3 hs4 hs5 hs6 hs8 hs9 hs10
      subst hs0; subst hs1; subst hs2; subst hs3; subst hs4; subst hs5; subst hs6; subst hs8; subst hs9; subst hs10
      refine ⟨⟨n0, s1, s2, s3, s4, s5, s6, ls, n8, n9, n10⟩, c7, rfl, hls, ?_, ⟨wf_i64 hw0, wf_i64 hw8, wf_i64 hw9, wf_i64 hw10⟩⟩
      have hx' : x.1 = .agg [y0.1, y1.1, y2.1, y3.1, y4.1, y5.1, y6.1, y7.1, y8.1, y9.1, y10.1] := by rw [hx]; rfl
      have z : ∀ s : ByteArray, s.size = s.data.toList.length := fun s => Lib.size_eq s
      rw [hx', Rows.uptoBulk]
      simp only [Rows.uptoBulkAll, hx1, hx2, hx3, hx4, hx5, hx6, bulk_string]
      unfold Cm.sz
      simp only [z]
      omega
set_option maxRecDepth 100000 in
theorem cmd_open {base : Nat} {W : World} {v : Value} {d : DataW H} {ps : List MemPlace} (hval : Value.okWide Try.prog W .any base 27 v) (h : DataW.Trod enc Try.prog W 0 (fun _ => true) true 27 v d ps) :
    ∃ (c : Cm) (nv : Value), v = .agg (cells c nv).toArray ∧ StrsAt W nv c.names ∧ c.sz ≤ Rows.uptoBulk d ∧ c.Wf := by
  obtain ⟨cs, rfl, hsz⟩ := okWide_struct Try.underlying27 hval
  have hC : Try.prog.cellsOf 27 = 11 := by kernel_rfl
  obtain ⟨fuel, hf⟩ := h
  obtain ⟨l⟩ := cs
  obtain ⟨c, nv, h1, h2, h3, h4⟩ := cmd_trod (cs := l) (hsz.trans hC) hf
  exact ⟨c, nv, by rw [← h1], h2, h3, h4⟩
end Go.Proofs.Ytpngbfmbjldieaa.Kc
