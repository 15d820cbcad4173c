/-
  WHAT THE REFERENCE's SCANNER ANSWERS, IN THE WORDS OF XLineStep; HOW THE CALLER'S MEMORY STANDS BEHIND IT.
-/
import Derived.Test.YthkcjfoihieooaaDoorLineStep
import Derived.Test.YthkcjfoihieooaaDoorLineParse
set_option linter.unusedVariables false
namespace Go.Proofs.YthkcjfoihieooaaDoor.Li
open Go.Lib Go.RowKit Bu

def NamP (b : Nat) (s : ByteArray) (k x : Nat) (w : World) (e : Ending) (w' : World) : Prop :=
  ∃ (n : ByteArray) (k' : Nat), e = .returned (.string n) ∧ n.data.toList = (s.data.toList.drop k).take (nlen (s.data.toList.drop k)) ∧ Sc b s k' (badAt x (nlen (s.data.toList.drop k))) w' ∧
    s.data.toList.drop k' = (s.data.toList.drop k).drop (nlen (s.data.toList.drop k)) ∧ k ≤ k' ∧ k' ≤ s.size ∧ w.grownBy w' (some b)
def SigP (b : Nat) (s t : ByteArray) (k x : Nat) (w : World) (e : Ending) (w' : World) : Prop :=
  ∃ (c : UInt8) (k' x' : Nat), e = .returned (.int .u8 (c.toNat : Int)) ∧ Sc b s k' x' w' ∧ SgR t.data.toList (s.data.toList.drop k) x c x' (s.data.toList.drop k') ∧
    x' ≤ 31 ∧ k ≤ k' ∧ k' ≤ s.size ∧ (k' = k + 1 ∨ c = 0) ∧ w.grownBy w' (some b)
def ValP (b : Nat) (s : ByteArray) (k x : Nat) (w : World) (e : Ending) (w' : World) : Prop :=
  ∃ (v : ByteArray) (k' x' : Nat), e = .returned (.string v) ∧ Sc b s k' x' w' ∧ VlR (s.data.toList.drop k) x v.data.toList x' (s.data.toList.drop k') ∧
    x' ≤ 31 ∧ k ≤ k' ∧ k' ≤ s.size ∧ w.grownBy w' (some b)
theorem nam_any (b : Nat) (s : ByteArray) (k x : Nat) (w : World) (h : Sc b s k x w) (hk : k ≤ s.size) (hs : s.size ≤ 4611686018427387904) (hx : x ≤ 31) :
    Calls Tryd.prog 27 #[.pointer (some ⟨b, 0, none⟩)] w fun e w' => NamP b s k x w e w' := by
  have hn := nlen_le (s.data.toList.drop k)
  rw [List.length_drop, ← Lib.size_eq] at hn
  refine (scName b s k x w h hk hs (by omega)).mono fun e w' ⟨h1, h2, h3⟩ => ⟨_, _, h1, ?_, h2, ?_, by omega, by omega, h3⟩
  · rw [Lib.extract_data, show k + nlen (s.data.toList.drop k) - k = nlen (s.data.toList.drop k) by omega]
  · rw [List.drop_drop]
theorem head_drop (s : ByteArray) (k : Nat) : (s.data.toList.drop k).head? = s.data.toList[k]? := by rw [List.head?_drop]
theorem sig_any (b : Nat) (s t : ByteArray) (k x : Nat) (w : World) (h : Sc b s k x w) (hk : k ≤ s.size) (hs : s.size ≤ 4611686018427387904) (ht : t.size ≤ 100) (hx : x ≤ 31) :
    Calls Tryd.prog 28 #[.pointer (some ⟨b, 0, none⟩), .string t] w fun e w' => SigP b s t k x w e w' := by
  refine (scSign b s t k x w h hk hs ht).mono fun e w' ⟨h1, h3⟩ => ?_
  rcases h1 with ⟨c, h4, h5, h6, h7⟩ | ⟨h4, h6, h7⟩
  · have hlt := (List.getElem?_eq_some_iff.1 h4).1
    rw [← Lib.size_eq] at hlt
    exact ⟨c, k + 1, x, h6, h7, .inl ⟨by rw [head_drop, h4], h5, rfl, by rw [List.tail_drop]⟩, hx, by omega, by omega, .inl rfl, h3⟩
  · exact ⟨0, k, bad31 x, h6, h7, .inr ⟨fun d hd => h4 d (by rw [← head_drop, hd]), rfl, rfl, rfl⟩, bad31_le hx, Nat.le_refl _, hk, .inr rfl, h3⟩
theorem val_any (b : Nat) (s : ByteArray) (k x : Nat) (w : World) (h : Sc b s k x w) (hk : k ≤ s.size) (hs : s.size ≤ 4611686018427387904) (hx : x ≤ 31) :
    Calls Tryd.prog 29 #[.pointer (some ⟨b, 0, none⟩)] w fun e w' => ValP b s k x w e w' := by
  by_cases hq : (s.data.toList.drop k).head? = some 34
  · have h34 := hq
    rw [head_drop] at hq
    have hlt := (List.getElem?_eq_some_iff.1 hq).1
    rw [← Lib.size_eq] at hlt
    have hel : s[k]'hlt = 34 := by
      have := Lib.data_getElem? s k hlt
      rw [hq] at this
      exact (Option.some.inj this).symm
    have htl : (s.data.toList.drop k).tail = s.data.toList.drop (k + 1) := by rw [List.tail_drop]
    have hpl := plen_le notQ (s.data.toList.drop (k + 1))
    rw [List.length_drop, ← Lib.size_eq] at hpl
    refine (scQuoted b s k x w h hlt hs hel).mono fun e w' ⟨h1, h3⟩ => ?_
    rcases h1 with ⟨h4, h5, h6⟩ | ⟨h4, h5, h6⟩
    · refine ⟨⟨(mean ((s.data.toList.drop (k + 1)).take (plen notQ (s.data.toList.drop (k + 1))))).toArray⟩, _, x, h5, h6, .inr (.inl ⟨h34, ?_, ?_, rfl, ?_⟩), hx, by omega, by omega, h3⟩
      · rw [htl, List.length_drop, ← Lib.size_eq]; omega
      · rw [htl]
      · rw [htl, List.drop_drop]; congr 1
    · refine ⟨⟨#[]⟩, _, bad31 x, h5, h6, .inr (.inr ⟨h34, ?_, rfl, rfl, ?_⟩), bad31_le hx, by omega, Nat.le_refl _, h3⟩
      · rw [htl, List.length_drop, ← Lib.size_eq]; omega
      · exact List.drop_of_length_le (by rw [← Lib.size_eq]; exact Nat.le_refl _)
  · have hpl := plen_le plainV (s.data.toList.drop k)
    rw [List.length_drop, ← Lib.size_eq] at hpl
    refine (scPlain b s k x w h hk hs fun hlt e => hq (by rw [head_drop, Lib.data_getElem? s k hlt, e])).mono fun e w' ⟨h1, h2, h3⟩ => ?_
    exact ⟨⟨(mean ((s.data.toList.drop k).take (plen plainV (s.data.toList.drop k)))).toArray⟩, _, x, h1, h2, .inl ⟨hq, rfl, rfl, by rw [List.drop_drop]⟩, hx, by omega, by omega, h3⟩

/-! ### memory -/
theorem ownsRow_far {w w' : World} {B : Nat} {e : TypeId} {size : Nat} {v : Value} {n : Nat} {xs : List Value} (h : w.ownsRow B e size v n xs) (hf : ∀ i, B ≤ i → i < w.heap.size → w'.heap[i]? = w.heap[i]?) : w'.ownsRow B e size v n xs := by
  refine ⟨h.1, ?_⟩
  rcases h.2 with h | ⟨g, cap, cur, e1, e2, e3, e4⟩
  · exact .inl h
  · exact .inr ⟨g, cap, cur, e1, e2, by rw [hf g e2 (Array.getElem?_eq_some_iff.1 e3).1]; exact e3, e4⟩
theorem Own.far {w w' : World} {B : Nat} {v : Value} {ls : List Row} (h : Own B v ls w) (hf : ∀ i, B ≤ i → i < w.heap.size → w'.heap[i]? = w.heap[i]?) : Own B v ls w' := ownsRow_far h hf
theorem POwn.far {w w' : World} {B : Nat} {v : Value} {ps : List PD} (h : POwn B v ps w) (hf : ∀ i, B ≤ i → i < w.heap.size → w'.heap[i]? = w.heap[i]?) : POwn B v ps w' := by
  obtain ⟨vs, h1, h2, h3⟩ := h
  exact ⟨vs, h1, ownsRow_far h2 hf, fun j p u hp hu => (h3 j p u hp hu).far hf⟩
theorem gr_far {w w' : World} {b B : Nat} (h : w.grownBy w' (some b)) (hb : b < B) : ∀ i, B ≤ i → i < w.heap.size → w'.heap[i]? = w.heap[i]? :=
  fun i hi hlt => h.block i hlt (fun e => by have := Option.some.inj e; omega)
theorem gr_alloc {a w : World} {row : Option Nat} (h : a.grownBy w row) (o : Obj) : a.grownBy (w.alloc o) row :=
  ⟨h.os, h.tape, h.output, by have := h.size; simp; omega, fun i hi hne => (Below.heap_alloc w o i (Nat.lt_of_lt_of_le hi h.size)).trans (h.block i hi hne)⟩
theorem gr_store {a w : World} {row : Option Nat} (h : a.grownBy w row) {p : Addr} (hp : a.heap.size ≤ p.block) (u : Value) : a.grownBy (w.setCell p u) row :=
  ⟨h.os, h.tape, h.output, by simpa [World.setCell] using h.size, fun i hi hne => (Below.heap_setCell w p u i (by omega)).trans (h.block i hi hne)⟩
theorem gr_grown {a w w' : World} {row row' : Option Nat} (h : a.grownBy w row) (k : w.grownBy w' row') (hr : ∀ g, row' = some g → a.heap.size ≤ g) : a.grownBy w' row :=
  ⟨k.os.trans h.os, k.tape.trans h.tape, k.output.trans h.output, Nat.le_trans h.size k.size, fun i hi hne => (k.block i (Nat.lt_of_lt_of_le hi h.size) (fun e => by have := hr i e.symm; omega)).trans (h.block i hi hne)⟩
theorem below_gr {a w w' : World} {b B : Nat} (h : Below B a w) (k : w.grownBy w' (some b)) (hb : B ≤ b) (hB : B ≤ w.heap.size) : Below B a w' := h.grown k hB (fun g hg => by have := Option.some.inj hg; omega)
/-- how memory stands while the reference reads: the result's block r, the scanner's Z, the line's Z + 1 -/
structure PS (w : World) (Z : Nat) (s : ByteArray) (k x : Nat) (g n : ByteArray) (pv : Value) (wr : World) : Prop where
  lt : w.heap.size < Z
  below : Below w.heap.size w wr
  res : wr.heap[w.heap.size]? = some (.cells #[.string ⟨#[]⟩, .string ⟨#[]⟩, .slice none 0 0, .string ⟨#[]⟩] 25 (0, 0))
  sc : Sc Z s k x wr
  line : wr.heap[Z + 1]? = some (.cells #[.string g, .string n, pv, .string ⟨#[]⟩] 25 (0, 0))
theorem PS.size {w wr : World} {Z k x : Nat} {s g n : ByteArray} {pv : Value} (h : PS w Z s k x g n pv wr) : Z + 1 < wr.heap.size := (Array.getElem?_eq_some_iff.1 h.line).1
theorem PS.call {w wr w' : World} {Z k x k' x' : Nat} {s g n : ByteArray} {pv : Value} (h : PS w Z s k x g n pv wr) (hg : wr.grownBy w' (some Z)) (hs : Sc Z s k' x' w') : PS w Z s k' x' g n pv w' := by
  have h1 := h.size
  have h2 := h.lt
  refine ⟨h.lt, below_gr h.below hg (by omega) (by omega), ?_, hs, ?_⟩
  · rw [hg.block w.heap.size (by omega) (fun e => by have := Option.some.inj e; omega)]; exact h.res
  · rw [hg.block (Z + 1) h1 (fun e => by have := Option.some.inj e; omega)]; exact h.line
theorem Sc.other {b k x : Nat} {s : ByteArray} {w : World} (h : Sc b s k x w) {p : Addr} (hp : b ≠ p.block) (u : Value) : Sc b s k x (w.setCell p u) := by
  unfold Sc at h ⊢
  rw [Below.heap_setCell w p u b hp]; exact h
theorem PS.kept {w wr : World} {Z k x : Nat} {s g n : ByteArray} {pv : Value} (h : PS w Z s k x g n pv wr) (o : Nat) (u : Value) :
    Below w.heap.size w (wr.setCell ⟨Z + 1, o, none⟩ u) ∧ (wr.setCell ⟨Z + 1, o, none⟩ u).heap[w.heap.size]? = some (.cells #[.string ⟨#[]⟩, .string ⟨#[]⟩, .slice none 0 0, .string ⟨#[]⟩] 25 (0, 0)) ∧ Sc Z s k x (wr.setCell ⟨Z + 1, o, none⟩ u) := by
  have h2 := h.lt
  refine ⟨h.below.setCell (p := ⟨Z + 1, o, none⟩) (by show w.heap.size ≤ Z + 1; omega) u, ?_, h.sc.other (by show Z ≠ Z + 1; omega) u⟩
  rw [Below.heap_setCell _ _ _ _ (by show w.heap.size ≠ Z + 1; omega)]; exact h.res
theorem PS.group {w wr : World} {Z k x : Nat} {s g n : ByteArray} {pv : Value} (h : PS w Z s k x g n pv wr) (g' : ByteArray) : PS w Z s k x g' n pv (wr.setCell ⟨Z + 1, 0, none⟩ (.string g')) :=
  have q := h.kept 0 (.string g')
  ⟨h.lt, q.1, q.2.1, q.2.2, by have := h.line; simp [World.setCell, Array.getElem?_modify, this]⟩
theorem PS.name {w wr : World} {Z k x : Nat} {s g n : ByteArray} {pv : Value} (h : PS w Z s k x g n pv wr) (n' : ByteArray) : PS w Z s k x g n' pv (wr.setCell ⟨Z + 1, 1, none⟩ (.string n')) :=
  have q := h.kept 1 (.string n')
  ⟨h.lt, q.1, q.2.1, q.2.2, by have := h.line; simp [World.setCell, Array.getElem?_modify, this]⟩
theorem PS.prms {w wr : World} {Z k x : Nat} {s g n : ByteArray} {pv : Value} (h : PS w Z s k x g n pv wr) (pv' : Value) : PS w Z s k x g n pv' (wr.setCell ⟨Z + 1, 2, none⟩ pv') :=
  have q := h.kept 2 pv'
  ⟨h.lt, q.1, q.2.1, q.2.2, by have := h.line; simp [World.setCell, Array.getElem?_modify, this]⟩
theorem blk_grown {w w' : World} {i : Nat} {o : Obj} {row : Option Nat} (h : w.heap[i]? = some o) (hg : w.grownBy w' row) (hne : ∀ g, row = some g → i ≠ g) : w'.heap[i]? = some o := by
  rw [hg.block i (Array.getElem?_eq_some_iff.1 h).1 (fun e => hne i e.symm rfl)]; exact h
theorem blk_alloc {w : World} {i : Nat} {o : Obj} (h : w.heap[i]? = some o) (o' : Obj) : (w.alloc o').heap[i]? = some o := by
  rw [Below.heap_alloc w o' i (Array.getElem?_eq_some_iff.1 h).1]; exact h
theorem blk_store {w : World} {i : Nat} {o : Obj} (h : w.heap[i]? = some o) {p : Addr} (hp : i ≠ p.block) (u : Value) : (w.setCell p u).heap[i]? = some o := by
  rw [Below.heap_setCell w p u i hp]; exact h
theorem PS.alloc {w wr : World} {Z k x : Nat} {s g n : ByteArray} {pv : Value} (h : PS w Z s k x g n pv wr) (o : Obj) : PS w Z s k x g n pv (wr.alloc o) :=
  ⟨h.lt, h.below.alloc h.below.size o, blk_alloc h.res o, blk_alloc h.sc o, blk_alloc h.line o⟩
theorem PS.grown {w wr w' : World} {Z k x : Nat} {s g n : ByteArray} {pv : Value} {row : Option Nat} (h : PS w Z s k x g n pv wr) (hg : wr.grownBy w' row) (hr : ∀ g, row = some g → Z + 2 ≤ g) : PS w Z s k x g n pv w' :=
  have h2 := h.lt
  ⟨h.lt, h.below.grown hg h.below.size (fun g e => by have := hr g e; omega), blk_grown h.res hg (fun g e => by have := hr g e; omega), blk_grown h.sc hg (fun g e => by have := hr g e; omega), blk_grown h.line hg (fun g e => by have := hr g e; omega)⟩
theorem res2 {W : World} {b : Nat} {x0 x1 : Value} {t : TypeId} (hk : W.heap[b]? = some (.cells #[x0, x1] t (0, 0))) :
    W.cell? ⟨b, 0, none⟩ = some x0 ∧ W.cell? ⟨b, 1, none⟩ = some x1 ∧ W.frozen? ⟨b, 0, none⟩ = false ∧ W.frozen? ⟨b, 1, none⟩ = false := by
  refine ⟨?_, ?_, Lib.frozen_of_heap hk 0, Lib.frozen_of_heap hk 1⟩
  all_goals rw [Lib.cell_of_heap hk]; rfl
theorem set2_0 {W : World} {b : Nat} {x0 x1 : Value} {t : TypeId} (hk : W.heap[b]? = some (.cells #[x0, x1] t (0, 0))) (u : Value) : (W.setCell ⟨b, 0, none⟩ u).heap[b]? = some (.cells #[u, x1] t (0, 0)) := by
  simp [World.setCell, Array.getElem?_modify, hk]
theorem set2_1 {W : World} {b : Nat} {x0 x1 : Value} {t : TypeId} (hk : W.heap[b]? = some (.cells #[x0, x1] t (0, 0))) (u : Value) : (W.setCell ⟨b, 1, none⟩ u).heap[b]? = some (.cells #[x0, u] t (0, 0)) := by
  simp [World.setCell, Array.getElem?_modify, hk]
theorem Own.snoc {B : Nat} {v' : Value} {ls : List Row} {x : ByteArray} {w' : World} (h : w'.ownsRow B 9 1 v' (ls.length + 1) (ls.map sv ++ [.string x])) : Own B v' (ls ++ [x.data.toList]) w' := by
  unfold Own
  rw [List.map_append, List.length_append, List.map_singleton, sv_data]
  exact h
theorem POwn.call {w w' : World} {Z : Nat} {v : Value} {ps : List PD} (h : POwn (Z + 2) v ps w) (hg : w.grownBy w' (some Z)) : POwn (Z + 2) v ps w' := h.far (gr_far hg (by omega))
end Go.Proofs.YthkcjfoihieooaaDoor.Li
