/-
  PLAIN LAWS FOR THE LAW HttpFields: fields written with blanks round their values, and Content-Length among them, are read as themselves; memory that one box lies in.
-/
import Derived.Test.YtiaollhiggeolaaDoorHttpPiecesP
import Derived.Test.YtiaollhiggeolaaDoorHttpRefSame
import Derived.Test.YtiaollhiggeolaaDoorHttpFirst
import Derived.Test.YtiaollhiggeolaaDoorHttpCodeM
set_option linter.unusedVariables false
namespace Go.Proofs.YtiaollhiggeolaaDoor.Ht
open Go.Lib Go.RowKit

theorem trim_ahead {p v : Row} (h : ∀ c ∈ p, bl c = true) : trim (p ++ v) = trim v := by
  unfold trim
  rw [List.dropWhile_append, dw_nil.2 h]; rfl
theorem trim_behind {v q : Row} (h : ∀ c ∈ q, bl c = true) : trim (v ++ q) = trim v := by
  unfold trim
  rw [List.dropWhile_append]
  by_cases he : (v.dropWhile bl).isEmpty = true
  · rw [if_pos he, dw_nil.2 h, List.isEmpty_iff.1 he]
  · rw [if_neg he, List.reverse_append, List.dropWhile_append, dw_nil.2 (fun c hc => h c (List.mem_reverse.1 hc))]; rfl
/-- a field's row with blanks -/
def rwF (p : Row) (f : Fd) : Row := f.1 ++ 58 :: (p ++ (f.2 ++ [32]))
def clL : Row := [99, 111, 110, 116, 101, 110, 116, 45, 76, 69, 78, 71, 84, 72]
def clX (n : Nat) : Row := clL ++ 58 :: decDigits n
theorem flds_rw {p : Row} (hp : ∀ c ∈ p, bl c = true) {f : Fd} (h : fdB f = true) (l : Option Nat) (rs : List Row) : flds l (rwF p f :: rs) = (flds l rs).map fun q => (f :: q.1, q.2) := by
  obtain ⟨h1, h2, h3, h4, h5⟩ := fdB_parts h
  rw [flds, show cutB 58 (rwF p f) = some (f.1, p ++ (f.2 ++ [32])) from cutB_at _ (nmB_no h1 (by decide)), Option.bind_some]
  simp only
  rw [trim_ahead hp, trim_behind (fun c hc => by rw [List.mem_singleton.1 hc]; decide), h3, if_pos ⟨h1, h2, h5⟩, if_neg h4]
theorem flds_rws {p : Row} (hp : ∀ c ∈ p, bl c = true) : ∀ (fs : List Fd) (l : Option Nat) (rs : List Row), fs.all fdB = true → flds l (fs.map (rwF p) ++ rs) = (flds l rs).map fun q => (fs ++ q.1, q.2)
  | [], l, rs, _ => by
    show flds l rs = _
    cases flds l rs with
    | none => rfl
    | some q => rfl
  | f :: fs, l, rs, h => by
    simp only [List.all_cons, Bool.and_eq_true] at h
    show flds l (rwF p f :: (fs.map (rwF p) ++ rs)) = _
    rw [flds_rw hp h.1, flds_rws hp fs l rs h.2]
    cases flds l rs <;> rfl
theorem flds_clX {n : Nat} (h : n ≤ 65536) (rs : List Row) : flds none (clX n :: rs) = flds (some n) rs := by
  rw [flds, show cutB 58 (clX n) = some (clL, decDigits n) from cutB_at _ (by decide), Option.bind_some]
  simp only
  have hr : rng 32 126 true (decDigits n) = true := List.all_eq_true.2 fun x hx => by
    have := dec_bytes n x hx
    simp only [Bool.or_eq_true, decide_eq_true_eq]
    left; omega
  have ht : trim (decDigits n) = decDigits n := by rw [← trim_blank, dec_trim]
  rw [ht, if_pos ⟨by decide, hr, by decide⟩, if_pos (by decide), Ch.numS_dec, if_pos h, if_pos ⟨trivial, rfl⟩]
/-- all rows, the length at place k -/
def allR (p : Row) (fs : List Fd) (k n : Nat) : List Row := (fs.take k).map (rwF p) ++ clX n :: (fs.drop k).map (rwF p)
theorem fields_allR {p : Row} (hp : ∀ c ∈ p, bl c = true) {fs : List Fd} {k n : Nat} (h : fs.all fdB = true) (hn : n ≤ 65536) (hl : fs.length ≤ 31) : fields (allR p fs k n) = some (fs, n) := by
  have h1 : (fs.take k).all fdB = true := List.all_eq_true.2 fun f hf => List.all_eq_true.1 h f (List.mem_of_mem_take hf)
  have h2 : (fs.drop k).all fdB = true := List.all_eq_true.2 fun f hf => List.all_eq_true.1 h f (List.mem_of_mem_drop hf)
  unfold fields allR
  have e := flds_rws hp (fs.drop k) (some n) [] h2
  rw [List.append_nil] at e
  rw [if_neg (by simp; omega), flds_rws hp _ none _ h1, flds_clX hn, e, show flds (some n) [] = some ([], some n) from rfl]
  simp
theorem clX_ok (n : Nat) : (13 : UInt8) ∉ clX n ∧ clX n ≠ [] := by
  refine ⟨fun h => ?_, by simp [clX, clL]⟩
  unfold clX at h
  rcases List.mem_append.1 h with h | h
  · revert h; decide
  · rcases List.mem_cons.1 h with h | h
    · revert h; decide
    · have := dec_bytes n _ h
      revert this; decide
theorem rwF_ok {p : Row} (hp : ∀ c ∈ p, bl c = true) {f : Fd} (h : fdB f = true) : (13 : UInt8) ∉ rwF p f ∧ rwF p f ≠ [] := by
  obtain ⟨h1, h2, _⟩ := fdB_parts h
  refine ⟨fun hm => ?_, by simp [rwF]⟩
  unfold rwF at hm
  rcases List.mem_append.1 hm with hm | hm
  · exact nmB_no h1 (by decide) hm
  · rcases List.mem_cons.1 hm with hm | hm
    · revert hm; decide
    · rcases List.mem_append.1 hm with hm | hm
      · have := hp _ hm; revert this; decide
      · rcases List.mem_append.1 hm with hm | hm
        · exact rng_no h2 (by decide) (by decide) hm
        · revert hm; decide
theorem allR_ok {p row : Row} (hp : ∀ c ∈ p, bl c = true) {fs : List Fd} {k n : Nat} (hr : (13 : UInt8) ∉ row ∧ row ≠ []) (h : fs.all fdB = true) : ∀ a ∈ row :: allR p fs k n, (13 : UInt8) ∉ a ∧ a ≠ [] := fun a ha => by
  rcases List.mem_cons.1 ha with rfl | ha
  · exact hr
  · unfold allR at ha
    rcases List.mem_append.1 ha with ha | ha
    · obtain ⟨f, hf, rfl⟩ := List.mem_map.1 ha
      exact rwF_ok hp (List.all_eq_true.1 h f (List.mem_of_mem_take hf))
    · rcases List.mem_cons.1 ha with rfl | ha
      · exact clX_ok n
      · obtain ⟨f, hf, rfl⟩ := List.mem_map.1 ha
        exact rwF_ok hp (List.all_eq_true.1 h f (List.mem_of_mem_drop hf))
/-- the whole text -/
def textF (row p : Row) (fs : List Fd) (k : Nat) (body : Row) : Row := ends (row :: allR p fs k body.length) ++ ([13, 10] ++ body)
theorem write_parts {row : Row} {fs : List Fd} {body s : Row} (h : write row fs body = (s, 0)) : fs.all fdB = true ∧ fs.length ≤ 31 ∧ body.length ≤ 65536 ∧ (headR row fs body.length).length ≤ 8192 := by
  unfold write at h
  split at h
  · simp at h
  · rename_i h1
    split at h
    · simp at h
    · rename_i h2
      refine ⟨?_, by omega, by omega, by omega⟩
      cases hh : fs.all fdB with
      | true => rfl
      | false => exact absurd (.inr hh) h1
theorem read_textF {m t : Row} {p : Row} (hp : ∀ c ∈ p, bl c = true) {fs : List Fd} {k : Nat} {body : Row} (ha : asked m t = true) (h : fs.all fdB = true) (hl : fs.length ≤ 31) (hb : body.length ≤ 65536) (hh : (textF (rowQ m t) p fs k body).length - body.length ≤ 8192) :
    readQ (textF (rowQ m t) p fs k body) = .inl ((m, t), fs, body, (textF (rowQ m t) p fs k body).length) := by
  obtain ⟨f1, f2⟩ := firstQ_pr ha
  have f1 : firstQ (rowQ m t) = some (m, t) := f1
  have f2 : (13 : UInt8) ∉ rowQ m t ∧ rowQ m t ≠ [] := f2
  have hrows := allR_ok hp (k := k) (n := body.length) f2 h
  have hlen : (textF (rowQ m t) p fs k body).length = (ends (rowQ m t :: allR p fs k body.length)).length + 2 + body.length := by unfold textF; simp; omega
  have hT : (textF (rowQ m t) p fs k body).take 8192 = ends (rowQ m t :: allR p fs k body.length) ++ 13 :: 10 :: body.take (8192 - ((ends (rowQ m t :: allR p fs k body.length)).length + 2)) := by
    unfold textF
    rw [show ends (rowQ m t :: allR p fs k body.length) ++ ([13, 10] ++ body) = (ends (rowQ m t :: allR p fs k body.length) ++ [13, 10]) ++ body by simp, List.take_append, List.take_of_length_le (by rw [List.length_append]; simp only [List.length_cons, List.length_nil]; omega)]
    simp
  have hd := hdA_ends (rowQ m t :: allR p fs k body.length) true (body.take (8192 - ((ends (rowQ m t :: allR p fs k body.length)).length + 2))) hrows (fun _ => by simp)
  unfold readQ readM
  rw [hT, hd]
  simp only
  rw [f1, fields_allR hp h hb hl]
  simp only
  rw [if_neg (by omega), hlen]
  congr 3
  · have : (textF (rowQ m t) p fs k body).drop ((ends (rowQ m t :: allR p fs k body.length)).length + 2) = body := by
      unfold textF
      rw [← List.drop_drop, List.drop_left]; rfl
    rw [this, List.take_length]
/-- what is written ahead of field i -/
def preR (p : Row) (fs : List Fd) (k n i : Nat) : List Row := if k < i then (fs.take k).map (rwF p) ++ clX n :: ((fs.take i).drop k).map (rwF p) else (fs.take i).map (rwF p)
theorem preR_zero (p : Row) (fs : List Fd) (k n : Nat) : preR p fs k n 0 = [] := by
  unfold preR
  rw [if_neg (by omega)]; rfl
theorem preR_succ {p : Row} {fs : List Fd} {k n i : Nat} {f : Fd} (h : fs[i]? = some f) : preR p fs k n (i + 1) = preR p fs k n i ++ ((if i = k then [clX n] else []) ++ [rwF p f]) := by
  have hl := (List.getElem?_eq_some_iff.1 h).1
  unfold preR
  rw [take_nx h]
  rcases Nat.lt_trichotomy i k with hlt | he | hgt
  · rw [if_neg (by omega), if_neg (by omega), if_neg (by omega), List.map_append]; rfl
  · subst he
    rw [if_pos (by omega), if_neg (by omega), if_pos rfl, List.drop_left' (by rw [List.length_take]; omega)]
    simp
  · rw [if_pos (by omega), if_pos hgt, if_neg (by omega), List.drop_append_of_le_length (by rw [List.length_take]; omega), List.map_append]
    simp
theorem preR_end {p : Row} {fs : List Fd} {k n : Nat} (hk : k ≤ fs.length) : preR p fs k n fs.length ++ (if fs.length = k then [clX n] else []) = allR p fs k n := by
  unfold preR allR
  rw [List.take_length]
  by_cases he : fs.length = k
  · rw [if_neg (by omega), if_pos he, List.drop_of_length_le (by omega), List.take_of_length_le (by omega)]; rfl
  · rw [if_pos (by omega), if_neg he, List.append_nil]
/-- what was written so far -/
def upTo (row p : Row) (fs : List Fd) (k n i : Nat) : Row := ends (row :: preR p fs k n i)
theorem upTo_zero (row p : Row) (fs : List Fd) (k n : Nat) : upTo row p fs k n 0 = row ++ [13, 10] := by unfold upTo; rw [preR_zero]; rfl
theorem upTo_succ {row p : Row} {fs : List Fd} {k n i : Nat} {f : Fd} (h : fs[i]? = some f) : upTo row p fs k n (i + 1) = upTo row p fs k n i ++ ((if i = k then clX n ++ [13, 10] else []) ++ (rwF p f ++ [13, 10])) := by
  unfold upTo
  rw [preR_succ h, ← List.cons_append, ends_append, ends_append]
  by_cases he : i = k
  · rw [if_pos he, if_pos he]; rfl
  · rw [if_neg he, if_neg he]; rfl
theorem upTo_end {row p : Row} {fs : List Fd} {k : Nat} {body : Row} (hk : k ≤ fs.length) : upTo row p fs k body.length fs.length ++ (if fs.length = k then clX body.length ++ [13, 10] else []) ++ ([13, 10] ++ body) = textF row p fs k body := by
  unfold upTo textF
  rw [← preR_end (p := p) (n := body.length) hk, ← List.cons_append, ends_append]
  by_cases he : fs.length = k
  · rw [if_pos he, if_pos he]; rfl
  · rw [if_neg he, if_neg he]; rfl
theorem rwF_len (p : Row) (f : Fd) : (rwF p f).length = f.1.length + p.length + f.2.length + 2 := by unfold rwF; simp; omega
theorem upTo_len {row p : Row} {fs : List Fd} {k n : Nat} : ∀ (i : Nat), (upTo row p fs k n i).length ≤ row.length + 2 + 2 * (clX n).length + 4 + i * (p.length + 8) + 2 * szF fs := by
  intro i
  have h1 : ∀ (gs : List Fd), (ends (gs.map (rwF p))).length ≤ gs.length * (p.length + 8) + szF gs := fun gs => by
    induction gs with
    | nil => simp [ends]
    | cons f gs ih =>
      simp only [List.map_cons, ends, List.length_append, List.length_cons, szF_cons]
      rw [rwF_len, Nat.add_mul, Nat.one_mul]
      generalize gs.length * (p.length + 8) = X at ih ⊢
      omega
  have h2 : ∀ j, szF (fs.take j) ≤ szF fs := szF_take fs
  have h3 : ∀ j, szF (fs.drop j) ≤ szF fs := fun j => by
    have e : szF fs = szF (fs.take j) + szF (fs.drop j) := by
      conv => lhs; rw [← List.take_append_drop j fs]
      unfold szF
      rw [List.map_append, List.sum_append]
    omega
  unfold upTo preR
  split
  · rename_i hk
    rw [show row :: ((fs.take k).map (rwF p) ++ clX n :: ((fs.take i).drop k).map (rwF p)) = [row] ++ ((fs.take k).map (rwF p) ++ ([clX n] ++ ((fs.take i).drop k).map (rwF p))) by simp, ends_append, ends_append, ends_append]
    have a1 := h1 (fs.take k)
    have a2 := h1 ((fs.take i).drop k)
    have a3 : (fs.take k).length * (p.length + 8) + ((fs.take i).drop k).length * (p.length + 8) ≤ i * (p.length + 8) := by
      rw [← Nat.add_mul]
      refine Nat.mul_le_mul_right _ ?_
      rw [List.length_take, List.length_drop, List.length_take]
      omega
    have a4 : szF (fs.take k) + szF ((fs.take i).drop k) ≤ 2 * szF fs := by
      have := h2 k
      have b : szF ((fs.take i).drop k) ≤ szF (fs.take i) := by
        have e : szF (fs.take i) = szF ((fs.take i).take k) + szF ((fs.take i).drop k) := by
          conv => lhs; rw [← List.take_append_drop k (fs.take i)]
          unfold szF
          rw [List.map_append, List.sum_append]
        omega
      have := h2 i
      omega
    simp only [ends, List.length_append, List.length_cons, List.length_nil]
    omega
  · rw [show row :: (fs.take i).map (rwF p) = [row] ++ (fs.take i).map (rwF p) by simp, ends_append]
    have a1 := h1 (fs.take i)
    have a2 : (fs.take i).length * (p.length + 8) ≤ i * (p.length + 8) := Nat.mul_le_mul_right _ (by rw [List.length_take]; omega)
    have := h2 i
    simp only [ends, List.length_append, List.length_cons, List.length_nil]
    omega
/-- one box of the call's own, behind what there was -/
structure One (w : World) (o0 : Obj) (W : World) : Prop where
  bel : Below w.heap.size w W
  at0 : W.heap[w.heap.size]? = some o0
theorem One.next {w W W' : World} {o0 : Obj} (h : One w o0 W) (hb : Below W.heap.size W W') : One w o0 W' :=
  ⟨below_then h.bel hb, (hb.block _ (Array.getElem?_eq_some_iff.1 h.at0).1).trans h.at0⟩
theorem One.new {w : World} {o0 : Obj} : One w o0 (w.alloc o0) := ⟨(Below.refl _ _).alloc (Nat.le_refl _) _, heap_alloc_new w o0⟩
/-- what a []byte that came in is -/
def BsAt (W : World) (v : Value) (zs : List Int) : Prop :=
  ∃ (p0 : Option Addr) (b off cap : Nat), v = .slice p0 zs.length cap ∧ zs.length ≤ 9223372036854775807 ∧ (zs ≠ [] → p0 = some ⟨b, off, none⟩ ∧ b < W.heap.size) ∧
    (∀ j, j < zs.length → W.cell? ⟨b, off + j, none⟩ = some (.int .u8 (zs.getD j 0))) ∧ (∀ n ∈ zs, 0 ≤ n ∧ n ≤ 255)
/-- the blanks that a text of numbers makes -/
def padR (zs : List Int) : Row := zs.map fun z => if z % 2 = 0 then 32 else 9
theorem padR_bl (zs : List Int) : ∀ c ∈ padR zs, bl c = true := fun c hc => by
  unfold padR at hc
  obtain ⟨z, _, rfl⟩ := List.mem_map.1 hc
  split <;> decide
theorem padR_len (zs : List Int) : (padR zs).length = zs.length := by simp [padR]
end Go.Proofs.YtiaollhiggeolaaDoor.Ht
