/-
  OPERATIONS OF A REGION THAT DRAWS ITS ORDER (RegMono): moves, cuts of bytes, one part, its sum, sums added and compared.
-/
import Derived.Test.YtpngbfmbjldieaaRegMono
import Derived.Test.YtpngbfmbjldieaaCrcSmall
set_option linter.unusedVariables false
namespace Go.Proofs.Ytpngbfmbjldieaa.Cr
open Go.Lib Go.RowKit Rg
open Bo (Row)
open Ly (BtsAt)

theorem PtsAt.kept {w w' : World} {v : Value} {vs : List Value} {ls : List Row} (h : PtsAt w v vs ls) (hb : Below w.heap.size w w') : PtsAt w' v vs ls :=
  ⟨h.len, h.row.kept hb, fun j u l h1 h2 => (h.all j u l h1 h2).kept hb⟩
section
variable {Q : Exit → Act → World → Prop} {a : Act} {sl : List Nat} {w1 : World} {F : Nat → Value → World → Prop} {i s : Nat} {o : Oper}
theorem had {u : Nat → Value} {W : World} (h : Had a sl F o u W) {k t : Nat} (hk : k ∈ deps o) (ht : sl[k]? = some t) : (puts a sl u).eval (.tmp t) = u t ∧ F k (u t) W := h k t hk ht
theorem tmp_of {u : Nat → Value} {t : Nat} {v : Value} (h : (puts a sl u).eval (.tmp t) = v) : (puts a sl u).tmps[t]?.getD undef = v := by simpa [Act.eval] using h
set_option maxRecDepth 100000 in
theorem mvOld (hg : o.guard = none) (hs : sl[i]? = some s) (hds : o.dst = some s) {t : Nat} (hop : o.op = .move (.tmp t)) (ht : sl.contains t = false) (v0 : Value) (hv : a.eval (.tmp t) = v0) (hF : ∀ W, Below w1.heap.size w1 W → F i v0 W) : MonoAt Try.prog Q a sl w1 F i o := by
  refine MonoAt.yields hg hs hds fun u W hW hd => ⟨v0, W, ?_, Below.refl _ _, hF W hW⟩
  have e1 := eval_old (u := u) ht hv
  clear hd hF hW
  simp only [execOp, hop, e1]
  go_simp
set_option maxRecDepth 100000 in
theorem asNew (hg : o.guard = none) (hs : sl[i]? = some s) (hds : o.dst = some s) {k t : Nat} (hop : o.op = .assign (.tmp t)) (hk : k ∈ deps o) (ht : sl[k]? = some t) (hF : ∀ W v, F k v W → F i v W) : MonoAt Try.prog Q a sl w1 F i o := by
  refine MonoAt.yields hg hs hds fun u W hW hd => ⟨u t, W, ?_, Below.refl _ _, hF W _ (had hd hk ht).2⟩
  have e1 := (had hd hk ht).1
  clear hd hF
  simp only [execOp, hop, e1]
  go_simp
set_option maxRecDepth 100000 in
theorem cutOp (hg : o.guard = none) (hs : sl[i]? = some s) (hds : o.dst = some s) {k t k' t' : Nat} (hop : o.op = .slice 22 (.tmp t) none (some (.tmp t')) none) (hk : k ∈ deps o) (ht : sl[k]? = some t) (hk' : k' ∈ deps o) (ht' : sl[k']? = some t') (A : Option Addr) (m n c : Nat) (hn : n ≤ c) (h1 : ∀ v W, F k v W → v = .slice A m c) (h2 : ∀ v W, F k' v W → v = .int .i64 (n : Int)) (hF : ∀ W, Below w1.heap.size w1 W → F i (.slice A n c) W) : MonoAt Try.prog Q a sl w1 F i o := by
  refine MonoAt.yields hg hs hds fun u W hW hd => ⟨.slice A n c, W, ?_, Below.refl _ _, hF W hW⟩
  obtain ⟨e1, m1⟩ := had hd hk ht
  obtain ⟨e2, m2⟩ := had hd hk' ht'
  rw [h1 _ _ m1] at e1
  rw [h2 _ _ m2] at e2
  have g1 : (n : Int) ≤ (c : Int) := by omega
  clear hd hF hW m1 m2 h1 h2
  simp only [execOp, hop, Option.map, e1, e2]
  go_simp
  done
set_option maxRecDepth 100000 in
theorem partOp (hg : o.guard = none) (hs : sl[i]? = some s) (hds : o.dst = some s) {k t : Nat} (hop : o.op = .buildSlice 85 1 #[(0, .tmp t)]) (hk : k ∈ deps o) (ht : sl[k]? = some t) (x : Value) (hx : x.cells = #[x]) (l : Row) (h1 : ∀ v W, F k v W → v = x) (hb : ∀ W, Below w1.heap.size w1 W → BtsAt W x l) (hF : ∀ W v, PtsAt W v [x] [l] → F i v W) : MonoAt Try.prog Q a sl w1 F i o := by
  refine MonoAt.yields hg hs hds fun u W hW hd => ?_
  obtain ⟨e1, m1⟩ := had hd hk ht
  rw [h1 _ _ m1] at e1
  have hp := hF _ _ (pts_one W x l (hb W hW))
  obtain ⟨A, b, off, c, rfl, _⟩ := hb W hW
  refine ⟨_, _, ?_, (Below.refl _ _).alloc (Nat.le_refl _) _, hp⟩
  clear hd hF h1 m1 hp hb hW
  simp only [execOp, hop, List.map_toArray, List.map_cons, List.map_nil, e1]
  go_simp
set_option maxRecDepth 100000 in
theorem sumOp (hg : o.guard = none) (hs : sl[i]? = some s) (hds : o.dst = some s) {k t : Nat} (hop : o.op = .call { callee := .value (.func 24), args := #[.tmp t], argTypes := #[85] }) (hk : k ∈ deps o) (ht : sl[k]? = some t) (x : Value) (l : Row) (h1 : ∀ v W, F k v W → PtsAt W v [x] [l]) (hF : ∀ W, F i (.int .u32 ((sum l : Nat) : Int)) W) : MonoAt Try.prog Q a sl w1 F i o := by
  refine MonoAt.calls hg hs hds fun u W hW hd => ?_
  obtain ⟨e1, m1⟩ := had hd hk ht
  replace m1 := h1 _ _ m1
  have hS := sum_any W _ _ _ m1
  rw [show ([l] : List Row).flatten = l by simp] at hS
  refine ⟨24, #[u t], ?_, hS.mono ?_⟩
  · obtain ⟨A, b, off, c, q, _⟩ := m1.row
    rw [q] at e1 ⊢
    replace e1 := tmp_of e1
    clear hd hF h1 m1 hS
    simp only [execOp, hop]
    go_simp
  · rintro e w' ⟨rfl, hb⟩
    exact ⟨⟨_, rfl, hF _⟩, hb⟩
set_option maxRecDepth 100000 in
theorem xorOp (hg : o.guard = none) (hs : sl[i]? = some s) (hds : o.dst = some s) {k t k' t' : Nat} (hop : o.op = .binOp .xor 57 (.tmp t) (.tmp t') 57) (hk : k ∈ deps o) (ht : sl[k]? = some t) (hk' : k' ∈ deps o) (ht' : sl[k']? = some t') (x y : Nat) (hx : x < 4294967296) (hy : y < 4294967296) (h1 : ∀ v W, F k v W → v = .int .u32 (x : Int)) (h2 : ∀ v W, F k' v W → v = .int .u32 (y : Int)) (hF : ∀ W, F i (.int .u32 ((x ^^^ y : Nat) : Int)) W) : MonoAt Try.prog Q a sl w1 F i o := by
  refine MonoAt.yields hg hs hds fun u W hW hd => ⟨_, W, ?_, Below.refl _ _, hF W⟩
  obtain ⟨e1, m1⟩ := had hd hk ht
  obtain ⟨e2, m2⟩ := had hd hk' ht'
  rw [h1 _ _ m1] at e1
  rw [h2 _ _ m2] at e2
  have g1 := u32_xor_nat x y hx hy
  clear hd hF hW m1 m2 h1 h2
  simp only [execOp, hop, e1, e2]
  go_simp
set_option maxRecDepth 100000 in
theorem sameOp (hg : o.guard = none) (hs : sl[i]? = some s) (hds : o.dst = some s) {k t k' t' : Nat} (hop : o.op = .binOp .eql 57 (.tmp t) (.tmp t') 57) (hk : k ∈ deps o) (ht : sl[k]? = some t) (hk' : k' ∈ deps o) (ht' : sl[k']? = some t') (x : Nat) (h1 : ∀ v W, F k v W → v = .int .u32 (x : Int)) (h2 : ∀ v W, F k' v W → v = .int .u32 (x : Int)) (hF : ∀ W, F i (.bool true) W) : MonoAt Try.prog Q a sl w1 F i o := by
  refine MonoAt.yields hg hs hds fun u W hW hd => ⟨_, W, ?_, Below.refl _ _, hF W⟩
  obtain ⟨e1, m1⟩ := had hd hk ht
  obtain ⟨e2, m2⟩ := had hd hk' ht'
  rw [h1 _ _ m1] at e1
  rw [h2 _ _ m2] at e2
  clear hd hF hW m1 m2 h1 h2
  simp only [execOp, hop, e1, e2]
  go_simp
end
end Go.Proofs.Ytpngbfmbjldieaa.Cr
