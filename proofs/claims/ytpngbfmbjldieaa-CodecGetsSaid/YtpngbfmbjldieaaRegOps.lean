/-
  OPERATIONS OF A DRAWN REGION (RegGuard's 'Body'): moves, tests against nought, loads, picks, texts compared.
-/
import Derived.Test.YtpngbfmbjldieaaRegGuard
import Derived.Test.YtpngbfmbjldieaaLayB
import Derived.Deep.QuietTactic
import Derived.Laws.Rows
set_option linter.unusedVariables false
namespace Go.Proofs.Ytpngbfmbjldieaa.Rg
open Go Go.Lib Go.RowKit

section
variable {Q : Exit → Act → World → Prop} {a : Act} {sl : List Nat} {w1 : World} {F : Nat → Value → World → Prop} {i : Nat} {o : Oper}
theorem had {u : Nat → Value} {W : World} (h : Had a sl F o u W) {k t : Nat} (hk : k ∈ deps o) (ht : sl[k]? = some t) : (puts a sl u).eval (.tmp t) = u t ∧ F k (u t) W := h k t hk ht
theorem tmp_of {u : Nat → Value} {t : Nat} {v : Value} (h : (puts a sl u).eval (.tmp t) = v) : (puts a sl u).tmps[t]?.getD undef = v := by simpa [Act.eval] using h
set_option maxRecDepth 100000 in
theorem bMvOld {t : Nat} (hop : o.op = .move (.tmp t)) (ht : sl.contains t = false) (v0 : Value) (hv : a.eval (.tmp t) = v0) (hF : ∀ W, Below w1.heap.size w1 W → F i v0 W) : Body Try.prog Q a sl w1 F i o := by
  refine Body.yields fun u W hW hd => ⟨v0, W, ?_, Below.refl _ _, hF W hW⟩
  have e1 := eval_old (u := u) ht hv
  clear hd hF hW
  simp only [execOp, hop, e1]
  go_simp
set_option maxRecDepth 100000 in
theorem bMvNew {k t : Nat} (hop : o.op = .move (.tmp t)) (hk : k ∈ deps o) (ht : sl[k]? = some t) (hF : ∀ W v, F k v W → F i v W) : Body Try.prog Q a sl w1 F i o := by
  refine Body.yields fun u W hW hd => ⟨u t, W, ?_, Below.refl _ _, hF W _ (had hd hk ht).2⟩
  have e1 := (had hd hk ht).1
  clear hd hF
  simp only [execOp, hop, e1]
  go_simp
set_option maxRecDepth 100000 in
theorem bAsNew {k t : Nat} (hop : o.op = .assign (.tmp t)) (hk : k ∈ deps o) (ht : sl[k]? = some t) (hF : ∀ W v, F k v W → F i v W) : Body Try.prog Q a sl w1 F i o := by
  refine Body.yields fun u W hW hd => ⟨u t, W, ?_, Below.refl _ _, hF W _ (had hd hk ht).2⟩
  have e1 := (had hd hk ht).1
  clear hd hF
  simp only [execOp, hop, e1]
  go_simp
set_option maxRecDepth 100000 in
theorem bNe0 {k t : Nat} {T : TypeId} (hop : o.op = .binOp .neq T (.tmp t) (.const (.int .i64 0)) T) (hk : k ∈ deps o) (ht : sl[k]? = some t) (E : Int) (h1 : ∀ v W, F k v W → v = .int .i64 E) (hT : Try.prog.underlying T = some (.int .i64)) (hF : ∀ W, F i (.bool (!decide (E = 0))) W) : Body Try.prog Q a sl w1 F i o := by
  refine Body.yields fun u W hW hd => ⟨_, W, ?_, Below.refl _ _, hF W⟩
  obtain ⟨e1, m1⟩ := had hd hk ht
  rw [h1 _ _ m1] at e1
  clear hd hF m1 h1
  by_cases h0 : E = 0
  · subst h0
    simp only [execOp, hop, e1]
    go_simp
  · have g1 : (E != 0) = true := by simpa using h0
    have g2 : (E == 0) = false := by simpa using h0
    simp only [execOp, hop, e1]
    go_simp
set_option maxRecDepth 100000 in
theorem bEq0 {k t : Nat} {T : TypeId} (hop : o.op = .binOp .eql T (.tmp t) (.const (.int .i64 0)) T) (hk : k ∈ deps o) (ht : sl[k]? = some t) (E : Int) (h1 : ∀ v W, F k v W → v = .int .i64 E) (hT : Try.prog.underlying T = some (.int .i64)) (hF : ∀ W, F i (.bool (decide (E = 0))) W) : Body Try.prog Q a sl w1 F i o := by
  refine Body.yields fun u W hW hd => ⟨_, W, ?_, Below.refl _ _, hF W⟩
  obtain ⟨e1, m1⟩ := had hd hk ht
  rw [h1 _ _ m1] at e1
  clear hd hF m1 h1
  by_cases h0 : E = 0
  · subst h0
    simp only [execOp, hop, e1]
    go_simp
  · have g2 : (E == 0) = false := by simpa using h0
    simp only [execOp, hop, e1]
    go_simp
set_option maxRecDepth 100000 in
theorem bNot {k t : Nat} {T : TypeId} (hop : o.op = .unOp .not T (.tmp t)) (hk : k ∈ deps o) (ht : sl[k]? = some t) (b : Bool) (h1 : ∀ v W, F k v W → v = .bool b) (hF : ∀ W, F i (.bool (!b)) W) : Body Try.prog Q a sl w1 F i o := by
  refine Body.yields fun u W hW hd => ⟨_, W, ?_, Below.refl _ _, hF W⟩
  obtain ⟨e1, m1⟩ := had hd hk ht
  rw [h1 _ _ m1] at e1
  clear hd hF m1 h1
  simp only [execOp, hop, e1]
  go_simp
set_option maxRecDepth 100000 in
theorem bAnd {k t k' t' : Nat} (hop : o.op = .pick (.tmp t) (.tmp t') (.const (.bool false))) (hk : k ∈ deps o) (ht : sl[k]? = some t) (hk' : k' ∈ deps o) (ht' : sl[k']? = some t') (b c : Bool) (h1 : ∀ v W, F k v W → v = .bool b) (h2 : b = true → ∀ v W, F k' v W → v = .bool c) (hF : ∀ W, F i (.bool (b && c)) W) : Body Try.prog Q a sl w1 F i o := by
  refine Body.yields fun u W hW hd => ⟨_, W, ?_, Below.refl _ _, hF W⟩
  obtain ⟨e1, m1⟩ := had hd hk ht
  obtain ⟨e2, m2⟩ := had hd hk' ht'
  rw [h1 _ _ m1] at e1
  cases b with
  | false =>
    clear hd hF m1 m2 h1 h2
    simp only [execOp, hop, e1]
    go_simp
  | true =>
    rw [h2 rfl _ _ m2] at e2
    clear hd hF m1 m2 h1 h2
    simp only [execOp, hop, e1, e2]
    go_simp
set_option maxRecDepth 100000 in
theorem bOr {k t k' t' : Nat} (hop : o.op = .pick (.tmp t) (.const (.bool true)) (.tmp t')) (hk : k ∈ deps o) (ht : sl[k]? = some t) (hk' : k' ∈ deps o) (ht' : sl[k']? = some t') (b c : Bool) (h1 : ∀ v W, F k v W → v = .bool b) (h2 : b = false → ∀ v W, F k' v W → v = .bool c) (hF : ∀ W, F i (.bool (b || c)) W) : Body Try.prog Q a sl w1 F i o := by
  refine Body.yields fun u W hW hd => ⟨_, W, ?_, Below.refl _ _, hF W⟩
  obtain ⟨e1, m1⟩ := had hd hk ht
  obtain ⟨e2, m2⟩ := had hd hk' ht'
  rw [h1 _ _ m1] at e1
  cases b with
  | true =>
    clear hd hF m1 m2 h1 h2
    simp only [execOp, hop, e1]
    go_simp
  | false =>
    rw [h2 rfl _ _ m2] at e2
    clear hd hF m1 m2 h1 h2
    simp only [execOp, hop, e1, e2]
    go_simp
set_option maxRecDepth 100000 in
/-- a load from a pointer that stood there, by its run -/
theorem bLdOld {t : Nat} {ty : TypeId} (hop : o.op = .load ty (.tmp t)) (ht : sl.contains t = false) (p : Addr) (r : Value) (hv : a.eval (.tmp t) = .pointer (some p)) (hl : ∀ W, Below w1.heap.size w1 W → (Instr.loadAt ty (.pointer (some p))).run Try.prog W = .ok r W) (hF : ∀ W, Below w1.heap.size w1 W → F i r W) : Body Try.prog Q a sl w1 F i o := by
  refine Body.yields fun u W hW hd' => ⟨r, W, ?_, Below.refl _ _, hF W hW⟩
  have e1 := eval_old (u := u) ht hv
  have h := hl W hW
  clear hd' hF hW hl
  simp only [execOp, hop, e1, Sem.run_bind, Sem.run_pure, Result.andThen_ok, h]
set_option maxRecDepth 100000 in
/-- .. and from one that came up -/
theorem bLdNew {k t : Nat} {ty : TypeId} (hop : o.op = .load ty (.tmp t)) (hk : k ∈ deps o) (ht : sl[k]? = some t) (p : Addr) (r : Value) (h1 : ∀ v W, F k v W → v = .pointer (some p)) (hl : ∀ W, Below w1.heap.size w1 W → (Instr.loadAt ty (.pointer (some p))).run Try.prog W = .ok r W) (hF : ∀ W, Below w1.heap.size w1 W → F i r W) : Body Try.prog Q a sl w1 F i o := by
  refine Body.yields fun u W hW hd' => ⟨r, W, ?_, Below.refl _ _, hF W hW⟩
  obtain ⟨e1, m1⟩ := had hd' hk ht
  rw [h1 _ _ m1] at e1
  have h := hl W hW
  clear hd' hF hW hl m1 h1
  simp only [execOp, hop, e1, Sem.run_bind, Sem.run_pure, Result.andThen_ok, h]
set_option maxRecDepth 100000 in
theorem bNeS {k t k' t' : Nat} (hop : o.op = .binOp .neq 9 (.tmp t) (.tmp t') 9) (hk : k ∈ deps o) (ht : sl[k]? = some t) (hk' : k' ∈ deps o) (ht' : sl[k']? = some t') (x : ByteArray) (h1 : ∀ v W, F k v W → v = .string x) (h2 : ∀ v W, F k' v W → v = .string x) (hF : ∀ W, F i (.bool false) W) : Body Try.prog Q a sl w1 F i o := by
  refine Body.yields fun u W hW hd => ⟨.bool false, W, ?_, Below.refl _ _, hF W⟩
  obtain ⟨e1, m1⟩ := had hd hk ht
  obtain ⟨e2, m2⟩ := had hd hk' ht'
  rw [h1 _ _ m1] at e1
  rw [h2 _ _ m2] at e2
  have q1 : (x.toList != x.toList) = false := by simp
  clear hd hF m1 m2 h1 h2
  simp only [execOp, hop, e1, e2]
  go_simp
set_option maxRecDepth 100000 in
/-- a conversion of what is told by its run -/
theorem bConv {k t : Nat} {S T : TypeId} (hop : o.op = .convert S T (.tmp t)) (hk : k ∈ deps o) (ht : sl[k]? = some t) (r : Value) (h1 : ∀ v W, Below w1.heap.size w1 W → F k v W → (convert S T v).run Try.prog W = .ok r W) (hF : ∀ W, F i r W) : Body Try.prog Q a sl w1 F i o := by
  refine Body.yields fun u W hW hd => ⟨r, W, ?_, Below.refl _ _, hF W⟩
  obtain ⟨e1, m1⟩ := had hd hk ht
  have h := h1 _ _ hW m1
  clear hd hF m1 h1
  simp only [execOp, hop, e1]
  rw [Sem.run_bind, h]
  rfl
/-- a call of one value, by its contract -/
theorem bCall1 {k t f : Nat} {T : TypeId} (hop : o.op = .call { callee := .value (.func f), args := #[.tmp t], argTypes := #[T] }) (hk : k ∈ deps o) (ht : sl[k]? = some t) (hf : ∀ (v : Value) (W : World), (callFunc f #[v]).run Try.prog W = .ok (.enter f #[v]) W) (h1 : ∀ v W, Below w1.heap.size w1 W → F k v W → Calls Try.prog f #[v] W fun e w' => (∃ r, e = .returned r ∧ F i r w') ∧ Below W.heap.size W w') : Body Try.prog Q a sl w1 F i o := by
  refine Body.calls fun u W hW hd => ?_
  obtain ⟨e1, m1⟩ := had hd hk ht
  refine ⟨f, #[u t], ?_, h1 _ _ hW m1⟩
  have e2 := tmp_of e1
  have h := hf (u t) W
  clear hd m1 h1 hf
  simp only [execOp, hop]
  go_simp
set_option maxRecDepth 100000 in
/-- a field's address, by its run -/
theorem bFaOld {t m : Nat} {T : TypeId} (hop : o.op = .fieldAddr T (.tmp t) m) (ht : sl.contains t = false) (p : Addr) (r : Value) (hv : a.eval (.tmp t) = .pointer (some p)) (hl : ∀ W, (Instr.fieldAt T (.pointer (some p)) m).run Try.prog W = .ok r W) (hF : ∀ W, F i r W) : Body Try.prog Q a sl w1 F i o := by
  refine Body.yields fun u W hW hd' => ⟨r, W, ?_, Below.refl _ _, hF W⟩
  have e1 := eval_old (u := u) ht hv
  have h := hl W
  clear hd' hF hW hl
  simp only [execOp, hop, e1, Sem.run_bind, Sem.run_pure, Result.andThen_ok, h]
set_option maxRecDepth 100000 in
theorem bLen {k t : Nat} {T : TypeId} (hop : o.op = .call { callee := .builtin .len, args := #[.tmp t], argTypes := #[T] }) (hk : k ∈ deps o) (ht : sl[k]? = some t) (A : Option Addr) (n c : Nat) (h1 : ∀ v W, F k v W → v = .slice A n c) (hT : ∀ ty W, (Builtin.len_ #[T] ty #[.slice A n c]).run Try.prog W = .ok (.int .i64 (n : Int)) W) (hF : ∀ W, F i (.int .i64 (n : Int)) W) : Body Try.prog Q a sl w1 F i o := by
  refine Body.yields fun u W hW hd => ⟨_, W, ?_, Below.refl _ _, hF W⟩
  obtain ⟨e1, m1⟩ := had hd hk ht
  rw [h1 _ _ m1] at e1
  replace e1 := tmp_of e1
  have h := hT o.type W
  clear hd hF m1 h1 hT
  simp only [execOp, hop]
  go_simp
/-- whatever it is, by its run -/
theorem bRun {r : Value} (hr : ∀ (ev : Operand → Value) W, (execOp ev o).run Try.prog W = .ok (.value r) W) (hF : ∀ W, F i r W) : Body Try.prog Q a sl w1 F i o :=
  Body.yields fun u W hW hd => ⟨r, W, hr _ W, Below.refl _ _, hF W⟩
theorem bNe0b {k t : Nat} {T : TypeId} {be : Bool} (hop : o.op = .binOp .neq T (.tmp t) (.const (.int .i64 0)) T) (hk : k ∈ deps o) (ht : sl[k]? = some t) (E : Int) (h1 : ∀ v W, F k v W → v = .int .i64 E) (hT : Try.prog.underlying T = some (.int .i64)) (hb : decide (E = 0) = be) (hF : ∀ W, F i (.bool (!be)) W) : Body Try.prog Q a sl w1 F i o :=
  bNe0 hop hk ht E h1 hT (by rw [hb]; exact hF)
theorem bEq0b {k t : Nat} {T : TypeId} {be : Bool} (hop : o.op = .binOp .eql T (.tmp t) (.const (.int .i64 0)) T) (hk : k ∈ deps o) (ht : sl[k]? = some t) (E : Int) (h1 : ∀ v W, F k v W → v = .int .i64 E) (hT : Try.prog.underlying T = some (.int .i64)) (hb : decide (E = 0) = be) (hF : ∀ W, F i (.bool be) W) : Body Try.prog Q a sl w1 F i o :=
  bEq0 hop hk ht E h1 hT (by rw [hb]; exact hF)
theorem bAndF {k t k' t' : Nat} (hop : o.op = .pick (.tmp t) (.tmp t') (.const (.bool false))) (hk : k ∈ deps o) (ht : sl[k]? = some t) (hk' : k' ∈ deps o) (ht' : sl[k']? = some t') (b : Bool) (h1 : ∀ v W, F k v W → v = .bool b) (h2 : b = true → ∀ v W, F k' v W → v = .bool false) (hF : ∀ W, F i (.bool false) W) : Body Try.prog Q a sl w1 F i o :=
  bAnd hop hk ht hk' ht' b false h1 h2 (by rw [Bool.and_false]; exact hF)
theorem bCallV {k t f : Nat} {T : TypeId} (hop : o.op = .call { callee := .value (.func f), args := #[.tmp t], argTypes := #[T] }) (hk : k ∈ deps o) (ht : sl[k]? = some t) (hf : ∀ (v : Value) (W : World), (callFunc f #[v]).run Try.prog W = .ok (.enter f #[v]) W) (v0 : Value) (h0 : ∀ v W, F k v W → v = v0) (h1 : ∀ W, Below w1.heap.size w1 W → Calls Try.prog f #[v0] W fun e w' => (∃ r, e = .returned r ∧ F i r w') ∧ Below W.heap.size W w') : Body Try.prog Q a sl w1 F i o :=
  bCall1 hop hk ht hf fun v W hW h => by rw [h0 v W h]; exact h1 W hW
/-- a conversion of a value that is known, by its run -/
theorem bConvV {k t : Nat} {S T : TypeId} (hop : o.op = .convert S T (.tmp t)) (hk : k ∈ deps o) (ht : sl[k]? = some t) (r v0 : Value) (h0 : ∀ v W, F k v W → v = v0) (h1 : ∀ W, Below w1.heap.size w1 W → (convert S T v0).run Try.prog W = .ok r W) (hF : ∀ W, F i r W) : Body Try.prog Q a sl w1 F i o :=
  bConv hop hk ht r (fun v W hW h => by rw [h0 v W h]; exact h1 W hW) hF
variable {wt : Nat → Bool} {j : Nat} {fl : Bool}
/-- wanted where a test is true: the test is known to be '!fl' -/
theorem heldN (hg : o.guard = some (j, true)) (hj : j ∈ deps o) (hy : ∀ v W, F j v W → v = .bool (!fl)) (hw : wt i = !fl) (h : (!fl) = true → Body Try.prog Q a sl w1 F i o) (hn : (!fl) = false → ∀ W, F i undef W) : MonoGAt Try.prog Q a sl w1 F wt i o :=
  .held hg hj (some (!fl)) (fun v W hv => by rw [hy v W hv]; rfl) (by rw [hw]; cases fl <;> rfl) (fun e => h (hw ▸ e)) (fun e => hn (hw ▸ e))
theorem heldY (hg : o.guard = some (j, true)) (hj : j ∈ deps o) (hy : ∀ v W, F j v W → v = .bool fl) (hw : wt i = fl) (h : fl = true → Body Try.prog Q a sl w1 F i o) (hn : fl = false → ∀ W, F i undef W) : MonoGAt Try.prog Q a sl w1 F wt i o :=
  .held hg hj (some fl) (fun v W hv => by rw [hy v W hv]; rfl) (by rw [hw]; cases fl <;> rfl) (fun e => h (hw ▸ e)) (fun e => hn (hw ▸ e))
/-- wanted always: behind a test that is false -/
theorem heldF (hg : o.guard = some (j, false)) (hj : j ∈ deps o) (hy : ∀ v W, F j v W → v = .bool false) (hw : wt i = true) (h : Body Try.prog Q a sl w1 F i o) : MonoGAt Try.prog Q a sl w1 F wt i o :=
  .held hg hj (some false) (fun v W hv => by rw [hy v W hv]; rfl) (by rw [hw]; rfl) (fun _ => h) (fun e => by rw [hw] at e; cases e)
/-- wanted where a test came up (and is false) -/
theorem heldQ (hg : o.guard = some (j, false)) (hj : j ∈ deps o) (hy : ∀ v W, F j v W → (fl = true → v = .bool false) ∧ (fl = false → v = undef)) (hw : wt i = fl) (h : fl = true → Body Try.prog Q a sl w1 F i o) (hn : fl = false → ∀ W, F i undef W) : MonoGAt Try.prog Q a sl w1 F wt i o :=
  .held hg hj (bif fl then some false else none) (fun v W hv => by
    have h := hy v W hv
    cases fl with
    | true => rw [h.1 rfl]; rfl
    | false => rw [h.2 rfl]; rfl) (by rw [hw]; cases fl <;> rfl) (fun e => h (hw ▸ e)) (fun e => hn (hw ▸ e))
/-- what is said of a test that may not come up -/
def Quest (fl : Bool) (v : Value) : Prop := (fl = true → v = .bool false) ∧ (fl = false → v = undef)
theorem Quest.undef : fl = false → Quest fl Go.undef := fun h => ⟨fun e => Bool.noConfusion (e.symm.trans h), fun _ => rfl⟩
theorem Quest.no (h : fl = true) {v : Value} (hv : v = .bool false) : Quest fl v := ⟨fun _ => hv, fun e => Bool.noConfusion (h.symm.trans e)⟩
theorem vac {p : Prop} (h : fl = false) : fl = true → p := fun e => Bool.noConfusion (e.symm.trans h)
theorem Quest.is {v : Value} (h : Quest fl v) (hw : fl = true) : v = .bool false := h.1 hw
set_option maxRecDepth 100000 in
/-- a struct of nought is made -/
theorem bBldRep (hop : o.op = .build 33 #[]) (hF : ∀ W, F i (.agg #[.int .i64 0, .int .i64 0, .string ⟨#[]⟩, .slice none 0 0, .string ⟨#[]⟩]) W) : Body Try.prog Q a sl w1 F i o := by
  refine Body.yields fun u W hW hd => ⟨_, W, ?_, Below.refl _ _, hF W⟩
  clear hd hF
  simp only [execOp, hop]
  go_simp
/-- a conversion of a row of the call's own -/
theorem bConvO {k t : Nat} {S T : TypeId} {G : Value → World → Prop} (hop : o.op = .convert S T (.tmp t)) (hk : k ∈ deps o) (ht : sl[k]? = some t) (r : Value) (h0 : ∀ v W, F k v W → G v W) (h1 : ∀ v W, G v W → (convert S T v).run Try.prog W = .ok r W) (hF : ∀ W, F i r W) : Body Try.prog Q a sl w1 F i o :=
  bConv hop hk ht r (fun v W _ h => h1 v W (h0 v W h)) hF
/-- .. and of what stood there -/
theorem bConvT {k t : Nat} {S T : TypeId} (hop : o.op = .convert S T (.tmp t)) (hk : k ∈ deps o) (ht : sl[k]? = some t) (r v0 : Value) (h0 : ∀ v W, F k v W → v = v0) (h1 : ∀ W, Below w1.heap.size w1 W → (convert S T v0).run Try.prog W = .ok r W) (hF : ∀ W, F i r W) : Body Try.prog Q a sl w1 F i o := bConvV hop hk ht r v0 h0 h1 hF
end
/-- the region, its steps told of an act of which only what stood there is known -/
theorem region_monoGA {P : Program} {id : Nat} {ops : Array Oper} {Q : Exit → Act → World → Prop} {a : Act} {w : World} (hm : P.follows .mixedOrders = true) (sl : List Nat) (hnd : sl.Nodup) (hb : backs ops = true)
    (hd : ops.toList.map (·.dst) = sl.map some) (hdl : depsIn ops sl.length = true) (hsz : (sl.all fun s => decide (s < a.tmps.size)) = true) (F : Nat → Value → World → Prop) (hF : ∀ i v W W', F i v W → Below W.heap.size W W' → F i v W') (wt : Nat → Bool)
    (hstep : ∀ (Q' : Exit → Act → World → Prop) (a' : Act), (∀ t : Nat, a'.eval (.tmp t) = a.eval (.tmp t)) → MonosG P Q' a' sl w F wt 0 ops.toList)
    (hend : ∀ u W, Below w.heap.size w W → (∀ i s, sl[i]? = some s → F i (u s) W) → Q .normal (puts a sl u) W) : (Code.region id ops true).wp P Q a w :=
  region_monoG hm sl hnd hb hd hdl hsz F hF wt (hstep Q a fun _ => rfl) hend
end Go.Proofs.Ytpngbfmbjldieaa.Rg
