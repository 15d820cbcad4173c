/-
  A RANGE OVER AN ITERATOR THAT KEEPS STATE OF ITS OWN IN CELLS: the iterator's steps on memory are a relation T ('it stores into its own box'); what a round must keep is a relation Kp. The caller owes one walk of the loop's body.
-/
import Derived.RangeFuncWrites
import Derived.RangeFuncLeaves
set_option linter.unusedVariables false
namespace Go.Proofs.YtgpkkdimafmehaaDoor.Sq
open Go.RowKit

section
variable {α : Type} {F : Fence} {n : Nat} {P : Program}

/-- one call of yield: a round goes on (and has kept Kp), or has said 'no more' -/
def Round (F : Fence) (n : Nat) (P : Program) (l : Nat) (encs : α → Array Value) (Kp : World → World → Prop) (Pr : List α → α → Prop) (J Jx : List α → World → Prop) : Prop :=
  ∀ pre x W, J pre W → Pr pre x → YieldAt F n P l (encs x) W fun e W' =>
    (e = .returned (.bool true) ∧ J (pre ++ [x]) W' ∧ Kp W W') ∨ (e = .returned (.bool false) ∧ Jx (pre ++ [x]) W')
/-- what is abided -/
def Abide (T : World → World → Prop) (J : List α → World → Prop) : Prop := ∀ pre A B, J pre A → T A B → J pre B

/-- the iterator's word: for every caller whose invariants abide T -/
def Seq (F : Fence) (n : Nat) (P : Program) (gf : Nat) (lb : Array Value) (encs : α → Array Value) (T Kp : World → World → Prop) (Pr : List α → α → Prop) (K0 : World → Prop) (S : List α → Prop) : Prop :=
  ∀ (l : Nat) (J Jx : List α → World → Prop) (W : World), Abide T J → Abide T Jx → K0 W → Round F (n - 1) P l encs Kp Pr J Jx → J [] W →
    CallsIn F n P gf (#[.func (.yield l) #[] #[]] ++ lb) W fun e W' => (∃ v, e = .returned v) ∧ ((∃ xs, S xs ∧ J xs W') ∨ ∃ pre, Jx pre W')

/-- where the loop's record stands, and the block for deferred calls -/
def Stands (rec : LoopState → Option Code → Loop) (D : Nat) (st : LoopState) (pe : Option Code) (W : World) : Prop :=
  W.heap[D + 1]? = some (.loop (rec st pe)) ∧ W.heap[D]? = some (.deferred (some []))
theorem Stands.put {rec : LoopState → Option Code → Loop} {D : Nat} {st : LoopState} {pe : Option Code} {W : World} (h : Stands rec D st pe W) (st' : LoopState) (pe' : Option Code) : Stands rec D st' pe' (W.putObj (D + 1) (.loop (rec st' pe'))) :=
  ⟨World.putObj_heap_same (Array.getElem?_eq_some_iff.1 h.1).1, (World.putObj_heap_other (by omega)).trans h.2⟩
theorem Stands.from {rec : LoopState → Option Code → Loop} {D : Nat} {st : LoopState} {pe : Option Code} {W W' : World} (h : Stands rec D st pe W) (k : KeepsFrom D W W') : Stands rec D st pe W' :=
  ⟨k.same _ _ (by omega) h.1 rfl, k.same _ _ (Nat.le_refl _) h.2 rfl⟩

set_option maxHeartbeats 1000000 in
theorem wpIn_iter {g : Operand} {ps : Array Tmp} {assign body : Code} {Q : Exit → Act → World → Prop} {a : Act} {w : World}
    (hro : F.round = none) (h1 : 1 ≤ n) {gf : Nat} {lb : Array Value} (hg : a.eval g = .func (.func gf) #[] lb) (hFg : F.fn gf) (eg : ∀ args w, (callFunc gf args).run P w = .ok (.enter gf args) w)
    {encs : α → Array Value} {T Kp : World → World → Prop} {Pr : List α → α → Prop} {K0 : World → Prop} {S : List α → Prop} (hseq : Seq F (n - 1) P gf lb encs T Kp Pr K0 S)
    (hK0 : ∀ o o', K0 ((w.alloc o).alloc o'))
    (hT : ∀ A B, T A B → ∀ k o, w.heap.size ≤ k → A.heap[k]? = some o → B.heap[k]? = some o)
    (hKt : ∀ {A B C : World}, Kp A B → Kp B C → Kp A C)
    (hKb : ∀ (W : World) (l : Nat) (o o' : Obj), w.heap.size ≤ l → W.heap[l]? = some o → o.isCells = false → Kp W (W.putObj l o'))
    (hps : ∀ x, (encs x).size = ps.size)
    (I : List α → World → Prop) (Ix : Code → List α → World → Prop) (hI : OwnFrom w.heap.size I) (hIx : ∀ c, OwnFrom w.heap.size (Ix c)) (hIT : Abide T I) (hIxT : ∀ c, Abide T (Ix c)) (h0 : I [] w) (a₁ : α → Act)
    (hassign : ∀ (l : Nat) (x : α) (W : World) (K : Act → World → Prop), K (a₁ x) W →
      assign.wpIn (F.inRound l) (n - 1 - 1) P (Exit.then K (fun _ _ _ => False)) { tmps := (ps.zip (encs x)).foldl (fun t (p, v) => t.setIfInBounds p v) a.tmps, defers := [] } W)
    (hbody : ∀ (l : Nat) (pre : List α) (x : α) (W : World), I pre W → Pr pre x → body.wpIn (F.inRound l) (n - 1 - 1) P (ownPostG w.heap.size Kp I Ix (pre ++ [x]) W) (a₁ x) W)
    (hdone : ∀ (D : Nat) (xs : List α) (W : World), w.heap.size ≤ D → S xs → I xs W → W.heap[D]? = some (.deferred (some [])) → Q .normal { a with defers := { target := .collected D, args := #[] } :: a.defers } W)
    (hstop : ∀ (D : Nat) (c : Code) (pre : List α) (W : World), w.heap.size ≤ D → Ix c pre W → W.heap[D]? = some (.deferred (some [])) → c.wpIn F n P Q { a with defers := { target := .collected D, args := #[] } :: a.defers } W) :
    (Code.rangeFunc g ps assign body).wpIn F n P Q a w := by
  obtain ⟨D, hD⟩ : ∃ D, w.heap.size = D := ⟨_, rfl⟩
  refine wpIn_rangeFunc fun fn hfn => ?_
  obtain ⟨rec, hrec⟩ : ∃ rec : LoopState → Option Code → Loop, rec = fun st pe => { state := st, pending := pe, fn, tmps := a.tmps, params := ps, assign, body, defers := D } := ⟨_, rfl⟩
  have hst0 : Stands rec D .ready none ((w.alloc (.deferred (some []))).alloc (.loop (rec .ready none))) := by
    subst hD
    refine ⟨?_, (Below.heap_alloc _ _ _ (by simp)).trans (World.alloc_heap_new w _)⟩
    have := World.alloc_heap_new (w.alloc (.deferred (some []))) (.loop (rec .ready none))
    rwa [World.size_alloc] at this
  have hI0 : I [] ((w.alloc (.deferred (some []))).alloc (.loop (rec .ready none))) := hI.alloc _ (hI.alloc _ h0)
  have hk0 := hK0 (.deferred (some [])) (.loop (rec .ready none))
  have hen : (Instr.enterLoop fn a.tmps ps assign body F.round).run P w = .ok (D + 1, [{ target := .collected D, args := #[] }]) ((w.alloc (.deferred (some []))).alloc (.loop (rec .ready none))) := by
    rw [hro, hrec, ← hD]
    exact run_enterLoop_outer _ _ _ _ _
  generalize (w.alloc (.deferred (some []))).alloc (.loop (rec .ready none)) = W1 at hst0 hI0 hk0 hen
  refine ⟨D + 1, [{ target := .collected D, args := #[] }], W1, { target := .fn (.func gf) lb, args := #[.func (.yield (D + 1)) #[] #[]] }, W1, gf, #[.func (.yield (D + 1)) #[] #[]] ++ lb, W1, hen, ?_, ?_, ?_, fun _ => h1, ?_⟩
  · simp only [resolve, hg]
    simp [go_sem]
  · intro f' hf'
    simp [Target.leads] at hf'
    subst hf'
    exact hFg
  · simp [invoke, go_sem, eg]
  have hTS : ∀ {st : LoopState} {pe : Option Code} {A B : World}, T A B → Stands rec D st pe A → Stands rec D st pe B := fun ht hs =>
    ⟨hT _ _ ht _ _ (by omega) hs.1, hT _ _ ht _ _ (by omega) hs.2⟩
  -- a round's end, by the way in which the body was left
  have hend : ∀ (jump : Option Code) (W : World), Stands rec D .busy none W → (Instr.endRound (D + 1) jump).run P W = .ok (.bool jump.isNone) (W.putObj (D + 1) (.loop (rec (if jump.isNone then .ready else .done) jump))) := fun jump W hs => by
    have h := run_endRound (P := P) jump hs.1
    rw [hrec] at h ⊢
    exact h
  refine (hseq (D + 1) (fun pre W => I pre W ∧ Stands rec D .ready none W) (fun pre W => ∃ c, Ix c pre W ∧ Stands rec D .done (some c) W) W1
    (fun pre A B hs ht => ⟨hIT pre A B hs.1 ht, hTS ht hs.2⟩) (fun pre A B ⟨c, hs, hk⟩ ht => ⟨c, hIxT c pre A B hs ht, hTS ht hk⟩) hk0 ?_ ⟨hI0, hst0⟩).mono ?_
  · rintro pre x W ⟨hi, hs⟩ hpr
    have hy := run_yield (P := P) (args := encs x) hs.1 (by rw [hrec]; exact hps x)
    rw [hrec] at hy
    obtain ⟨WB, hWB⟩ : ∃ WB, W.putObj (D + 1) (.loop (rec .busy none)) = WB := ⟨_, rfl⟩
    have hbg : (Instr.beginRound (D + 1)).run P W = .ok () WB := by
      have h := run_beginRound (P := P) hs.1 (by rw [hrec])
      rw [← hWB]
      rw [hrec] at h ⊢
      exact h
    refine ⟨fn, _, assign, body, hy, roundIn_of_wpIn hfn (hassign _ x W _ ⟨_, hbg, ?_⟩)⟩
    have hs2 := hs.put .busy none
    have hk2 : Kp W (W.putObj (D + 1) (.loop (rec .busy none))) := hKb _ _ _ _ (by omega) hs.1 rfl
    have hi2 : I pre (W.putObj (D + 1) (.loop (rec .busy none))) := hI.putObj _ hi (by omega) hs.1 rfl
    rw [hWB] at hs2 hk2 hi2
    have hb := hbody (D + 1) pre x _ hi2 hpr
    refine wpIn_mono hb ?_
    rw [hD]
    rintro e a3 W3 hp
    cases e with
    | normal =>
      obtain ⟨hk3, hkp3, hi3⟩ := hp
      have hs3 := hs2.from hk3
      exact ⟨_, _, hend none W3 hs3, .inl ⟨rfl, ⟨hI.putObj _ hi3 (by omega) hs3.1 rfl, hs3.put _ _⟩, hKt (hKt hk2 hkp3) (hKb _ _ _ _ (by omega) hs3.1 rfl)⟩⟩
    | ret =>
      obtain ⟨hk3, hi3⟩ := hp
      have hs3 := hs2.from hk3
      exact ⟨_, _, hend (some .ret) W3 hs3, .inr ⟨rfl, .ret, (hIx _).putObj _ hi3 (by omega) hs3.1 rfl, hs3.put _ _⟩⟩
    | exit id =>
      obtain ⟨hk3, hi3⟩ := hp
      have hs3 := hs2.from hk3
      exact ⟨_, _, hend (some (.exit id)) W3 hs3, .inr ⟨rfl, .exit id, (hIx _).putObj _ hi3 (by omega) hs3.1 rfl, hs3.put _ _⟩⟩
    | goto t =>
      obtain ⟨hk3, hi3⟩ := hp
      have hs3 := hs2.from hk3
      exact ⟨_, _, hend (some (.goto t)) W3 hs3, .inr ⟨rfl, .goto t, (hIx _).putObj _ hi3 (by omega) hs3.1 rfl, hs3.put _ _⟩⟩
    | panic ch => exact hp.elim
    | outgrown => exact hp.elim
  · rintro e W2 ⟨⟨v, rfl⟩, (⟨xs, hS, hi, hs⟩ | ⟨pre, c, hi, hs⟩)⟩
    · have h := run_endLoop (P := P) hs.1 (by rw [hrec]; simp)
      have h2 := hs.put .exhausted none
      have h3 : I xs (W2.putObj (D + 1) (.loop (rec .exhausted none))) := hI.putObj _ hi (by omega) hs.1 rfl
      rw [hrec] at h h2 h3
      exact ⟨none, _, h, hdone D xs _ (by omega) hS h3 h2.2⟩
    · have h := run_endLoop (P := P) hs.1 (by rw [hrec]; simp)
      have h2 := hs.put .exhausted (some c)
      have h3 : Ix c pre (W2.putObj (D + 1) (.loop (rec .exhausted (some c)))) := (hIx c).putObj _ hi (by omega) hs.1 rfl
      rw [hrec] at h h2 h3
      exact ⟨some c, _, h, hstop D c pre _ (by omega) h3 h2.2⟩
end
end Go.Proofs.YtgpkkdimafmehaaDoor.Sq
