/-
  A ROW OF BYTES THAT IS COPIED from wherever it reads ('append([]byte{}, b...)').
-/
import Derived.Test.YtpngbfmbjldieaaCodLaw
set_option linter.unusedVariables false
namespace Go.Proofs.Ytpngbfmbjldieaa.Ly
open Go.Lib Go.RowKit
open Bo (Kp Row ownsRow_heap sv sv_data)

theorem append_btsL {w0 : World} {ops : Array Oper} {rest : List Oper} {o : Oper} {a : Act} {Q : Exit → Act → World → Prop} (hgd : o.guard = none) (s xo : Operand)
    (ho : o.op = .call { callee := .builtin .append, args := #[s, xo], argTypes := #[22, 22] }) (base : Nat) (v : Value) (l : Row) (u : Value) (x : Row) (hs : a.eval s = v) (hx : a.eval xo = u) (hu : BtsAt w0 u x) (hx0 : 0 < x.length)
    (hown : BOwn base v l w0) (hl : l.length + x.length ≤ 140737488355328) (hbase : base ≤ w0.heap.size) (n : Nat) (hn : l.length + x.length = n) (r : Row) (hr : l ++ x = r)
    (h : ∀ g cap w', Wr base w0 w' v (.slice (some ⟨g, 0, none⟩) n cap) r → wpList Try.prog ops Q rest (a.put o.dst (.slice (some ⟨g, 0, none⟩) n cap)) w') :
    wpList Try.prog ops Q (o :: rest) a w0 := by
  subst hn hr
  obtain ⟨i0, hi, hz0, hz1, hz2⟩ := info_parts infoU8
  obtain ⟨A, b, off, c, rfl, k1, k2, k3, k4⟩ := bts_one hu
  obtain ⟨rfl, hlt⟩ := k3 hx0
  refine wpList_append_lies _ hgd s xo 22 ho base 5 i0 (.int .u8 0) 1 1 Try.underlying22 hi hz0 hz1 hz2 rfl (by decide) v l.length (bc l) hs hown ⟨b, off, none⟩ x.length c (bc x) hx (by simp [bc]) (fun j y hj => ?_) (fun y hy => ?_) hx0 (by unfold maxLen; omega) (by omega) hbase _ rfl (fun g cap w' h5 h6 h7 h8 => h g cap w' ?_)
  · have hp : (⟨b, off, none⟩ : Addr).add j = ⟨b, off + j, none⟩ := by unfold Addr.add; split <;> simp_all
    unfold bc at hj
    rw [List.getElem?_map] at hj
    obtain ⟨z, hz, rfl⟩ := Option.map_eq_some_iff.1 hj
    rw [hp]
    exact k4 j z hz
  · unfold bc at hy
    simp at hy
    obtain ⟨_, _, rfl⟩ := hy
    rfl
  · refine ⟨?_, (Kp.refl _ _).grown h6 fun k hk => .inl (by simp [hk]), fun k hk => ?_⟩
    · unfold BOwn
      rw [bc_app, List.length_append]
      exact h5
    · simp [Value.ownBlock] at hk
      subst hk
      rcases h7 with e | e
      · exact .inl e
      · exact .inr (by omega)
end Go.Proofs.Ytpngbfmbjldieaa.Ly
