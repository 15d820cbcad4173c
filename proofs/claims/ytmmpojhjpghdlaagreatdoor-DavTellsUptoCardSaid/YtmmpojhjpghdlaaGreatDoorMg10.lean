import Derived.Test.YtmmpojhjpghdlaaGreatDoorMg9
import Derived.Test.YtmmpojhjpghdlaaGreatDoorMg7
import Derived.Test.YtmmpojhjpghdlaaGreatDoorMg8

/-
  THE WALK OF dav.tree: pieces as a tree.
-/
set_option linter.unusedVariables false
namespace Go.Proofs.YtmmpojhjpghdlaaGreatDoor.Dv
open Go.Lib Go.RowKit
open Xm (Row Pc sv PsOwn PcsAt PcCells below_then sv_some info_parts ownsRow_kept)

theorem PcsAt.open {w : World} {v : Value} {p : Pc} {ps : List Pc} (h : PcsAt w v (p :: ps)) : ∃ b off c, v = .slice (some ⟨b, off, none⟩) (ps.length + 1) c ∧ ps.length + 1 ≤ c ∧ c ≤ 9223372036854775807 ∧ b < w.heap.size ∧ PcCells w b off p ∧
    PcsAt w (.slice (some ⟨b, off + 4, none⟩) ps.length (c - 1)) ps ∧ (c = 1 → PcsAt w (.slice (some ⟨b, off, none⟩) ps.length 0) ps) := by
  obtain ⟨A, b, off, c, h1, h2, h3, h4, h5⟩ := h
  obtain ⟨rfl, hb⟩ := h4 (by simp)
  refine ⟨b, off, c, h1, h2, h3, hb, by simpa using h5 0 p rfl, ?_, fun hc => ?_⟩
  · refine ⟨_, b, off + 4, c - 1, rfl, by simp at h2; omega, by omega, fun _ => ⟨rfl, hb⟩, fun j q hj => ?_⟩
    have := h5 (j + 1) q (by simpa using hj)
    rwa [show off + (j + 1) * 4 = off + 4 + j * 4 by omega] at this
  · have : ps = [] := List.eq_nil_of_length_eq_zero (by simp at h2; omega)
    subst this
    exact ⟨_, b, off, 0, rfl, Nat.le_refl _, by unfold maxLen; omega, fun h => absurd h (by simp), fun j q hj => by simp at hj⟩
theorem blk_at {w W : World} {k : Nat} {o : Obj} (h : w.heap[k]? = some o) (hb : Below w.heap.size w W) : W.heap[k]? = some o := (hb.block k (Array.getElem?_eq_some_iff.1 h).1).trans h
def remL (s : Int) (n t : Row) (ks : List El) (rest : List Pc) (fl : Bool) (k : Nat) : List Pc := (if fl = true then [] else chrs t) ++ (pcEs (ks.drop k) ++ cls s n :: rest)
theorem EsOwn.same {w w' : World} {B : Nat} {v : Value} {es : List EV} (h : EsOwn B v es w) (hb : ∀ g, v.ownBlock = some g → w'.heap[g]? = w.heap[g]?) : EsOwn B v es w' := by
  refine ⟨h.1, ?_⟩
  rcases h.2 with h | ⟨g, cap, cur, e1, e2, e3, e4⟩
  · exact .inl h
  · exact .inr ⟨g, cap, cur, e1, e2, by rw [hb g (by rw [e1]; rfl)]; exact e3, e4⟩
theorem EsOwn.lt {w : World} {B : Nat} {v : Value} {es : List EV} (h : EsOwn B v es w) : ∀ g, v.ownBlock = some g → B ≤ g ∧ g < w.heap.size := World.ownsRow.lt h
abbrev elB (s : Int) (n t : ByteArray) (k : Value) : Obj := .cells #[.int .i64 s, .string n, .string t, k] 59 (0, 0)
def zB : Obj := .cells #[.int .i64 0, .string ⟨#[]⟩, .string ⟨#[]⟩, .slice none 0 0] 59 (0, 0)
/-- how memory stands in the loop -/
structure TrS (w0 w : World) (s : Int) (nb : ByteArray) (n t : Row) (ks : List El) (rest : List Pc) (fl : Bool) (k : Nat) (tv : ByteArray) (iv : Value) (L : List EV) (s0 : Value) (wr : World) : Prop where
  ps : PcsAt w0 s0 (remL s n t ks rest fl k)
  fk : fl = false → k = 0 ∧ t ≠ []
  box : wr.heap[w.heap.size + 1]? = some (elB s nb tv iv)
  tvd : tv.data.toList = if fl = true then t else []
  res : wr.heap[w.heap.size]? = some zB
  own : EsOwn (w.heap.size + 2) iv L wr
  len : L.length = k
  le : k ≤ ks.length
  like : ∀ (j : Nat) (e : EV) (x : El), L[j]? = some e → ks[j]? = some x → Like e x ∧ KidsAt (fun b => w.heap.size + 2 ≤ b ∧ some b ≠ iv.ownBlock) wr e.k x.ks
  bel : Below w.heap.size w wr
  lim : (remL s n t ks rest fl k).length ≤ 1099511627776
def TreeC (e : El) : Prop := ∀ (v : Value) (rest : List Pc) (w0 w : World), PcsAt w0 v (pcE e ++ rest) → (pcE e ++ rest).length ≤ 1099511627776 → Below w0.heap.size w0 w → Calls Tryz.prog 18 #[v] w fun en w' => (∃ x v', en = .returned (.tuple #[x, v']) ∧ ElAt (fun b => w.heap.size ≤ b) w' x e ∧ PcsAt w0 v' rest) ∧ Below w.heap.size w w'
def sliceN : Value → Nat
  | .slice _ n _ => n
  | _ => 0
theorem rem_chr {s : Int} {n t : Row} {ks : List El} {rest : List Pc} (h : t ≠ []) : remL s n t ks rest false 0 = ⟨3, 0, [], t⟩ :: remL s n t ks rest true 0 := by
  unfold remL chrs
  rw [if_neg h]; simp
theorem rem_kid {s : Int} {n t : Row} {ks : List El} {rest : List Pc} {k : Nat} {x : El} (h : ks[k]? = some x) : remL s n t ks rest true k = pcE x ++ remL s n t ks rest true (k + 1) := by
  obtain ⟨hl, hv⟩ := List.getElem?_eq_some_iff.1 h
  unfold remL
  rw [List.drop_eq_getElem_cons hl, hv, pcEs]; simp
theorem rem_end {s : Int} {n t : Row} {ks : List El} {rest : List Pc} : remL s n t ks rest true ks.length = cls s n :: rest := by
  unfold remL
  rw [List.drop_length, pcEs]; simp
theorem ks_len : ∀ (ks : List El), ks.length ≤ (pcEs ks).length
  | [] => Nat.le_refl _
  | x :: ks => by
    have := ks_len ks
    obtain ⟨s, n, t, q⟩ := x
    rw [pcEs, pcE]
    simp only [List.length_cons, List.length_append]; omega
theorem rem_pos (s : Int) (n t : Row) (ks : List El) (rest : List Pc) (fl : Bool) (k : Nat) : 1 ≤ (remL s n t ks rest fl k).length := by unfold remL; simp; omega
theorem pcE_cons (x : El) : ∃ p, pcE x = opn x.s x.n :: p ∧ 1 ≤ p.length := by
  obtain ⟨s, n, t, ks⟩ := x
  exact ⟨_, by rw [pcE]; rfl, by simp; omega⟩
theorem cellsE {W : World} {g : Nat} {s : Int} {n t : ByteArray} {k : Value} (h : W.heap[g]? = some (elB s n t k)) :
    W.cell? ⟨g, 0, none⟩ = some (.int .i64 s) ∧ W.cell? ⟨g, 1, none⟩ = some (.string n) ∧ W.cell? ⟨g, 2, none⟩ = some (.string t) ∧ W.cell? ⟨g, 3, none⟩ = some k ∧
    W.frozen? ⟨g, 0, none⟩ = false ∧ W.frozen? ⟨g, 1, none⟩ = false ∧ W.frozen? ⟨g, 2, none⟩ = false ∧ W.frozen? ⟨g, 3, none⟩ = false ∧ g < W.heap.size :=
  ⟨(Lib.cell_of_heap h 0).trans rfl, (Lib.cell_of_heap h 1).trans rfl, (Lib.cell_of_heap h 2).trans rfl, (Lib.cell_of_heap h 3).trans rfl,
   Lib.frozen_of_heap h 0, Lib.frozen_of_heap h 1, Lib.frozen_of_heap h 2, Lib.frozen_of_heap h 3, (Array.getElem?_eq_some_iff.1 h).1⟩
theorem cellsP {w0 w : World} {b off : Nat} {p : Pc} (h : PcCells w0 b off p) (hb : b < w0.heap.size) (hW : Below w0.heap.size w0 w) : PcCells w b off p := h.kept hb hW

set_option maxHeartbeats 8000000 in
set_option maxRecDepth 100000 in
theorem tree_step (s : Int) (n t : Row) (ks : List El) (ih : ∀ x ∈ ks, TreeC x) : TreeC (.mk s n t ks) := by
  intro v rest w0 w hv hlim hW
  have e0 : pcE (.mk s n t ks) ++ rest = opn s n :: remL s n t ks rest false 0 := by
    unfold remL
    rw [pcE]; simp
  rw [e0] at hv hlim
  have hlim1 : (remL s n t ks rest false 0).length ≤ 1099511627776 := by simp only [List.length_cons] at hlim; omega
  have hkl : ks.length ≤ 1099511627776 := by
    have h1 := ks_len ks
    unfold remL at hlim1
    simp only [List.length_append, List.drop_zero] at hlim1
    omega
  have hkl' := Lib.hid hkl
  clear hkl hlim
  obtain ⟨b, off, c, rfl, hc1, hc2, hb, hcl, htl, _⟩ := PcsAt.open hv
  obtain ⟨q0, p1, p2, q3⟩ := hcl.kept hb hW
  have hbw := Nat.lt_of_lt_of_le hb hW.size
  obtain ⟨nb, en, dn⟩ := sv_some n
  have q1 : w.cell? ⟨b, off + 1, none⟩ = some (.int .i64 s) := p1
  have q2 : w.cell? ⟨b, off + 2, none⟩ = some (.string nb) := by rw [p2]; exact congrArg some en
  have hrl : 1 ≤ (remL s n t ks rest false 0).length := rem_pos _ _ _ _ _ _ _
  obtain ⟨M, hM⟩ : ∃ M, (remL s n t ks rest false 0).length = M := ⟨_, rfl⟩
  rw [hM] at hc1 htl hrl ⊢
  have hc3 : ¬ c = 1 := by omega
  obtain ⟨w1, hw1⟩ : ∃ w1, ((w.alloc zB).alloc (elB s nb ⟨#[]⟩ (.slice none 0 0))).drew = w1 := ⟨_, rfl⟩
  have hs1 : w1.heap.size = w.heap.size + 2 := by rw [← hw1]; show ((w.alloc zB).alloc _).heap.size = _; simp
  have hbx1 : w1.heap[w.heap.size + 1]? = some (elB s nb ⟨#[]⟩ (.slice none 0 0)) := by rw [← hw1]; exact heap_alloc2_new w _ _
  have hrs1 : w1.heap[w.heap.size]? = some zB := by rw [← hw1]; exact heap_alloc2_old w _ _
  have hbl1 : Below w.heap.size w w1 := by rw [← hw1]; exact (((Below.refl _ _).alloc (Nat.le_refl _) _).alloc (by simp) _).drew
  have start : ∃ (fl : Bool) (k : Nat) (tv : ByteArray) (iv : Value) (L : List EV), TrS w0 w s nb n t ks rest fl k tv iv L (.slice (some ⟨b, off + 4, none⟩) M (c - 1)) w1 := by
    by_cases ht : t = []
    · refine ⟨true, 0, ⟨#[]⟩, .slice none 0 0, [], ⟨?_, nofun, hbx1, by rw [if_pos rfl, ht], hrs1, EsOwn.nil _ _, rfl, Nat.zero_le _, fun j e x h => by simp at h, hbl1, ?_⟩⟩
      all_goals have : remL s n t ks rest true 0 = remL s n t ks rest false 0 := by unfold remL chrs; rw [if_pos rfl, if_pos ht]; rfl
      · rw [this]; exact htl
      · rw [this]; exact hlim1
    · exact ⟨false, 0, ⟨#[]⟩, .slice none 0 0, [], ⟨htl, fun _ => ⟨rfl, ht⟩, hbx1, rfl, hrs1, EsOwn.nil _ _, rfl, Nat.zero_le _, fun j e x h => by simp at h, hbl1, hlim1⟩⟩
  have start' := Lib.hid start
  have hw1' := Lib.hid hw1
  have hW' := Lib.hid hW
  have ih' := Lib.hid ih
  have hfin' := Lib.hid (And.intro en dn)
  clear hlim1 hM hv e0 q0 q3 htl p1 p2 hcl start hw1 hs1 hbx1 hrs1 hbl1 ih en dn hW
  go_enter Tryz.func18, Tryz.ntmps18
  go_wp2
  go_region
  go_wp2
  unfold zB elB at hw1'
  rw [hw1'.out]
  clear hbw q1 q2 hb
  go_loopw [0] (fun s0 wr => ∃ v0 : Value, s0 = v0 ∧ Hid (∃ (fl : Bool) (k : Nat) (tv : ByteArray) (iv : Value) (L : List EV), TrS w0 w s nb n t ks rest fl k tv iv L v0 wr)) (fun s0 wr => sliceN s0)
  case atStart => exact ⟨_, rfl, start'⟩
  case round =>
    clear start' hw1' hrl hc1 hc2 hc3
    obtain ⟨v0, rfl, hrel⟩ := hrel
    obtain ⟨fl, k, tv, iv, L, hT⟩ := hrel.out
    clear hrel
    have hW0 := Lib.hid (hW'.out.trans (hT.bel.mono hW'.out.size))
    obtain ⟨x0, x1, x2, x3, f0, f1, f2, f3, fz⟩ := cellsE hT.box
    have hT' := Lib.hid hT
    cases fl
    · -- characters
      obtain ⟨rfl, ht⟩ := hT.fk rfl
      have hps := hT.ps
      rw [rem_chr ht] at hps
      obtain ⟨b, off, c, rfl, hc1, hc2, hb, hcl, htl, _⟩ := PcsAt.open hps
      obtain ⟨p0, _, _, p3⟩ := hcl.kept hb hW0.out
      have hbw := Nat.lt_of_lt_of_le hb hW0.out.size
      obtain ⟨tb, et, dt⟩ := sv_some t
      have q3 : wr.cell? ⟨b, off + 3, none⟩ = some (.string tb) := by rw [p3]; exact congrArg some et
      have hrl : 1 ≤ (remL s n t ks rest true 0).length := rem_pos _ _ _ _ _ _ _
      obtain ⟨M, hM⟩ : ∃ M, (remL s n t ks rest true 0).length = M := ⟨_, rfl⟩
      rw [hM] at hc1 htl hrl ⊢
      have hc3 : ¬ c = 1 := by omega
      have q0 : wr.cell? ⟨b, off, none⟩ = some (.int .i64 3) := p0
      clear p0
      have hL0 : L = [] := List.eq_nil_of_length_eq_zero hT.len
      have hne : ¬ w.heap.size = w.heap.size + 1 := by omega
      have hnext : TrS w0 w s nb n t ks rest true 0 tb iv L (.slice (some ⟨b, off + 4, none⟩) M (c - 1)) (wr.setCell ⟨w.heap.size + 1, 2, none⟩ (.string tb)) := by
        refine ⟨htl, nofun, ?_, ?_, ?_, ?_, hT.len, Nat.zero_le _, fun j e x hj => ?_, hT.bel.setCell (p := ⟨w.heap.size + 1, 2, none⟩) (by show w.heap.size ≤ w.heap.size + 1; omega) _, by have := hT.lim; rw [rem_chr ht] at this; simp only [List.length_cons] at this; omega⟩
        · simp [World.setCell, Array.getElem?_modify, hT.box, elB]
        · rw [if_pos rfl]; exact dt
        · rw [Below.heap_setCell _ _ _ _ hne]; exact hT.res
        · exact hT.own.same fun g hg => Below.heap_setCell _ _ _ _ (by have := (hT.own.lt g hg).1; show g ≠ w.heap.size + 1; omega)
        · rw [hL0] at hj; simp at hj
      have hnext' := Lib.hid hnext
      clear hT hps hcl htl p3 et dt hM hL0 hnext
      go_wp2
      go_roundw
      case rel => exact ⟨_, rfl, Lib.hid ⟨true, 0, tb, iv, L, hnext'.out⟩⟩
      case measure => simp [sliceN]
    · by_cases hk : k < ks.length
      · -- an element
        have hx : ks[k]? = some (ks[k]'hk) := List.getElem?_eq_getElem _
        obtain ⟨x, ex⟩ : ∃ x, ks[k]'hk = x := ⟨_, rfl⟩
        have hxm : x ∈ ks := by rw [← ex]; exact List.getElem_mem _
        rw [ex] at hx
        have hps := hT.ps
        rw [rem_kid hx] at hps
        have hps0 := hps
        have hlm := hT.lim
        rw [rem_kid hx] at hlm
        have hlm2 := Lib.hid (show (remL s n t ks rest true (k + 1)).length ≤ 1099511627776 by rw [List.length_append] at hlm; omega)
        obtain ⟨p, ep, _⟩ := pcE_cons x
        rw [ep] at hps
        obtain ⟨b, off, c, rfl, hc1, hc2, hb, hcl, _, _⟩ := PcsAt.open hps
        obtain ⟨p0, _, _, _⟩ := hcl.kept hb hW0.out
        have hbw := Nat.lt_of_lt_of_le hb hW0.out.size
        have q0 : wr.cell? ⟨b, off, none⟩ = some (.int .i64 1) := p0
        clear p0
        rw [show (List.append p (remL s n t ks rest true (k + 1))) = p ++ remL s n t ks rest true (k + 1) from rfl] at hc1 hps0 ⊢
        obtain ⟨M, hM⟩ : ∃ M, (p ++ remL s n t ks rest true (k + 1)).length = M := ⟨_, rfl⟩
        rw [hM] at hc1 hps0 ⊢
        obtain ⟨wa, hwa⟩ : ∃ wa, wr.alloc (.cells #[.int .i64 0, .string ⟨#[]⟩, .string ⟨#[]⟩, .slice none 0 0] 59) = wa := ⟨_, rfl⟩
        have hba : Below wr.heap.size wr wa := by rw [← hwa]; exact (Below.refl _ _).alloc (Nat.le_refl _) _
        have hYa : wa.heap[wr.heap.size]? = some zB := by rw [← hwa]; exact heap_alloc_new wr _
        have c5 := ih'.out x hxm _ (remL s n t ks rest true (k + 1)) w0 wa hps0 hlm (hW0.out.trans (hba.mono hW0.out.size))
        have hba' := Lib.hid hba
        have hYa' := Lib.hid hYa
        have hx' := Lib.hid hx
        have hM' := Lib.hid (show M + 1 = (pcE x).length + (remL s n t ks rest true (k + 1)).length by rw [ep, ← hM]; simp; omega)
        have hpl := Lib.hid (show 2 ≤ (pcE x).length by rw [ep]; simp; omega)
        clear hlm hT hps hps0 hcl hM ep hba hYa hx hxm ex
        go_wp2_with fail
        go_at_call 18
        with_reducible refine c5.mono ?_
        rintro e w3 ⟨⟨xv, v', rfl, ⟨kv, rfl, hkv⟩, hps'⟩, hb3⟩
        obtain ⟨a1, e1, d1⟩ := sv_some x.n
        obtain ⟨a2, e2, d2⟩ := sv_some x.t
        obtain ⟨kA, kc, ekv⟩ := hkv.form
        obtain ⟨kn, hkn⟩ : ∃ kn, x.ks.length = kn := ⟨_, rfl⟩
        rw [hkn] at ekv
        subst ekv
        obtain ⟨vA, vc, evv⟩ := Xm.PcsAt.form hps'
        obtain ⟨vn, hvn⟩ : ∃ vn, (remL s n t ks rest true (k + 1)).length = vn := ⟨_, rfl⟩
        rw [hvn] at evv
        subst evv
        rw [e1, e2]
        obtain ⟨Y, hY⟩ : ∃ Y, wr.heap.size = Y := ⟨_, rfl⟩
        have hb03 : Below wr.heap.size wr w3 := below_then hba'.out hb3
        have hY3 : w3.heap[Y]? = some zB := by rw [← hY]; exact blk_at hYa'.out hb3
        have hbx3 : w3.heap[w.heap.size + 1]? = some (elB s nb tv iv) := blk_at hT'.out.box hb03
        have hrs3 : w3.heap[w.heap.size]? = some zB := blk_at hT'.out.res hb03
        have hZY : w.heap.size + 1 < Y := by rw [← hY]; exact fz
        obtain ⟨w4, hw4⟩ : ∃ w4, (((w3.setCell ⟨Y, 0, none⟩ (.int .i64 x.s)).setCell ⟨Y, 1, none⟩ (.string a1)).setCell ⟨Y, 2, none⟩ (.string a2)).setCell ⟨Y, 3, none⟩ (.slice kA kn kc) = w4 := ⟨_, rfl⟩
        have hs4 : w4.heap.size = w3.heap.size := by rw [← hw4]; simp [World.setCell]
        have ho4 : ∀ j, j ≠ Y → w4.heap[j]? = w3.heap[j]? := fun j hj => by
          rw [← hw4, Below.heap_setCell _ _ _ _ hj, Below.heap_setCell _ _ _ _ hj, Below.heap_setCell _ _ _ _ hj, Below.heap_setCell _ _ _ _ hj]
        have hY4 : w4.heap[Y]? = some (elB x.s a1 a2 (.slice kA kn kc)) := by
          rw [← hw4]; simp [World.setCell, Array.getElem?_modify, hY3, zB, elB]
        have hb4 : Below wr.heap.size wr w4 := by
          rw [← hw4]
          exact (((hb03.setCell (p := ⟨Y, 0, none⟩) (by show wr.heap.size ≤ Y; omega) _).setCell (p := ⟨Y, 1, none⟩) (by show wr.heap.size ≤ Y; omega) _).setCell (p := ⟨Y, 2, none⟩) (by show wr.heap.size ≤ Y; omega) _).setCell (p := ⟨Y, 3, none⟩) (by show wr.heap.size ≤ Y; omega) _
        have hbx4 : w4.heap[w.heap.size + 1]? = some (elB s nb tv iv) := by rw [ho4 _ (by omega)]; exact hbx3
        have hrs4 : w4.heap[w.heap.size]? = some zB := by rw [ho4 _ (by omega)]; exact hrs3
        have hown4 : EsOwn (w.heap.size + 2) iv L w4 := hT'.out.own.kept hb4
        have hpre : w4.heap.size = w3.heap.size ∧ Y < w3.heap.size := ⟨hs4, (Array.getElem?_eq_some_iff.1 hY3).1⟩
        obtain ⟨z0, z1, z2, z3, g0, g1, g2, g3, gz⟩ := cellsE hY3
        obtain ⟨y0, y1, y2, y3, _, _, _, _, _⟩ := cellsE hY4
        obtain ⟨u0, u1, u2, u3, _, _, _, _, _⟩ := cellsE hbx4
        obtain ⟨ivA, ivk, eiv⟩ := Xm.ownsRow_form hown4
        obtain ⟨LN, hLN⟩ : ∃ LN, L.length = LN := ⟨_, rfl⟩
        have hown4' := Lib.hid hown4
        rw [hLN] at eiv
        have hll : L.length ≤ 1099511627776 := by
          have h1 := hT'.out.len
          have h2 := hT'.out.le
          have h3 := hkl'.out
          omega
        have hz4 : w.heap.size + 2 ≤ w4.heap.size := by omega
        subst eiv
        have hY' := Lib.hid hY
        have ho4' := Lib.hid ho4
        have hrs3' := Lib.hid hrs3
        have hb03' := Lib.hid hb03
        have hb4' := Lib.hid hb4
        have hbx4' := Lib.hid hbx4
        have hrs4' := Lib.hid hrs4
        have hps'' := Lib.hid hps'
        have hkv' := Lib.hid hkv
        have hb3' := Lib.hid hb3
        have hLN' := Lib.hid hLN
        have hvn' := Lib.hid hvn
        have hkn' := Lib.hid hkn
        have hd' := Lib.hid (And.intro d1 d2)
        have he' := Lib.hid (And.intro e1 e2)
        clear c5 hs4 ho4 hY4 hb4 hbx4 hrs4 hown4 hps' hkv hb3 hLN hvn hkn d1 d2 e1 e2 hb03 hY3 hbx3 hrs3
        go_wp2_with (at_builtin; refine append_el ⟨x.s, x.n, x.t, .slice kA kn kc⟩ a1 a2 x.s kA kn kc rfl he'.out.1 he'.out.2 rfl rfl _ _ rfl (w.heap.size + 2) _ L _ ?i8 rfl rfl hown4'.out hll hz4 ?_)
        case i8 => exact hpre.1.symm
        intro h' cap w5 hown5 hg5 ho5 hl5
        obtain ⟨LN1, hLN1⟩ : ∃ q, L.length + 1 = q := ⟨_, rfl⟩
        rw [hLN1] at hown5 ⊢
        have hilt := hown4'.out.lt
        have hsz5 : w4.heap.size + 1 ≤ w5.heap.size := by simpa using hg5.size
        have hfar5 : ∀ j, j < w4.heap.size → some j ≠ (Value.slice ivA LN ivk).ownBlock → w5.heap[j]? = w4.heap[j]? := fun j hj hne => by
          rw [hg5.block j (by simp; omega) hne, Below.heap_alloc _ _ _ hj]
        have hne1 : some (w.heap.size + 1) ≠ (Value.slice ivA LN ivk).ownBlock := fun e => by have := (hilt _ e.symm).1; omega
        have hbx5 : w5.heap[w.heap.size + 1]? = some (elB s nb tv (.slice ivA LN ivk)) := by rw [hfar5 _ (by omega) hne1]; exact hbx4'.out
        obtain ⟨m0, m1, m2, m3, l0, l1, l2, l3, lz⟩ := cellsE hbx5
        have hnext : TrS w0 w s nb n t ks rest true (k + 1) tv (.slice (some ⟨h', 0, none⟩) LN1 cap) (L ++ [⟨x.s, x.n, x.t, .slice kA kn kc⟩]) (.slice vA vn vc) (w5.setCell ⟨w.heap.size + 1, 3, none⟩ (.slice (some ⟨h', 0, none⟩) LN1 cap)) := by
          have hfar : ∀ j, j < w3.heap.size → j ≠ Y → some j ≠ (Value.slice ivA LN ivk).ownBlock → j ≠ w.heap.size + 1 → (w5.setCell ⟨w.heap.size + 1, 3, none⟩ (.slice (some ⟨h', 0, none⟩) LN1 cap)).heap[j]? = w3.heap[j]? := fun j h1 h2 h3 h4 => by
            rw [Below.heap_setCell _ _ _ _ h4, hfar5 j (by omega) h3, ho4'.out j h2]
          have hh5 := (hown5.lt h' rfl).1
          have hsz6 : w5.heap.size = (w5.setCell ⟨w.heap.size + 1, 3, none⟩ (.slice (some ⟨h', 0, none⟩) LN1 cap)).heap.size := by simp [World.setCell]
          have hb03 := hb03'.out
          have hlenL := hT'.out.len
          have hiY : ∀ g, (Value.slice ivA LN ivk).ownBlock = some g → g < Y := fun g hg => by
            have := (hT'.out.own.lt g hg).2
            omega
          refine ⟨hps''.out, nofun, ?_, hT'.out.tvd, ?_, ?_, by simp [hlenL], by omega, fun j e y hj hy => ?_, ?_, hlm2.out⟩
          · simp [World.setCell, Array.getElem?_modify, hbx5, elB]
          · rw [hfar _ (by omega) (by omega) (fun e => by have := (hilt _ e.symm).1; omega) (by omega)]; exact hrs3'.out
          · exact hown5.same fun g hg => Below.heap_setCell _ _ _ _ (by have := (hown5.lt g hg).1; show g ≠ w.heap.size + 1; omega)
          · by_cases hjl : j < L.length
            · rw [List.getElem?_append_left hjl] at hj
              obtain ⟨r1, r2⟩ := hT'.out.like j e y hj hy
              have r3 := r2.mono (ok' := fun b => (w.heap.size + 2 ≤ b ∧ some b ≠ (Value.slice ivA LN ivk).ownBlock) ∧ b < Y) (fun g hg hgl => ⟨hg, by omega⟩)
              have r4 := r3.same (w' := w5.setCell ⟨w.heap.size + 1, 3, none⟩ (.slice (some ⟨h', 0, none⟩) LN1 cap)) (by have := hb03.size; omega) (fun g hg hgl => by
                obtain ⟨⟨g1, g2⟩, g3⟩ := hg
                rw [hfar g (by have := hb03.size; omega) (by omega) g2 (by omega)]
                exact hb03.block g hgl)
              refine ⟨r1, r4.mono (fun g hg _ => ?_)⟩
              obtain ⟨⟨g1, g2⟩, g3⟩ := hg
              refine ⟨g1, fun e => ?_⟩
              have e : g = h' := by simpa [Value.ownBlock] using e
              rcases ho5 with h | h
              · exact g2 (by rw [e, h])
              · omega
            · have hjk : j = k := by
                have := (List.getElem?_eq_some_iff.1 hj).1
                simp at this
                omega
              subst hjk
              obtain rfl := Option.some.inj (hx'.out.symm.trans hy)
              rw [List.getElem?_append_right (by omega), show j - L.length = 0 by omega] at hj
              have hj : (⟨x.s, x.n, x.t, .slice kA kn kc⟩ : EV) = e := by simpa using hj
              subst hj
              have hwaY : wa.heap.size = Y + 1 := by rw [← hwa, ← hY]; simp
              have r3 := hkv'.out.mono (ok' := fun b => Y + 1 ≤ b ∧ b < w3.heap.size) (fun g hg hgl => ⟨by have hg : wa.heap.size ≤ g := hg; omega, hgl⟩)
              have r4 := r3.same (w' := w5.setCell ⟨w.heap.size + 1, 3, none⟩ (.slice (some ⟨h', 0, none⟩) LN1 cap)) (by omega) (fun g hg hgl => by
                obtain ⟨g1, g2⟩ := hg
                exact hfar g g2 (by omega) (fun e => by have := hiY g e.symm; omega) (by omega))
              refine ⟨⟨rfl, rfl, rfl⟩, r4.mono (fun g hg _ => ?_)⟩
              obtain ⟨g1, g2⟩ := hg
              refine ⟨by omega, fun e => ?_⟩
              have e : g = h' := by simpa [Value.ownBlock] using e
              rcases ho5 with h | h
              · have := hiY h' h; omega
              · omega
          · have h1 : Below w.heap.size w w4 := hT'.out.bel.trans (hb4'.out.mono hT'.out.bel.size)
            have h2 := (h1.alloc (by omega) (.cells #[.int .i64 x.s, .string a1, .string a2, .slice kA kn kc] 59)).grown hg5 (by simp; omega) (fun g hg => by have := (hilt g hg).1; omega)
            exact h2.setCell (p := ⟨w.heap.size + 1, 3, none⟩) (by show w.heap.size ≤ w.heap.size + 1; omega) _
        have hnext' := Lib.hid hnext
        clear hnext hfar5 hbx5 hown5 hg5 ho5 hilt hsz5 hne1 hLN1 hpre
        go_wp2
        go_roundw
        case rel => exact ⟨_, rfl, Lib.hid ⟨true, k + 1, tv, _, _, hnext'.out⟩⟩
        case measure =>
          have h1 := hM'.out
          have h2 := hpl.out
          have h3 := hvn'.out
          simp only [sliceN]
          omega
      · -- the end
        have hkk : k = ks.length := by have := hT.le; omega
        subst hkk
        have hps := hT.ps
        rw [rem_end] at hps
        obtain ⟨b, off, c, rfl, hc1, hc2, hb, hcl, htl, htl1⟩ := PcsAt.open hps
        obtain ⟨p0, _, _, _⟩ := hcl.kept hb hW0.out
        have hbw := Nat.lt_of_lt_of_le hb hW0.out.size
        have q0 : wr.cell? ⟨b, off, none⟩ = some (.int .i64 2) := p0
        clear p0
        obtain ⟨M, hM⟩ : ∃ M, rest.length = M := ⟨_, rfl⟩
        rw [hM] at hc1 htl htl1 ⊢
        obtain ⟨z0, z1, z2, z3, g0, g1, g2, g3, gz⟩ := cellsE hT.res
        obtain ⟨ivA, ivk, eiv⟩ := Xm.ownsRow_form hT.own
        obtain ⟨LN, hLN⟩ : ∃ LN, L.length = LN := ⟨_, rfl⟩
        rw [hLN] at eiv
        subst eiv
        have hres : ∀ w', (∀ g, g ≠ w.heap.size → w'.heap[g]? = wr.heap[g]?) → w'.heap.size = wr.heap.size → ElAt (fun b => w.heap.size ≤ b) w' (.agg #[.int .i64 s, .string nb, .string tv, .slice ivA LN ivk]) (.mk s n t ks) := fun w' h1 h2 => by
          refine ⟨.slice ivA LN ivk, ?_, ?_⟩
          · have e1 := hfin'.out.1
            have e2 := hT'.out.tvd
            rw [if_pos rfl] at e2
            show _ = Value.agg #[.int .i64 s, sv n, sv t, _]
            rw [e1, ← e2, Xm.sv_data]
          · have hown : EsOwn (w.heap.size + 2) (.slice ivA LN ivk) L w' := hT'.out.own.same fun g hg => h1 g (by have := (hT'.out.own.lt g hg).1; omega)
            refine .mk _ L ks (hown.at.mono fun g hg _ => ?_) hT'.out.len (fun j e y hj hy => (hT'.out.like j e y hj hy).1) (fun j e y hj hy => ?_)
            · have := (hown.lt g hg.symm).1
              show w.heap.size ≤ g
              omega
            · refine ((hT'.out.like j e y hj hy).2.same (by omega) (fun g hg _ => h1 g (by have := hg.1; omega))).mono (fun g hg _ => ?_)
              have := hg.1
              show w.heap.size ≤ g
              omega
        have hres' := Lib.hid hres
        have htl' := Lib.hid htl
        have htl1' := Lib.hid htl1
        have hend : ∀ v0 v1 v2 v3, Below w.heap.size w ((((wr.drew.setCell ⟨w.heap.size, 0, none⟩ v0).setCell ⟨w.heap.size, 1, none⟩ v1).setCell ⟨w.heap.size, 2, none⟩ v2).setCell ⟨w.heap.size, 3, none⟩ v3) := fun v0 v1 v2 v3 =>
          (((hT'.out.bel.drew.setCell (p := ⟨w.heap.size, 0, none⟩) (Nat.le_refl _) _).setCell (p := ⟨w.heap.size, 1, none⟩) (Nat.le_refl _) _).setCell (p := ⟨w.heap.size, 2, none⟩) (Nat.le_refl _) _).setCell (p := ⟨w.heap.size, 3, none⟩) (Nat.le_refl _) _
        have hend' := Lib.hid hend
        clear hend hres htl htl1 hT hps hcl hM hLN
        have hfw : ∀ v0 v1 v2 v3, (((((wr.setCell ⟨w.heap.size, 0, none⟩ v0).setCell ⟨w.heap.size, 1, none⟩ v1).setCell ⟨w.heap.size, 2, none⟩ v2).setCell ⟨w.heap.size, 3, none⟩ v3).drew).heap[w.heap.size]? = some (.cells #[v0, v1, v2, v3] 59 (0, 0)) := fun v0 v1 v2 v3 => by
          rw [heap_drew]
          simp [World.setCell, Array.getElem?_modify, hT'.out.res, zB]
        have hfo : ∀ v0 v1 v2 v3 g, g ≠ w.heap.size → (((((wr.setCell ⟨w.heap.size, 0, none⟩ v0).setCell ⟨w.heap.size, 1, none⟩ v1).setCell ⟨w.heap.size, 2, none⟩ v2).setCell ⟨w.heap.size, 3, none⟩ v3).drew).heap[g]? = wr.heap[g]? := fun v0 v1 v2 v3 g hg => by
          rw [heap_drew, Below.heap_setCell _ _ _ _ hg, Below.heap_setCell _ _ _ _ hg, Below.heap_setCell _ _ _ _ hg, Below.heap_setCell _ _ _ _ hg]
        have hfw' := Lib.hid hfw
        have hfo' := Lib.hid hfo
        clear hfw hfo
        by_cases hc : c = 1
        all_goals
          go_wp2
          go_region
          obtain ⟨y0, y1, y2, y3, _⟩ := cellsE (hfw'.out (.int .i64 s) (.string nb) (.string tv) (.slice ivA LN ivk))
          have hel := Lib.hid (hres'.out _ (hfo'.out (.int .i64 s) (.string nb) (.string tv) (.slice ivA LN ivk)) (by simp [World.setCell, World.drew]))
          have hbe := Lib.hid ((hend'.out (.int .i64 s) (.string nb) (.string tv) (.slice ivA LN ivk)))
          go_wp2
          first
            | exact bodyPost_ret (v := .tuple #[.agg #[.int .i64 s, .string nb, .string tv, .slice ivA LN ivk], .slice (some ⟨b, off, none⟩) M 0]) (by simp [results, Tryz.results18, go_sem, y0, y1, y2, y3]) rfl ⟨⟨_, _, rfl, hel.out, htl1'.out hc⟩, hbe.out⟩
            | exact bodyPost_ret (v := .tuple #[.agg #[.int .i64 s, .string nb, .string tv, .slice ivA LN ivk], .slice (some ⟨b, off + 4, none⟩) M (c - 1)]) (by simp [results, Tryz.results18, go_sem, y0, y1, y2, y3]) rfl ⟨⟨_, _, rfl, hel.out, htl'.out⟩, hbe.out⟩
theorem tree_any : ∀ (N : Nat) (e : El), (pcE e).length ≤ N → TreeC e
  | 0, .mk s n t ks, h => by rw [pcE] at h; simp at h
  | N + 1, .mk s n t ks, h => by
    refine tree_step s n t ks fun x hx => tree_any N x ?_
    have h1 : (pcE x).length ≤ (pcEs ks).length := by
      induction ks with
      | nil => cases hx
      | cons y r ih =>
        rw [pcEs, List.length_append]
        rcases List.mem_cons.1 hx with rfl | hx
        · omega
        · have := ih (by rw [pcE, pcEs] at h; rw [pcE]; simp only [List.length_cons, List.length_append] at h ⊢; omega) hx
          omega
    rw [pcE] at h
    simp only [List.length_cons, List.length_append] at h
    omega
end Go.Proofs.YtmmpojhjpghdlaaGreatDoor.Dv

/-
  dav.element's named AND only, GO ON: their walks.
-/
set_option linter.unusedVariables false
namespace Go.Proofs.YtmmpojhjpghdlaaGreatDoor.Dv
open Go.Lib Go.RowKit
open Xm (Row Pc sv PsOwn PcsAt PcCells below_then below_drewN sv_some sv_str)

def inN (ns : List NB) (e : EV) : Bool := hasN ns e.s e.n
def namedV (ns : List NB) (L : List EV) : List EV := L.filter (inN ns)
def zeroEV : EV := ⟨0, [], [], .slice none 0 0⟩
def onlyV (ns : List NB) (L : List EV) : EV × Bool := match namedV ns L with | [e] => (e, true) | _ => (zeroEV, false)
theorem named_take {ns : List NB} {L : List EV} {k : Nat} {e : EV} (h : L[k]? = some e) : namedV ns (L.take (k + 1)) = namedV ns (L.take k) ++ if inN ns e = true then [e] else [] := by
  obtain ⟨hl, hv⟩ := List.getElem?_eq_some_iff.1 h
  unfold namedV
  rw [List.take_succ_eq_append_getElem hl, List.filter_append, hv]
  simp only [List.filter_cons, List.filter_nil]
theorem named_le (ns : List NB) (L : List EV) (k : Nat) : (namedV ns (L.take k)).length ≤ L.length := Nat.le_trans (List.length_filter_le _ _) (by rw [List.length_take]; omega)
/-- an element's slice of kids is one -/
def Forms (L : List EV) : Prop := ∀ (j : Nat) (e : EV), L[j]? = some e → ∃ A n c, e.k = .slice A n c
set_option maxHeartbeats 4000000 in
set_option maxRecDepth 100000 in
theorem named_any {ok : Nat → Prop} (s : Int) (nb tb : ByteArray) (kv nv : Value) (L : List EV) (ns : List NB) (w : World) (hk : EsAt ok w kv L) (hf : Forms L) (hL : L.length ≤ 1099511627776) (hn : NmsAt w nv ns) :
    Calls Tryz.prog 62 #[.agg #[.int .i64 s, .string nb, .string tb, kv], nv] w fun e w' => (∃ v, e = .returned v ∧ EsOwn w.heap.size v (namedV ns L) w') ∧ Below w.heap.size w w' := by
  obtain ⟨A, b, off, c, rfl, h1, h2, h3, h4⟩ := hk
  obtain ⟨N, hN⟩ : ∃ N, L.length = N := ⟨_, rfl⟩
  rw [hN] at h1 h3 hL ⊢
  have hnk := Lib.hid (fun W (hW : Below w.heap.size w W) => hn.kept hW)
  obtain ⟨bn, env, _⟩ := hn
  subst env
  obtain ⟨M, hM⟩ : ∃ M, ns.length = M := ⟨_, rfl⟩
  rw [hM] at hnk ⊢
  have hN' := Lib.hid hN
  have h3' := Lib.hid h3
  have h4' := Lib.hid h4
  have hf' := Lib.hid hf
  have hnt := Lib.hid (fun k e => @named_take ns L k e)
  have hnl := Lib.hid (named_le ns L)
  unfold maxLen at h2
  obtain ⟨Z, hZ⟩ : ∃ Z, w.heap.size = Z := ⟨_, rfl⟩
  obtain ⟨wB, hwB⟩ : ∃ wB, w.alloc (.cells #[.int .i64 s, .string nb, .string tb, .slice A N c] 59) = wB := ⟨_, rfl⟩
  have hbB : Below Z w wB := by rw [← hwB, ← hZ]; exact (Below.refl _ _).alloc (Nat.le_refl _) _
  have hkB : wB.heap[w.heap.size]? = some (elB s nb tb (.slice A N c)) := by rw [← hwB]; exact heap_alloc_new w _
  obtain ⟨x0, x1, x2, x3, _, _, _, _, xz⟩ := cellsE hkB
  rw [hZ] at x0 x1 x2 x3 xz
  have hbB' := Lib.hid hbB
  have hZ' := Lib.hid hZ
  clear hN h3 h4 hf hM hkB hbB
  go_enter Tryz.func62, Tryz.ntmps62
  go_wp2
  go_loopw [5, 11] (fun s5 s11 wr => ∃ k : Nat, s11 = .int .i64 (k : Int) ∧ k ≤ N ∧ Hid (EsOwn Z s5 (namedV ns (L.take k)) wr) ∧ Hid (Below Z w wr)) (fun s5 s11 wr => N - (RowKit.intOf s11).toNat)
  case atStart => exact ⟨0, rfl, Nat.zero_le _, Lib.hid (EsOwn.nil _ _), hbB'⟩
  case round =>
    clear hbB' hwB x0 x1 x2 x3 xz
    obtain ⟨k, rfl, hk, hown, hbr⟩ := hrel
    have hZr : Z ≤ wr.heap.size := by have := hbr.out.size; rw [hZ'.out] at this; exact this
    obtain ⟨as0, cs0, es⟩ := Xm.ownsRow_form hown.out
    obtain ⟨F, hF⟩ : ∃ F, (namedV ns (L.take k)).length = F := ⟨_, rfl⟩
    rw [hF] at es
    have hF' := Lib.hid hF
    clear hF
    subst es
    by_cases hlt : k < N
    · have hv : L[k]? = some (L[k]'(by have := hN'.out; omega)) := List.getElem?_eq_getElem _
      obtain ⟨e, hE⟩ : ∃ e, L[k]'(by have := hN'.out; omega) = e := ⟨_, rfl⟩
      rw [hE] at hv
      have hbw : Below w.heap.size w wr := by rw [hZ'.out]; exact hbr.out
      obtain ⟨rfl, _, hg⟩ := h3'.out (by omega)
      obtain ⟨q0, q1, q2, q3⟩ := (h4'.out k e hv).same (hbw.block b hg)
      obtain ⟨kA, kn, kc, ek⟩ := hf'.out k e hv
      obtain ⟨a1, e1, d1⟩ := sv_some e.n
      obtain ⟨a2, e2, d2⟩ := sv_some e.t
      rw [e1] at q1
      rw [e2] at q2
      rw [ek] at q3
      obtain ⟨s1, hs1⟩ : ∃ s1, e.s = s1 := ⟨_, rfl⟩
      rw [hs1] at q0
      obtain ⟨wb, hwb⟩ : ∃ wb, wr.alloc (.cells #[.int .i64 s1, .string a1, .string a2, .slice kA kn kc] 59) = wb := ⟨_, rfl⟩
      have hbb : Below wr.heap.size wr wb := by rw [← hwb]; exact (Below.refl _ _).alloc (Nat.le_refl _) _
      have hkb : wb.heap[wr.heap.size]? = some (elB s1 a1 a2 (.slice kA kn kc)) := by rw [← hwb]; exact heap_alloc_new wr _
      obtain ⟨x0, x1, x2, x3, _, _, _, _, xz⟩ := cellsE hkb
      have cC := containsN _ ns s1 a1 wb (hnk.out wb (hbw.trans (hbb.mono hbw.size)))
      have hin : hasN ns s1 a1.data.toList = inN ns e := by unfold inN; rw [d1, hs1]
      rw [hin] at cC
      have hnx := Lib.hid (hnt.out k e hv)
      have hbb' := Lib.hid hbb
      have hkb' := Lib.hid hkb
      have hparts := Lib.hid (And.intro hs1 (And.intro e1 (And.intro e2 ek)))
      clear hbb hkb hin d1 d2 hs1 e1 e2 ek hv hE hbw
      go_wp2_with fail
      go_at_call 26
      with_reducible refine cC.mono ?_
      rintro e' w2 ⟨rfl, hb2⟩
      obtain ⟨y0, y1, y2, y3, _, _, _, _, yz⟩ := cellsE (blk_at hkb'.out hb2)
      have hb2' := Lib.hid (below_then hbb'.out hb2)
      clear cC hb2 x0 x1 x2 x3 xz
      cases hi : inN ns e
      · have hnx2 := Lib.hid (show namedV ns (L.take (k + 1)) = namedV ns (L.take k) by rw [hnx.out, hi]; simp)
        clear hi
        go_wp2
        go_roundw
        case rel => exact ⟨k + 1, by go_num, by omega, Lib.hid (by rw [hnx2.out]; exact hown.out.kept hb2'.out), Lib.hid (hbr.out.trans (hb2'.out.mono hZr))⟩
        case measure => simp [RowKit.intOf]; omega
      · have hnx2 := Lib.hid (show namedV ns (L.take (k + 1)) = namedV ns (L.take k) ++ [e] by rw [hnx.out, hi]; simp)
        clear hi
        have hown2 := Lib.hid (hown.out.kept hb2'.out)
        have hll : (namedV ns (L.take k)).length ≤ 1099511627776 := by have h1 := hnl.out k; have h2 := hN'.out; omega
        have hZ2 : Z ≤ w2.heap.size := Nat.le_trans hZr hb2'.out.size
        go_wp2_with (at_builtin; refine append_el e a1 a2 s1 kA kn kc hparts.out.1 hparts.out.2.1 hparts.out.2.2.1 hparts.out.2.2.2 rfl _ _ rfl Z _ (namedV ns (L.take k)) _ ?i8 rfl rfl hown2.out hll hZ2 ?_)
        case i8 => rfl
        intro h' cap w5 hown5 hg5 ho5 hl5
        have hB5 := Lib.hid (show Below Z w w5 from ((hbr.out.trans (hb2'.out.mono hZr)).alloc hZ2 _).grown hg5 (by simp; omega) (fun g hg => (hown2.out.lt g hg).1))
        rw [← hnx2.out] at hown5
        have hown5' := Lib.hid hown5
        clear hown5 hg5 ho5 hl5
        go_wp2
        go_roundw
        case rel => exact ⟨k + 1, by go_num, by omega, hown5', hB5⟩
        case measure => simp [RowKit.intOf]; omega
    · have htk : L.take k = L := List.take_of_length_le (by have := hN'.out; omega)
      rw [htk] at hown
      clear htk
      go_wp2
      go_ret
      exact ⟨⟨_, rfl, by rw [hZ'.out]; exact hown.out⟩, by rw [hZ'.out]; exact hbr.out⟩
theorem forms_named {ns : List NB} {L : List EV} (h : Forms L) : Forms (namedV ns L) := fun j e hj => by
  have hm := List.mem_of_getElem? hj
  unfold namedV at hm
  obtain ⟨i, hi⟩ := List.getElem?_of_mem (List.mem_filter.1 hm).1
  exact h i e hi
set_option maxHeartbeats 4000000 in
set_option maxRecDepth 100000 in
theorem only_any {ok : Nat → Prop} (s : Int) (nb tb : ByteArray) (kv nv : Value) (L : List EV) (ns : List NB) (w : World) (hk : EsAt ok w kv L) (hf : Forms L) (hL : L.length ≤ 1099511627776) (hn : NmsAt w nv ns) :
    Calls Tryz.prog 64 #[.agg #[.int .i64 s, .string nb, .string tb, kv], nv] w fun e w' => e = .returned (.tuple #[ev (onlyV ns L).1, .bool (onlyV ns L).2]) ∧ Below w.heap.size w w' := by
  obtain ⟨A, c, rfl⟩ := hk.form
  obtain ⟨bn, env, hn0⟩ := id hn
  obtain ⟨M, hM⟩ : ∃ M, ns.length = M := ⟨_, rfl⟩
  obtain ⟨N, hN⟩ : ∃ N, L.length = N := ⟨_, rfl⟩
  obtain ⟨wB, hwB⟩ : ∃ wB, (w.alloc (.cells #[.int .i64 s, .string nb, .string tb, .slice A N c] 59)).alloc (.cells #[.int .i64 0, .string ⟨#[]⟩, .string ⟨#[]⟩, .slice none 0 0] 59) = wB := ⟨_, rfl⟩
  have hbB : Below w.heap.size w wB := by rw [← hwB]; exact ((Below.refl _ _).alloc (Nat.le_refl _) _).alloc (by simp) _
  have cN := named_any s nb tb (.slice A L.length c) nv L ns wB (hk.same hbB.size fun k _ h => hbB.block k h) hf hL (hn.kept hbB)
  have hkB : wB.heap[w.heap.size]? = some (elB s nb tb (.slice A N c)) := by rw [← hwB]; exact heap_alloc2_old w _ _
  have hzB : wB.heap[w.heap.size + 1]? = some zB := by rw [← hwB]; exact heap_alloc2_new w _ _
  subst env
  rw [hM] at cN ⊢
  rw [hN] at cN ⊢
  obtain ⟨x0, x1, x2, x3, _, _, _, _, xz⟩ := cellsE hkB
  have hbB' := Lib.hid hbB
  have hzB' := Lib.hid hzB
  have hff := Lib.hid (forms_named (ns := ns) hf)
  obtain ⟨R, hR⟩ : ∃ R, onlyV ns L = R := ⟨_, rfl⟩
  rw [hR]
  have hR' := Lib.hid hR
  clear hR hbB hkB hzB hk hf hL hn hn0 hM hN
  go_enter Tryz.func64, Tryz.ntmps64
  go_wp2_with fail
  go_at_call 62
  with_reducible refine cN.mono ?_
  rintro e w1 ⟨⟨fv, rfl, hown⟩, hb1⟩
  have hz1 := blk_at hzB'.out hb1
  obtain ⟨z0, z1, z2, z3, g0, g1, g2, g3, gz⟩ := cellsE hz1
  have hb1' := Lib.hid (below_then hbB'.out hb1)
  have hat := hown.at
  obtain ⟨fA, fc, ef⟩ := Xm.ownsRow_form hown
  obtain ⟨F, hF⟩ : ∃ F, (namedV ns L).length = F := ⟨_, rfl⟩
  have hz1' := Lib.hid hz1
  have hend : ∀ v0 v1 v2 v3, Hid (Below w.heap.size w ((((w1.setCell ⟨w.heap.size + 1, 0, none⟩ v0).setCell ⟨w.heap.size + 1, 1, none⟩ v1).setCell ⟨w.heap.size + 1, 2, none⟩ v2).setCell ⟨w.heap.size + 1, 3, none⟩ v3)) := fun v0 v1 v2 v3 => Lib.hid
    ((((hb1'.out.setCell (p := ⟨w.heap.size + 1, 0, none⟩) (by show w.heap.size ≤ w.heap.size + 1; omega) _).setCell (p := ⟨w.heap.size + 1, 1, none⟩) (by show w.heap.size ≤ w.heap.size + 1; omega) _).setCell (p := ⟨w.heap.size + 1, 2, none⟩) (by show w.heap.size ≤ w.heap.size + 1; omega) _).setCell (p := ⟨w.heap.size + 1, 3, none⟩) (by show w.heap.size ≤ w.heap.size + 1; omega) _)
  have hcell : ∀ v0 v1 v2 v3, ((((w1.setCell ⟨w.heap.size + 1, 0, none⟩ v0).setCell ⟨w.heap.size + 1, 1, none⟩ v1).setCell ⟨w.heap.size + 1, 2, none⟩ v2).setCell ⟨w.heap.size + 1, 3, none⟩ v3).heap[w.heap.size + 1]? = some (.cells #[v0, v1, v2, v3] 59 (0, 0)) := fun v0 v1 v2 v3 => by
    simp [World.setCell, Array.getElem?_modify, hz1'.out, zB]
  have hend' := Lib.hid hend
  have hcell' := Lib.hid hcell
  rw [hF] at ef
  by_cases h1 : F = 1
  · obtain ⟨e, he⟩ : ∃ e, namedV ns L = [e] := by
      cases hh : namedV ns L with
      | nil => rw [hh] at hF; simp at hF; omega
      | cons a r =>
        cases r with
        | nil => exact ⟨a, rfl⟩
        | cons b r => rw [hh] at hF; simp at hF; omega
    have e0 : (namedV ns L)[0]? = some e := by rw [he]; rfl
    obtain ⟨fA', fb, foff, fc', q1, q2, q3, q4, q5⟩ := hat
    obtain ⟨rfl, _, hlt⟩ := q4 (by omega)
    obtain ⟨c0, c1, c2, c3⟩ := q5 0 e e0
    rw [Nat.zero_mul, Nat.add_zero] at c0 c1 c2 c3
    obtain ⟨a1, e1, d1⟩ := sv_some e.n
    obtain ⟨a2, e2, d2⟩ := sv_some e.t
    obtain ⟨kA, kn, kc, ek⟩ := hff.out 0 e e0
    rw [e1] at c1
    rw [e2] at c2
    rw [ek] at c3
    obtain ⟨s1, hs1⟩ : ∃ s1, e.s = s1 := ⟨_, rfl⟩
    rw [hs1] at c0
    rw [hF] at q1
    subst q1
    have hFn : (F : Int) = 1 := by omega
    have hres := Lib.hid (show Ending.returned (.tuple #[.agg #[.int .i64 s1, .string a1, .string a2, .slice kA kn kc], .bool true]) = Ending.returned (.tuple #[ev R.1, .bool R.2]) by
      rw [← hR'.out]
      unfold onlyV
      rw [he]
      show _ = Ending.returned (.tuple #[.agg #[.int .i64 e.s, sv e.n, sv e.t, e.k], .bool true])
      rw [hs1, e1, e2, ek])
    obtain ⟨y0, y1, y2, y3, _⟩ := cellsE (hcell'.out (.int .i64 s1) (.string a1) (.string a2) (.slice kA kn kc))
    have hbe := hend'.out (.int .i64 s1) (.string a1) (.string a2) (.slice kA kn kc)
    subst h1
    clear cN hown hz1 hb1 q2 q3 q4 q5 he e0 hs1 e1 e2 ek d1 d2 hF hend hcell ef
    go_wp2
    exact bodyPost_ret (v := .tuple #[.agg #[.int .i64 s1, .string a1, .string a2, .slice kA kn kc], .bool true]) (by simp [results, Tryz.results64, go_sem, y0, y1, y2, y3]) rfl ⟨hres.out, hbe.out⟩
  · have hres := Lib.hid (show Ending.returned (.tuple #[.agg #[.int .i64 0, .string ⟨#[]⟩, .string ⟨#[]⟩, .slice none 0 0], .bool false]) = Ending.returned (.tuple #[ev R.1, .bool R.2]) by
      rw [← hR'.out]
      unfold onlyV
      cases hh : namedV ns L with
      | nil => rfl
      | cons a r =>
        cases r with
        | nil => rw [hh] at hF; simp at hF; omega
        | cons b r => rfl)
    have hFn : ¬ (F : Int) = 1 := by omega
    subst ef
    obtain ⟨y0, y1, y2, y3, _⟩ := cellsE (hcell'.out (.int .i64 0) (.string ⟨#[]⟩) (.string ⟨#[]⟩) (.slice none 0 0))
    have hbe := hend'.out (.int .i64 0) (.string ⟨#[]⟩) (.string ⟨#[]⟩) (.slice none 0 0)
    clear cN hown hz1 hb1 hat hF hend hcell
    go_wp2
    exact bodyPost_ret (v := .tuple #[.agg #[.int .i64 0, .string ⟨#[]⟩, .string ⟨#[]⟩, .slice none 0 0], .bool false]) (by simp [results, Tryz.results64, go_sem, y0, y1, y2, y3]) rfl ⟨hres.out, hbe.out⟩
end Go.Proofs.YtmmpojhjpghdlaaGreatDoor.Dv

/-
  REGIONS 'x, ok := e.only(..)' OF names (written by tools/genonly.py): each by an invariant (RegInv), operation by operation.
-/
set_option linter.unusedVariables false
namespace Go.Proofs.YtmmpojhjpghdlaaGreatDoor.Dv
open Go.Lib Go.RowKit Rg
theorem wp_callsD {P : Program} {o : Oper} {a : Act} {w w1 : World} {K : Act → World → Prop} {Q : Exit → Act → World → Prop} {ds : Option Nat} (hds : o.dst = ds) (f : FuncId) (args : Array Value) (hr : (execOp a.eval o).run P w = .ok (.enter f args) w1) (hk : Calls P f args w1 fun e w' => ∃ v, e = .returned v ∧ K (a.put ds v) w') : Oper.wp P o a w K Q := by
  unfold Oper.wp
  rw [hr]
  show Calls P f args w1 _
  refine hk.mono ?_
  rintro e w' ⟨v, rfl, h⟩
  rw [← hds] at h
  exact h
theorem tmpE {a : Act} {t : Nat} {v : Value} (h : a.eval (.tmp t) = v) : a.tmps[t]?.getD undef = v := by simpa [Act.eval] using h
end Go.Proofs.YtmmpojhjpghdlaaGreatDoor.Dv
namespace Go.Proofs.YtmmpojhjpghdlaaGreatDoor.Dv
open Go.Lib Go.RowKit
theorem nms1 (w : World) (s1 : Int) (n1 : ByteArray) : NmsAt (w.alloc (.cells #[.int .i64 s1, .string n1] 24)) (.slice (some ⟨w.heap.size, 0, none⟩) 1 1) [(s1, n1)] := by
  have h := heap_alloc_new w (.cells #[.int .i64 s1, .string n1] 24)
  refine ⟨w.heap.size, rfl, by simp, by simp, fun j q hj => ?_⟩
  match j, hj with
  | 0, hj => simp at hj; subst hj; exact ⟨(Lib.cell_of_heap h 0).trans rfl, (Lib.cell_of_heap h 1).trans rfl⟩
theorem nms3 (w : World) (s1 s2 s3 : Int) (n1 n2 n3 : ByteArray) : NmsAt (w.alloc (.cells #[.int .i64 s1, .string n1, .int .i64 s2, .string n2, .int .i64 s3, .string n3] 24)) (.slice (some ⟨w.heap.size, 0, none⟩) 3 3) [(s1, n1), (s2, n2), (s3, n3)] := by
  have h := heap_alloc_new w (.cells #[.int .i64 s1, .string n1, .int .i64 s2, .string n2, .int .i64 s3, .string n3] 24)
  refine ⟨w.heap.size, rfl, by simp, by simp, fun j q hj => ?_⟩
  match j, hj with
  | 0, hj => simp at hj; subst hj; exact ⟨(Lib.cell_of_heap h 0).trans rfl, (Lib.cell_of_heap h 1).trans rfl⟩
  | 1, hj => simp at hj; subst hj; exact ⟨(Lib.cell_of_heap h 2).trans rfl, (Lib.cell_of_heap h 3).trans rfl⟩
  | 2, hj => simp at hj; subst hj; exact ⟨(Lib.cell_of_heap h 4).trans rfl, (Lib.cell_of_heap h 5).trans rfl⟩
end Go.Proofs.YtmmpojhjpghdlaaGreatDoor.Dv
