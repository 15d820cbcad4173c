/-
  A READER IN MEMORY: the closure in lay's Reply that reads an entry ('enS').
-/
import Derived.Test.YtpngbfmbjldieaaRdrE
import Derived.Deep.RegionLaw
set_option linter.unusedVariables false
namespace Go.Proofs.Ytpngbfmbjldieaa.Ly
open Go.Lib Go.RowKit
open Bo (Kp Row ownsRow_heap sv sv_data)
open Cd (St takeS numS intS toI RowsAt cntS txtS bytS flgS wrong endS rowS lstS encS encI encE En enS setAll setAll_heap setAll_other setAll_size setAll_kp setArr setArr_all)

theorem RdIs.drewn {w : World} {rb : Nat} {s : St} (h : RdIs w rb s) : RdIs w.drew rb s := h.frame fun _ _ => rfl
theorem Kp.drewn {F : List Nat} {w : World} : Kp F w w.drew := ⟨rfl, rfl, rfl, Nat.le_refl _, fun _ _ _ => rfl⟩
/-- two boxes that a region reads: they stay -/
theorem rs_call {rb b2 b3 : Nat} {w W W' : World} {u v : Value} (h : Kp [rb] w W ∧ W.cell? ⟨b2, 0, none⟩ = some u ∧ W.cell? ⟨b3, 0, none⟩ = some v) (hK : Kp [rb] W W') (h2 : b2 ≠ rb) (h3 : b3 ≠ rb) (l2 : b2 < w.heap.size) (l3 : b3 < w.heap.size) : Kp [rb] w W' ∧ W'.cell? ⟨b2, 0, none⟩ = some u ∧ W'.cell? ⟨b3, 0, none⟩ = some v := by
  obtain ⟨h0, h4, h5⟩ := h
  have hs := h0.size
  refine ⟨h0.trans hK, ?_, ?_⟩
  · have e : W'.cell? ⟨b2, 0, none⟩ = W.cell? ⟨b2, 0, none⟩ := by simp [World.cell?, hK.block b2 (by omega) (by simpa using h2)]
    rw [e]; exact h4
  · have e : W'.cell? ⟨b3, 0, none⟩ = W.cell? ⟨b3, 0, none⟩ := by simp [World.cell?, hK.block b3 (by omega) (by simpa using h3)]
    rw [e]; exact h5
theorem rs_set {rb b2 b3 R j : Nat} {w W : World} {u v x : Value} (hR : w.heap.size ≤ R) (l2 : b2 < w.heap.size) (l3 : b3 < w.heap.size) (h : Kp [rb] w W ∧ W.cell? ⟨b2, 0, none⟩ = some u ∧ W.cell? ⟨b3, 0, none⟩ = some v) : Kp [rb] w (W.setCell ⟨R, j, none⟩ x) ∧ (W.setCell ⟨R, j, none⟩ x).cell? ⟨b2, 0, none⟩ = some u ∧ (W.setCell ⟨R, j, none⟩ x).cell? ⟨b3, 0, none⟩ = some v := by
  obtain ⟨h0, h4, h5⟩ := h
  refine ⟨h0.setCell (.inr hR) _, ?_, ?_⟩
  · have e : (W.setCell ⟨R, j, none⟩ x).cell? ⟨b2, 0, none⟩ = W.cell? ⟨b2, 0, none⟩ := by simp [World.cell?, Below.heap_setCell W ⟨R, j, none⟩ x b2 (show b2 ≠ R by omega)]
    rw [e]; exact h4
  · have e : (W.setCell ⟨R, j, none⟩ x).cell? ⟨b3, 0, none⟩ = W.cell? ⟨b3, 0, none⟩ := by simp [World.cell?, Below.heap_setCell W ⟨R, j, none⟩ x b3 (show b3 ≠ R by omega)]
    rw [e]; exact h5
/-- a text as a value that the walk does not open -/
theorem rTextO_any (w : World) (rb : Nat) (s : St) (h : RdIs w rb s) :
    Calls Try.prog 49 #[rr rb] w fun e w' => ∃ x : ByteArray, e = .returned (.string x) ∧ x = ⟨(txtS s).1.toArray⟩ ∧ RdIs w' rb (txtS s).2 ∧ Kp [rb] w w' := by
  refine (rText_any w rb s h).mono ?_
  rintro e w' ⟨rfl, h1, h2⟩
  exact ⟨_, rfl, rfl, h1, h2⟩

set_option maxHeartbeats 16000000 in
set_option maxRecDepth 100000 in
theorem rEntry_any (w : World) (rb : Nat) (s : St) (b2 b3 : Nat) (h : RdIs w rb s) (h2 : w.cell? ⟨b2, 0, none⟩ = some (rr rb)) (h3 : w.cell? ⟨b3, 0, none⟩ = some (.func (.func 48) #[rr rb] #[])) (hn2 : b2 ≠ rb) (hn3 : b3 ≠ rb) (l2 : b2 < w.heap.size) (l3 : b3 < w.heap.size) :
    Calls Try.prog 64 #[.pointer (some ⟨b2, 0, none⟩), .pointer (some ⟨b3, 0, none⟩)] w fun e w' => e = .returned (.agg #[sv (enS s).1.name, .int .i64 (enS s).1.tag, sv (enS s).1.data, .bool (enS s).1.gone]) ∧ RdIs w' rb (enS s).2 ∧ Kp [rb] w w' := by
  have hrl := h.lt
  obtain ⟨w0, hw0⟩ : ∃ w0, w.alloc (.cells #[.string ⟨#[]⟩, .int .i64 0, .string ⟨#[]⟩, .bool false] 76) = w0 := ⟨_, rfl⟩
  have hb0 : Below w.heap.size w w0 := by rw [← hw0]; exact (Below.refl _ _).alloc (Nat.le_refl _) _
  have hres0 : w0.heap[w.heap.size]? = some (.cells #[.string ⟨#[]⟩, .int .i64 0, .string ⟨#[]⟩, .bool false] 76 (0, 0)) := by rw [← hw0]; exact heap_alloc_new w _
  have hlt := (Array.getElem?_eq_some_iff.1 hres0).1
  have k2 : w0.cell? ⟨b2, 0, none⟩ = some (rr rb) := by rw [hb0.cell (p := ⟨b2, 0, none⟩) l2]; exact h2
  have k3 : w0.cell? ⟨b3, 0, none⟩ = some (.func (.func 48) #[rr rb] #[]) := by rw [hb0.cell (p := ⟨b3, 0, none⟩) l3]; exact h3
  have hS0 : Kp [rb] w w0.drew ∧ w0.drew.cell? ⟨b2, 0, none⟩ = some (rr rb) ∧ w0.drew.cell? ⟨b3, 0, none⟩ = some (.func (.func 48) #[rr rb] #[]) := ⟨(Kp.of_below hb0).trans Kp.drewn, k2, k3⟩
  have hR0 := (h.kept hb0).drewn
  have hrs := Lib.hid fun (W : World) (hK : Kp [rb] w0.drew W) => (hK.block w.heap.size hlt (by simp; omega)).trans (show w0.drew.heap[w.heap.size]? = _ from hres0)
  obtain ⟨R, hRe⟩ : ∃ R, w.heap.size = R := ⟨_, rfl⟩
  rw [hRe] at hrs hrl hlt
  have hR0' := Lib.hid hR0
  have hS0' := Lib.hid hS0
  have hRe' := Lib.hid hRe
  have hle : w.heap.size ≤ R := by omega
  obtain ⟨g, hgoal⟩ : ∃ g, enS s = g := ⟨_, rfl⟩
  rw [hgoal]
  have hgoal' := Lib.hid hgoal
  have hb0' := Lib.hid hb0
  clear h hb0 hres0 hgoal k2 k3 h2 h3 hS0 hR0
  go_enter Try.func64, Try.ntmps64
  go_wp2_with fail
  go_region_held3 (fun W => Kp [rb] w W ∧ W.cell? ⟨b2, 0, none⟩ = some (rr rb) ∧ W.cell? ⟨b3, 0, none⟩ = some (.func (.func 48) #[rr rb] #[]))
    (first | assumption | exact hS0'.out | exact rs_set hle l2 l3 (rs_set hle l2 l3 (rs_set hle l2 l3 (rs_set hle l2 l3 (by assumption)))))
    (first
      | (go_at_call 65; refine (rFlag_any w3 rb _ hR3).mono ?_; rintro e w4 ⟨rfl, hR4, hK4⟩; have hS4 := rs_call hS3 hK4 hn2 hn3 l2 l3; have hbk := hrs.out w4 (hKa.trans hK4); have r0 := Lib.cell_of_heap hbk 0; have r1 := Lib.cell_of_heap hbk 1; have r2 := Lib.cell_of_heap hbk 2; have r3 := Lib.cell_of_heap hbk 3; have f0 := Lib.frozen_of_heap hbk 0; have f1 := Lib.frozen_of_heap hbk 1; have f2 := Lib.frozen_of_heap hbk 2; have f3 := Lib.frozen_of_heap hbk 3)
      | (go_at_call 49; refine (rTextO_any w2 rb _ hR2).mono ?_; rintro e w3 ⟨x3, rfl, hx3, hR3, hK3⟩; have hS3 := rs_call hS2 hK3 hn2 hn3 l2 l3; have hKa := hKb.trans hK3)
      | (go_at_call 48; refine (rWhole_any w1 rb _ hR1).mono ?_; rintro e w2 ⟨rfl, hR2, hK2⟩; have hS2 := rs_call hS1 hK2 hn2 hn3 l2 l3; have hKb := hK1.trans hK2)
      | (go_at_call 49; refine (rTextO_any _ rb _ hR0'.out).mono ?_; rintro e w1 ⟨x1, rfl, hx1, hR1, hK1⟩; have hS1 := rs_call hS0'.out hK1 hn2 hn3 l2 l3))
  all_goals
    have hF := res_fin hR4 hbk hrl ((Kp.of_below hb0'.out).trans (Kp.drewn.trans (hKa.trans hK4))) hle [.string ⟨(txtS s).1.toArray⟩, .int .i64 (intS (txtS s).2).1, .string ⟨(txtS (intS (txtS s).2).2).1.toArray⟩, .bool (flgS (txtS (intS (txtS s).2).2).2).1] rfl
    simp only [setAll, Nat.reduceAdd, Nat.zero_add] at hF
    have hF' := Lib.hid hF
    clear hF hbk hR4 hS4 hK4 hKa hKb hK3 hK2 hK1 hR3 hR2 hR1 hS1 hS2 hS3 r0 r1 r2 r3 f0 f1 f2 f3
    go_wp2
    have hres := fun tm (hp : tm.getD 2 undef = .pointer (some ⟨R, 0, none⟩)) => results_cell_row (fn := Try.f64) (p := 2) (ty := 76) rfl tm _ R _ _ _ _ hp hF'.out.1 Try.underlying76 rfl (by kernel_rfl)
    exact bodyPost_ret (hres _ rfl) rfl ⟨by rw [← hgoal'.out]; rfl, by rw [← hgoal'.out]; exact hF'.out.2.1, hF'.out.2.2⟩
end Go.Proofs.Ytpngbfmbjldieaa.Ly
