/-
  A READER IN MEMORY: a list of entries, a reply ('repS'). (Written by tools/genrdrg.py.)
-/
import Derived.Test.YtpngbfmbjldieaaRdrF
set_option linter.unusedVariables false
namespace Go.Proofs.Ytpngbfmbjldieaa.Ly
open Go.Lib Go.RowKit
open Bo (Kp Row ownsRow_heap sv sv_data)
open Cd (St takeS numS intS toI RowsAt cntS txtS bytS flgS wrong endS rowS lstS Going infoStr infoInt infoEnt encS encI encE WrR append_el En enS Rep repS repV setAll setAll_heap setAll_other setAll_size setAll_kp setArr setArr_all)

theorem sz_wrong (b : Bool) (s : St) : szS (wrong b s) = szS s := by cases s <;> rfl

set_option maxHeartbeats 8000000 in
set_option maxRecDepth 100000 in
theorem listedEnt_any (w : World) (rb : Nat) (s : St) (h : RdIs w rb s) (hsz : szS s ≤ 1099511627776) (b2 b3 : Nat) (h2 : w.cell? ⟨b2, 0, none⟩ = some (rr rb)) (h3 : w.cell? ⟨b3, 0, none⟩ = some (.func (.func 48) #[rr rb] #[])) (hn2 : b2 ≠ rb) (hn3 : b3 ≠ rb) (l2 : b2 < w.heap.size) (l3 : b3 < w.heap.size) :
    Calls Try.prog 66 #[rr rb, .func (.func 64) #[] #[.pointer (some ⟨b2, 0, none⟩), .pointer (some ⟨b3, 0, none⟩)]] w fun e w' => ∃ v, e = .returned v ∧ w'.ownsRow w.heap.size 76 4 v (rowS enS s).1.length ((rowS enS s).1.flatMap encE) ∧ RdIs w' rb (rowS enS s).2 ∧ Kp [rb] w w' := by
  have cC := rCount_any w rb s h
  have hrl := h.lt
  obtain ⟨hc1, hc2⟩ := sz_cnt s
  obtain ⟨goal, hgoal⟩ : ∃ g, rowS enS s = g := ⟨_, rfl⟩
  have hg0 : lstS enS (cntS s).1 (cntS s).2 = goal := hgoal
  rw [hgoal]
  obtain ⟨n, hn⟩ : ∃ n, (cntS s).1 = n := ⟨_, rfl⟩
  obtain ⟨s1, hs1⟩ : ∃ x, (cntS s).2 = x := ⟨_, rfl⟩
  rw [hn, hs1] at cC hg0
  rw [hn, hs1] at hc1
  rw [hs1] at hc2
  have hnl : n ≤ 1099511627776 := by omega
  have hbx := Lib.hid fun (W : World) (hK : Kp [rb] w W) => rs_call (rb := rb) (And.intro (Kp.refl [rb] w) (And.intro h2 h3)) hK hn2 hn3 l2 l3
  clear h2 h3
  clear hgoal hn hs1 hc1 hc2 hsz h
  go_enter Try.func66, Try.ntmps66
  go_wp2_with fail
  go_at_call 63
  refine cC.mono ?_
  rintro e w1 ⟨rfl, hR, hK⟩
  have hG0 : Hid (Going enS goal [] n s1) := Lib.hid (by unfold Cd.Going; rw [hg0]; rfl)
  have hR0 := Lib.hid hR
  have hK0 := Lib.hid hK
  have hsz1 := hK.size
  have hN0 : Hid (w1.ownsRow w1.heap.size 76 4 (.slice none 0 0) ([] : List En).length (([] : List En).flatMap encE)) := Lib.hid (World.ownsRow_nil w1 _ _ _)
  clear cC hR hK hg0
  go_wp2
  go_loopw [5, 8] (fun s5 s8 wr => ∃ (k : Nat) (acc : List En) (sr : St) (ao : Option Addr) (ac : Nat), s8 = .int .i64 (k : Int) ∧ s5 = .slice ao acc.length ac ∧ k ≤ n ∧ acc.length = k ∧ Hid (Going enS goal acc (n - k) sr) ∧ Hid (RdIs wr rb sr) ∧ Hid (Kp [rb] w1 wr) ∧ Hid (wr.ownsRow w1.heap.size 76 4 (.slice ao acc.length ac) acc.length (acc.flatMap encE))) (fun _ s8 _ => n - (RowKit.intOf s8).toNat)
  case atStart => exact ⟨0, [], s1, none, 0, by rfl, by rfl, Nat.zero_le _, rfl, hG0, hR0, Lib.hid (Kp.refl _ _), hN0⟩
  case round =>
    obtain ⟨k, acc, sr, ao, ac, rfl, rfl, hk, hak, hG, hR, hK, hO⟩ := hrel
    have hak' := Lib.hid hak
    clear hak
    have hrlt : rb < wr.heap.size := hR.out.lt
    by_cases hlt : k < n
    · obtain ⟨A, q, c, sh, fm, hcl⟩ := hR.out.cells
      have c1 := Lib.cell_of_heap hcl 1
      cases sr with
      | none =>
        obtain rfl : sh = true := by
          obtain ⟨f2, h2⟩ := hR.out
          rw [h2] at hcl
          injection hcl with hcl
          injection hcl with hcl
          simp at hcl
          exact hcl.2.1
        have hE : Hid (goal = (acc, none)) := Lib.hid hG.out.gone
        have hF := Lib.hid (And.intro hR.out (hK0.out.trans hK.out))
        clear hG hR hK hcl
        go_wp2
        go_ret
        exact ⟨_, rfl, by rw [hE.out]; exact own_low hO.out hsz1, by rw [hE.out]; exact hF.out.1, hF.out.2⟩
      | some y =>
        obtain rfl : sh = false := by
          obtain ⟨l, f⟩ := y
          obtain ⟨A2, b2, o2, c2, h2, _⟩ := hR.out
          rw [h2] at hcl
          injection hcl with hcl
          injection hcl with hcl
          simp at hcl
          exact hcl.2.1
        obtain ⟨m, hm⟩ : ∃ m, n - k = m + 1 := ⟨n - k - 1, by omega⟩
        have hG2 := hG.out
        rw [hm] at hG2
        have hG3 := Lib.hid hG2.step
        have hm' := Lib.hid hm
        have cT := rEntry_any wr rb (some y) b2 b3 hR.out (hbx.out wr (hK0.out.trans hK.out)).2.1 (hbx.out wr (hK0.out.trans hK.out)).2.2 hn2 hn3 (by have := hK0.out.size; have := hK.out.size; omega) (by have := hK0.out.size; have := hK.out.size; omega)
        obtain ⟨y1, hy1⟩ : ∃ z, (enS (some y)).1 = z := ⟨_, rfl⟩
        obtain ⟨s2, hs2⟩ : ∃ x, (enS (some y)).2 = x := ⟨_, rfl⟩
        rw [hy1, hs2] at cT hG3
        obtain ⟨yp, zq, yr, gz⟩ := y1
        dsimp only at cT
        unfold sv at cT
        clear hG hG2 hR hm hcl hy1 hs2
        go_wp2_with fail
        go_at_call 64
        refine cT.mono ?_
        rintro e w2 ⟨rfl, hR2, hK2⟩
        have hO2 : w2.ownsRow w1.heap.size 76 4 (.slice ao acc.length ac) acc.length (acc.flatMap encE) := ownsRow_heap hO.out fun g hg => hK2.block g (World.ownsRow.lt hO.out g hg).2 (by have := (World.ownsRow.lt hO.out g hg).1; simp; omega)
        have hO2' := Lib.hid hO2
        have hR2' := Lib.hid hR2
        have hK2' := Lib.hid (hK.out.trans hK2)
        have hlen : (acc.length + 1) * 48 ≤ 140737488355328 := by have := hak'.out; omega
        have hmax : acc.length + 1 ≤ maxLen := by unfold maxLen; have := hak'.out; omega
        have hbase : w1.heap.size ≤ w2.heap.size := hK2'.out.size
        clear hR2 hK2 hO2 cT c1 hO hK
        go_wp2_with (first
          | (at_builtin; refine append_el (enc := encE) (size := 4) (bytes := 48) (et := 76) (st := 31) (z := .agg #[.string ⟨#[]⟩, .int .i64 0, .string ⟨#[]⟩, .bool false]) Try.underlying31 infoEnt rfl (fun _ => rfl) (fun x u hu => by simp [encE, sv] at hu; rcases hu with hu | hu | hu | hu <;> (rw [hu]; rfl)) (by decide) ((⟨yp, zq, yr, gz⟩ : En)) rfl rfl _ _ rfl w1.heap.size (.slice ao acc.length ac) acc _ rfl rfl rfl hO2'.out hlen hmax hbase ?_; intro g cap w3 hw3; have hW3 := Lib.hid hw3)
          | fail)
        have hkp := hW3.out.kp
        have hown := Lib.hid hW3.out.own
        have hnb : ∀ i, i < w1.heap.size → w3.heap[i]? = w2.heap[i]? := fun i hi => hkp.block i (by omega) (fun hm => by have := (World.ownsRow.lt hO2'.out i (by simpa using hm)).1; omega)
        have hR3 : Hid (RdIs w3 rb s2) := Lib.hid (hR2'.out.frame fun i hi => hnb i (by omega))
        have hK3 : Hid (Kp [rb] w1 w3) := Lib.hid (hK2'.out.then hkp fun x hx => .inr (World.ownsRow.lt hO2'.out x (by simpa using hx)).1)
        have hal : (acc ++ [(⟨yp, zq, yr, gz⟩ : En)]).length = acc.length + 1 := by simp
        have hal' := Lib.hid hal
        clear hw3 hkp hnb hal
        go_wp2
        go_roundw
        case rel => exact ⟨k + 1, acc ++ [(⟨yp, zq, yr, gz⟩ : En)], s2, some ⟨g, 0, none⟩, cap, by go_num, by rw [hal'.out], by omega, by rw [hal'.out, hak'.out], Lib.hid (by rw [show n - (k + 1) = m by have := hm'.out; omega]; exact hG3.out), hR3, hK3, Lib.hid (by have := hown.out; rw [hal'.out] at this ⊢; exact this)⟩
        case measure => simp [RowKit.intOf]; omega
    · have hE : Hid (goal = (acc, sr)) := Lib.hid (by have h1 := hG.out; rw [show n - k = 0 by omega] at h1; exact h1.fin)
      have hF := Lib.hid (And.intro hR.out (hK0.out.trans hK.out))
      clear hG hR hK
      go_wp2
      go_ret
      exact ⟨_, rfl, by rw [hE.out]; exact own_low hO.out hsz1, by rw [hE.out]; exact hF.out.1, hF.out.2⟩

set_option maxHeartbeats 16000000 in
set_option maxRecDepth 100000 in
theorem rReply_any (w : World) (rb : Nat) (s : St) (h : RdIs w rb s) (hsz : szS s ≤ 1099511627776) :
    Calls Try.prog 51 #[rr rb, .func (.func 48) #[rr rb] #[]] w fun e w' => ∃ ev, e = .returned (repV (repS s).1 ev) ∧ w'.ownsRow w.heap.size 76 4 ev (repS s).1.ents.length ((repS s).1.ents.flatMap encE) ∧ RdIs w' rb (repS s).2 ∧ Kp [rb] w w' := by
  have hrl := h.lt
  obtain ⟨wa, hwa⟩ : ∃ x, w.alloc (.cells #[rr rb] 92) = x := ⟨_, rfl⟩
  obtain ⟨wB, hwB⟩ : ∃ x, wa.alloc (.cells #[.func (.func 48) #[rr rb] #[]] 48) = x := ⟨_, rfl⟩
  obtain ⟨w0, hw0⟩ : ∃ x, wB.alloc (.cells #[.int .i64 0, .int .i64 0, .string ⟨#[]⟩, .slice none 0 0, .string ⟨#[]⟩] 33) = x := ⟨_, rfl⟩
  have hba : Below w.heap.size w wa := by rw [← hwa]; exact (Below.refl _ _).alloc (Nat.le_refl _) _
  have hbb : Below wa.heap.size wa wB := by rw [← hwB]; exact (Below.refl _ _).alloc (Nat.le_refl _) _
  have hb0 : Below wB.heap.size wB w0 := by rw [← hw0]; exact (Below.refl _ _).alloc (Nat.le_refl _) _
  have ha : wa.heap[w.heap.size]? = some (.cells #[rr rb] 92 (0, 0)) := by rw [← hwa]; exact heap_alloc_new w _
  have hB : wB.heap[wa.heap.size]? = some (.cells #[.func (.func 48) #[rr rb] #[]] 48 (0, 0)) := by rw [← hwB]; exact heap_alloc_new wa _
  have hla := (Array.getElem?_eq_some_iff.1 ha).1
  have hlB := (Array.getElem?_eq_some_iff.1 hB).1
  have ha2 := (hbb.block _ hla).trans ha
  have hres0 : w0.heap[wB.heap.size]? = some (.cells #[.int .i64 0, .int .i64 0, .string ⟨#[]⟩, .slice none 0 0, .string ⟨#[]⟩] 33 (0, 0)) := by rw [← hw0]; exact heap_alloc_new wB _
  have hlt := (Array.getElem?_eq_some_iff.1 hres0).1
  have l2 := (Array.getElem?_eq_some_iff.1 ha2).1
  have hwB0 := hba.trans (hbb.mono hba.size)
  have hRB := h.kept hwB0
  have hR0 := (hRB.kept hb0).drewn
  have k2 : w0.cell? ⟨w.heap.size, 0, none⟩ = some (rr rb) := Lib.cell_of_heap ((hb0.block _ l2).trans ha2) 0
  have k3 : w0.cell? ⟨wa.heap.size, 0, none⟩ = some (.func (.func 48) #[rr rb] #[]) := Lib.cell_of_heap ((hb0.block _ hlB).trans hB) 0
  have hrs := Lib.hid fun (W : World) (hK : Kp [rb] w0.drew W) => (hK.block wB.heap.size hlt (by have := hwB0.size; simp; omega)).trans (show w0.drew.heap[wB.heap.size]? = _ from hres0)
  have hsz1 := hba.size
  have hsz2 := hbb.size
  obtain ⟨b2, hb2⟩ : ∃ b, w.heap.size = b := ⟨_, rfl⟩
  obtain ⟨b3, hb3⟩ : ∃ b, wa.heap.size = b := ⟨_, rfl⟩
  obtain ⟨R, hRe⟩ : ∃ R, wB.heap.size = R := ⟨_, rfl⟩
  rw [hb2] at k2 hla l2 hrl
  rw [hb3] at k3 hlB
  rw [hRe] at hrs hlt
  have hle : wB.heap.size ≤ R := by omega
  have hrR : rb < R := by omega
  have hn2 : b2 ≠ rb := by omega
  have hn3 : b3 ≠ rb := by omega
  have hS0 : Kp [rb] wB w0.drew ∧ w0.drew.cell? ⟨b2, 0, none⟩ = some (rr rb) ∧ w0.drew.cell? ⟨b3, 0, none⟩ = some (.func (.func 48) #[rr rb] #[]) := ⟨(Kp.of_below hb0).trans Kp.drewn, k2, k3⟩
  have hR0' := Lib.hid hR0
  have hS0' := Lib.hid hS0
  have hwB0' := Lib.hid (Kp.of_below (F := [rb]) hwB0)
  obtain ⟨g, hgoal⟩ : ∃ g, repS s = g := ⟨_, rfl⟩
  rw [hgoal]
  have hgoal' := Lib.hid hgoal
  have hz2 : szS (txtS (intS (intS s).2).2).2 ≤ 1099511627776 := Nat.le_trans (sz_txt _) (Nat.le_trans (sz_int _) (Nat.le_trans (sz_int _) hsz))
  clear h hb0 hres0 hgoal k2 k3 hS0 hR0 ha hB ha2 hba hbb hwB0 hRB hsz
  go_enter Try.func51, Try.ntmps51
  go_wp2_with fail
  go_region_held3 (fun W => Kp [rb] wB W ∧ W.cell? ⟨b2, 0, none⟩ = some (rr rb) ∧ W.cell? ⟨b3, 0, none⟩ = some (.func (.func 48) #[rr rb] #[]))
    (first | assumption | exact hS0'.out | exact rs_set hle l2 hlB (rs_set hle l2 hlB (rs_set hle l2 hlB (rs_set hle l2 hlB (rs_set hle l2 hlB (by assumption))))))
    (first
      | (go_at_call 49; refine (rTextO_any w4 rb _ hR4).mono ?_; rintro e w5 ⟨x5, rfl, hx5, hR5, hK5⟩; have hS5 := rs_call hS4 hK5 hn2 hn3 l2 hlB; have hbk := hrs.out w5 (hKd.trans hK5); have r0 := Lib.cell_of_heap hbk 0; have r1 := Lib.cell_of_heap hbk 1; have r2 := Lib.cell_of_heap hbk 2; have r3 := Lib.cell_of_heap hbk 3; have r4 := Lib.cell_of_heap hbk 4; have f0 := Lib.frozen_of_heap hbk 0; have f1 := Lib.frozen_of_heap hbk 1; have f2 := Lib.frozen_of_heap hbk 2; have f3 := Lib.frozen_of_heap hbk 3; have f4 := Lib.frozen_of_heap hbk 4)
      | (go_at_call 66; refine (listedEnt_any w3 rb _ hR3 hz2 b2 b3 hS3.2.1 hS3.2.2 hn2 hn3 (by have := hS3.1.size; omega) (by have := hS3.1.size; omega)).mono ?_; rintro e w4 ⟨v4, rfl, hO4, hR4, hK4⟩; have hS4 := rs_call hS3 hK4 hn2 hn3 l2 hlB; have hKd := hKc.trans hK4; obtain ⟨ao, ac, rfl⟩ := own_form hO4)
      | (go_at_call 49; refine (rTextO_any w2 rb _ hR2).mono ?_; rintro e w3 ⟨x3, rfl, hx3, hR3, hK3⟩; have hS3 := rs_call hS2 hK3 hn2 hn3 l2 hlB; have hKc := hKb.trans hK3)
      | (go_at_call 48; refine (rWhole_any w1 rb _ hR1).mono ?_; rintro e w2 ⟨rfl, hR2, hK2⟩; have hS2 := rs_call hS1 hK2 hn2 hn3 l2 hlB; have hKb := hK1.trans hK2)
      | (go_at_call 48; refine (rWhole_any _ rb _ hR0'.out).mono ?_; rintro e w1 ⟨rfl, hR1, hK1⟩; have hS1 := rs_call hS0'.out hK1 hn2 hn3 l2 hlB))
  all_goals
    have hF := res_fin hR5 hbk hrR (hwB0'.out.trans hS5.1) (by omega) [.int .i64 (intS s).1, .int .i64 (intS (intS s).2).1, .string ⟨(txtS (intS (intS s).2).2).1.toArray⟩, .slice ao (rowS enS (txtS (intS (intS s).2).2).2).1.length ac, .string ⟨(txtS (rowS enS (txtS (intS (intS s).2).2).2).2).1.toArray⟩] rfl
    have hO5 := ownsRow_heap hO4 fun g hg => hK5.block g (World.ownsRow.lt hO4 g hg).2 (by have := (World.ownsRow.lt hO4 g hg).1; have := hS3.1.size; simp; omega)
    have hRw : R + 1 ≤ w3.heap.size := by have := hKc.size; have : w0.heap.size = w0.drew.heap.size := rfl; omega
    have hrow : (setAll w5 R 0 [.int .i64 (intS s).1, .int .i64 (intS (intS s).2).1, .string ⟨(txtS (intS (intS s).2).2).1.toArray⟩, .slice ao (rowS enS (txtS (intS (intS s).2).2).2).1.length ac, .string ⟨(txtS (rowS enS (txtS (intS (intS s).2).2).2).2).1.toArray⟩]).ownsRow w.heap.size 76 4 (.slice ao (rowS enS (txtS (intS (intS s).2).2).2).1.length ac) (rowS enS (txtS (intS (intS s).2).2).2).1.length ((rowS enS (txtS (intS (intS s).2).2).2).1.flatMap encE) := own_low (ownsRow_heap hO5 fun q hq => setAll_other (by have := (World.ownsRow.lt hO5 q hq).1; omega) _ _ _) (by omega)
    simp only [setAll, Nat.reduceAdd, Nat.zero_add] at hF hrow
    have hF' := Lib.hid (And.intro hF hrow)
    clear hF hrow hO4 hO5 hbk hR5 hS5 hK5 hKd hKc hKb hK4 hK3 hK2 hK1 hR4 hR3 hR2 hR1 hS1 hS2 hS3 hS4 r0 r1 r2 r3 r4 f0 f1 f2 f3 f4
    go_wp2
    have hres := fun tm (hp : tm.getD 4 undef = .pointer (some ⟨R, 0, none⟩)) => results_cell_row (fn := Try.f51) (p := 4) (ty := 33) rfl tm _ R _ _ _ _ hp hF'.out.1.1 Try.underlying33 rfl (by kernel_rfl)
    exact bodyPost_ret (hres _ rfl) rfl ⟨_, by rw [← hgoal'.out]; rfl, by rw [← hgoal'.out]; exact hF'.out.2, by rw [← hgoal'.out]; exact hF'.out.1.2.1, hF'.out.1.2.2⟩
end Go.Proofs.Ytpngbfmbjldieaa.Ly
