/-
  A READER IN MEMORY: lists (lay.Listed). (Written by tools/genrdrd.py.)
-/
import Derived.Test.YtpngbfmbjldieaaRdrC
set_option linter.unusedVariables false
namespace Go.Proofs.Ytpngbfmbjldieaa.Ly
open Go.Lib Go.RowKit
open Bo (Kp Row ownsRow_heap sv sv_data)
open Cd (St takeS takeS_few takeS_all numS intS toI RowsAt numS_lt cntS cntB cntB_no cntB_yes txtS bytS flgS wrong endS rowS lstS Going infoStr infoInt infoEnt encS encI encE WrR append_el)

/-- how many bytes are left -/
def szS : St → Nat
  | none => 0
  | some (l, _) => l.length
theorem sz_take (n : Nat) (s : St) : szS (takeS n s).2 ≤ szS s := by
  cases s with
  | none => exact Nat.le_refl _
  | some s =>
    obtain ⟨l, f⟩ := s
    by_cases h : l.length < n
    · rw [takeS_few f h]; exact Nat.zero_le _
    · rw [takeS_all f (by omega)]; show (l.drop n).length ≤ l.length; rw [List.length_drop]; omega
theorem sz_cnt (s : St) : (cntS s).1 ≤ szS (cntS s).2 ∧ szS (cntS s).2 ≤ szS s := by
  have h0 := sz_take 8 s
  have hg : (takeS 8 s).2 = none → num (takeS 8 s).1 = 0 := fun e => by rw [take_gone e]; rfl
  show (cntB (num (takeS 8 s).1) (takeS 8 s).2).1 ≤ szS (cntB (num (takeS 8 s).1) (takeS 8 s).2).2 ∧ szS (cntB (num (takeS 8 s).1) (takeS 8 s).2).2 ≤ szS s
  cases hs : (takeS 8 s).2 with
  | none => rw [hg hs]; exact ⟨Nat.le_refl _, Nat.zero_le _⟩
  | some y =>
    obtain ⟨l, f⟩ := y
    rw [hs] at h0
    by_cases h : l.length < num (takeS 8 s).1
    · rw [cntB_no h]; exact ⟨Nat.le_refl _, Nat.zero_le _⟩
    · rw [cntB_yes h]; exact ⟨by show _ ≤ l.length; omega, h0⟩
/-- a row that lies high lies above what is lower -/
theorem own_form {w : World} {B : Nat} {e : TypeId} {size : Nat} {v : Value} {n : Nat} {xs : List Value} (h : w.ownsRow B e size v n xs) : ∃ a c, v = .slice a n c := by
  rcases h.2 with ⟨e, h0⟩ | ⟨g, cap, cur, e, _⟩
  · exact ⟨none, 0, by rw [e, h0]⟩
  · exact ⟨_, _, e⟩
theorem own_low {w : World} {B B' : Nat} {e : TypeId} {size : Nat} {v : Value} {n : Nat} {xs : List Value} (h : w.ownsRow B e size v n xs) (hB : B' ≤ B) : w.ownsRow B' e size v n xs := by
  refine ⟨h.1, ?_⟩
  rcases h.2 with h | ⟨g, cap, cur, e1, e2, e3⟩
  · exact .inl h
  · exact .inr ⟨g, cap, cur, e1, by omega, e3⟩

set_option maxHeartbeats 8000000 in
set_option maxRecDepth 100000 in
theorem listedStr_any (w : World) (rb : Nat) (s : St) (h : RdIs w rb s) (hsz : szS s ≤ 1099511627776) :
    Calls Try.prog 50 #[rr rb, .func (.func 49) #[rr rb] #[]] w fun e w' => ∃ v, e = .returned v ∧ w'.ownsRow w.heap.size 9 1 v (rowS txtS s).1.length ((rowS txtS s).1.flatMap encS) ∧ RdIs w' rb (rowS txtS s).2 ∧ Kp [rb] w w' := by
  have cC := rCount_any w rb s h
  have hrl := h.lt
  obtain ⟨hc1, hc2⟩ := sz_cnt s
  obtain ⟨goal, hgoal⟩ : ∃ g, rowS txtS s = g := ⟨_, rfl⟩
  have hg0 : lstS txtS (cntS s).1 (cntS s).2 = goal := hgoal
  rw [hgoal]
  obtain ⟨n, hn⟩ : ∃ n, (cntS s).1 = n := ⟨_, rfl⟩
  obtain ⟨s1, hs1⟩ : ∃ x, (cntS s).2 = x := ⟨_, rfl⟩
  rw [hn, hs1] at cC hg0
  rw [hn, hs1] at hc1
  rw [hs1] at hc2
  have hnl : n ≤ 1099511627776 := by omega
  clear hgoal hn hs1 hc1 hc2 hsz h
  go_enter Try.func50, Try.ntmps50
  go_wp2_with fail
  go_at_call 63
  refine cC.mono ?_
  rintro e w1 ⟨rfl, hR, hK⟩
  have hG0 : Hid (Going txtS goal [] n s1) := Lib.hid (by unfold Cd.Going; rw [hg0]; rfl)
  have hR0 := Lib.hid hR
  have hK0 := Lib.hid hK
  have hsz1 := hK.size
  have hN0 : Hid (w1.ownsRow w1.heap.size 9 1 (.slice none 0 0) ([] : List Row).length (([] : List Row).flatMap encS)) := Lib.hid (World.ownsRow_nil w1 _ _ _)
  clear cC hR hK hg0
  go_wp2
  go_loopw [5, 8] (fun s5 s8 wr => ∃ (k : Nat) (acc : List Row) (sr : St) (ao : Option Addr) (ac : Nat), s8 = .int .i64 (k : Int) ∧ s5 = .slice ao acc.length ac ∧ k ≤ n ∧ acc.length = k ∧ Hid (Going txtS goal acc (n - k) sr) ∧ Hid (RdIs wr rb sr) ∧ Hid (Kp [rb] w1 wr) ∧ Hid (wr.ownsRow w1.heap.size 9 1 (.slice ao acc.length ac) acc.length (acc.flatMap encS))) (fun _ s8 _ => n - (RowKit.intOf s8).toNat)
  case atStart => exact ⟨0, [], s1, none, 0, by rfl, by rfl, Nat.zero_le _, rfl, hG0, hR0, Lib.hid (Kp.refl _ _), hN0⟩
  case round =>
    obtain ⟨k, acc, sr, ao, ac, rfl, rfl, hk, hak, hG, hR, hK, hO⟩ := hrel
    have hak' := Lib.hid hak
    clear hak
    have hrlt : rb < wr.heap.size := hR.out.lt
    by_cases hlt : k < n
    · obtain ⟨A, q, c, sh, fm, hcl⟩ := hR.out.cells
      have c1 := Lib.cell_of_heap hcl 1
      cases sr with
      | none =>
        obtain rfl : sh = true := by
          obtain ⟨f2, h2⟩ := hR.out
          rw [h2] at hcl
          injection hcl with hcl
          injection hcl with hcl
          simp at hcl
          exact hcl.2.1
        have hE : Hid (goal = (acc, none)) := Lib.hid hG.out.gone
        have hF := Lib.hid (And.intro hR.out (hK0.out.trans hK.out))
        clear hG hR hK hcl
        go_wp2
        go_ret
        exact ⟨_, rfl, by rw [hE.out]; exact own_low hO.out hsz1, by rw [hE.out]; exact hF.out.1, hF.out.2⟩
      | some y =>
        obtain rfl : sh = false := by
          obtain ⟨l, f⟩ := y
          obtain ⟨A2, b2, o2, c2, h2, _⟩ := hR.out
          rw [h2] at hcl
          injection hcl with hcl
          injection hcl with hcl
          simp at hcl
          exact hcl.2.1
        obtain ⟨m, hm⟩ : ∃ m, n - k = m + 1 := ⟨n - k - 1, by omega⟩
        have hG2 := hG.out
        rw [hm] at hG2
        have hG3 := Lib.hid hG2.step
        have hm' := Lib.hid hm
        have cT := rText_any wr rb (some y) hR.out
        obtain ⟨y1, hy1⟩ : ∃ z, (txtS (some y)).1 = z := ⟨_, rfl⟩
        obtain ⟨s2, hs2⟩ : ∃ x, (txtS (some y)).2 = x := ⟨_, rfl⟩
        rw [hy1, hs2] at cT hG3
        unfold sv at cT
        clear hG hG2 hR hm hcl hy1 hs2
        go_wp2_with fail
        go_at_call 49
        refine cT.mono ?_
        rintro e w2 ⟨rfl, hR2, hK2⟩
        have hO2 : w2.ownsRow w1.heap.size 9 1 (.slice ao acc.length ac) acc.length (acc.flatMap encS) := ownsRow_heap hO.out fun g hg => hK2.block g (World.ownsRow.lt hO.out g hg).2 (by have := (World.ownsRow.lt hO.out g hg).1; simp; omega)
        have hO2' := Lib.hid hO2
        have hR2' := Lib.hid hR2
        have hK2' := Lib.hid (hK.out.trans hK2)
        have hlen : (acc.length + 1) * 16 ≤ 140737488355328 := by have := hak'.out; omega
        have hmax : acc.length + 1 ≤ maxLen := by unfold maxLen; have := hak'.out; omega
        have hbase : w1.heap.size ≤ w2.heap.size := hK2'.out.size
        clear hR2 hK2 hO2 cT c1 hO hK
        go_wp2_with (first
          | (at_builtin; refine append_el (enc := encS) (size := 1) (bytes := 16) (et := 9) (st := 25) (z := .string ⟨#[]⟩) Try.underlying25 infoStr rfl (fun _ => rfl) (fun x u hu => by simp [encS, sv] at hu; rw [hu]; rfl) (by decide) (y1) rfl rfl _ _ rfl w1.heap.size (.slice ao acc.length ac) acc _ rfl rfl rfl hO2'.out hlen hmax hbase ?_; intro g cap w3 hw3; have hW3 := Lib.hid hw3)
          | fail)
        have hkp := hW3.out.kp
        have hown := Lib.hid hW3.out.own
        have hnb : ∀ i, i < w1.heap.size → w3.heap[i]? = w2.heap[i]? := fun i hi => hkp.block i (by omega) (fun hm => by have := (World.ownsRow.lt hO2'.out i (by simpa using hm)).1; omega)
        have hR3 : Hid (RdIs w3 rb s2) := Lib.hid (hR2'.out.frame fun i hi => hnb i (by omega))
        have hK3 : Hid (Kp [rb] w1 w3) := Lib.hid (hK2'.out.then hkp fun x hx => .inr (World.ownsRow.lt hO2'.out x (by simpa using hx)).1)
        have hal : (acc ++ [y1]).length = acc.length + 1 := by simp
        have hal' := Lib.hid hal
        clear hw3 hkp hnb hal
        go_wp2
        go_roundw
        case rel => exact ⟨k + 1, acc ++ [y1], s2, some ⟨g, 0, none⟩, cap, by go_num, by rw [hal'.out], by omega, by rw [hal'.out, hak'.out], Lib.hid (by rw [show n - (k + 1) = m by have := hm'.out; omega]; exact hG3.out), hR3, hK3, Lib.hid (by have := hown.out; rw [hal'.out] at this ⊢; exact this)⟩
        case measure => simp [RowKit.intOf]; omega
    · have hE : Hid (goal = (acc, sr)) := Lib.hid (by have h1 := hG.out; rw [show n - k = 0 by omega] at h1; exact h1.fin)
      have hF := Lib.hid (And.intro hR.out (hK0.out.trans hK.out))
      clear hG hR hK
      go_wp2
      go_ret
      exact ⟨_, rfl, by rw [hE.out]; exact own_low hO.out hsz1, by rw [hE.out]; exact hF.out.1, hF.out.2⟩

set_option maxHeartbeats 8000000 in
set_option maxRecDepth 100000 in
theorem listedInt_any (w : World) (rb : Nat) (s : St) (h : RdIs w rb s) (hsz : szS s ≤ 1099511627776) :
    Calls Try.prog 53 #[rr rb, .func (.func 48) #[rr rb] #[]] w fun e w' => ∃ v, e = .returned v ∧ w'.ownsRow w.heap.size 3 1 v (rowS intS s).1.length ((rowS intS s).1.flatMap encI) ∧ RdIs w' rb (rowS intS s).2 ∧ Kp [rb] w w' := by
  have cC := rCount_any w rb s h
  have hrl := h.lt
  obtain ⟨hc1, hc2⟩ := sz_cnt s
  obtain ⟨goal, hgoal⟩ : ∃ g, rowS intS s = g := ⟨_, rfl⟩
  have hg0 : lstS intS (cntS s).1 (cntS s).2 = goal := hgoal
  rw [hgoal]
  obtain ⟨n, hn⟩ : ∃ n, (cntS s).1 = n := ⟨_, rfl⟩
  obtain ⟨s1, hs1⟩ : ∃ x, (cntS s).2 = x := ⟨_, rfl⟩
  rw [hn, hs1] at cC hg0
  rw [hn, hs1] at hc1
  rw [hs1] at hc2
  have hnl : n ≤ 1099511627776 := by omega
  clear hgoal hn hs1 hc1 hc2 hsz h
  go_enter Try.func53, Try.ntmps53
  go_wp2_with fail
  go_at_call 63
  refine cC.mono ?_
  rintro e w1 ⟨rfl, hR, hK⟩
  have hG0 : Hid (Going intS goal [] n s1) := Lib.hid (by unfold Cd.Going; rw [hg0]; rfl)
  have hR0 := Lib.hid hR
  have hK0 := Lib.hid hK
  have hsz1 := hK.size
  have hN0 : Hid (w1.ownsRow w1.heap.size 3 1 (.slice none 0 0) ([] : List Int).length (([] : List Int).flatMap encI)) := Lib.hid (World.ownsRow_nil w1 _ _ _)
  clear cC hR hK hg0
  go_wp2
  go_loopw [5, 8] (fun s5 s8 wr => ∃ (k : Nat) (acc : List Int) (sr : St) (ao : Option Addr) (ac : Nat), s8 = .int .i64 (k : Int) ∧ s5 = .slice ao acc.length ac ∧ k ≤ n ∧ acc.length = k ∧ Hid (Going intS goal acc (n - k) sr) ∧ Hid (RdIs wr rb sr) ∧ Hid (Kp [rb] w1 wr) ∧ Hid (wr.ownsRow w1.heap.size 3 1 (.slice ao acc.length ac) acc.length (acc.flatMap encI))) (fun _ s8 _ => n - (RowKit.intOf s8).toNat)
  case atStart => exact ⟨0, [], s1, none, 0, by rfl, by rfl, Nat.zero_le _, rfl, hG0, hR0, Lib.hid (Kp.refl _ _), hN0⟩
  case round =>
    obtain ⟨k, acc, sr, ao, ac, rfl, rfl, hk, hak, hG, hR, hK, hO⟩ := hrel
    have hak' := Lib.hid hak
    clear hak
    have hrlt : rb < wr.heap.size := hR.out.lt
    by_cases hlt : k < n
    · obtain ⟨A, q, c, sh, fm, hcl⟩ := hR.out.cells
      have c1 := Lib.cell_of_heap hcl 1
      cases sr with
      | none =>
        obtain rfl : sh = true := by
          obtain ⟨f2, h2⟩ := hR.out
          rw [h2] at hcl
          injection hcl with hcl
          injection hcl with hcl
          simp at hcl
          exact hcl.2.1
        have hE : Hid (goal = (acc, none)) := Lib.hid hG.out.gone
        have hF := Lib.hid (And.intro hR.out (hK0.out.trans hK.out))
        clear hG hR hK hcl
        go_wp2
        go_ret
        exact ⟨_, rfl, by rw [hE.out]; exact own_low hO.out hsz1, by rw [hE.out]; exact hF.out.1, hF.out.2⟩
      | some y =>
        obtain rfl : sh = false := by
          obtain ⟨l, f⟩ := y
          obtain ⟨A2, b2, o2, c2, h2, _⟩ := hR.out
          rw [h2] at hcl
          injection hcl with hcl
          injection hcl with hcl
          simp at hcl
          exact hcl.2.1
        obtain ⟨m, hm⟩ : ∃ m, n - k = m + 1 := ⟨n - k - 1, by omega⟩
        have hG2 := hG.out
        rw [hm] at hG2
        have hG3 := Lib.hid hG2.step
        have hm' := Lib.hid hm
        have cT := rWhole_any wr rb (some y) hR.out
        obtain ⟨y1, hy1⟩ : ∃ z, (intS (some y)).1 = z := ⟨_, rfl⟩
        obtain ⟨s2, hs2⟩ : ∃ x, (intS (some y)).2 = x := ⟨_, rfl⟩
        rw [hy1, hs2] at cT hG3
        clear hG hG2 hR hm hcl hy1 hs2
        go_wp2_with fail
        go_at_call 48
        refine cT.mono ?_
        rintro e w2 ⟨rfl, hR2, hK2⟩
        have hO2 : w2.ownsRow w1.heap.size 3 1 (.slice ao acc.length ac) acc.length (acc.flatMap encI) := ownsRow_heap hO.out fun g hg => hK2.block g (World.ownsRow.lt hO.out g hg).2 (by have := (World.ownsRow.lt hO.out g hg).1; simp; omega)
        have hO2' := Lib.hid hO2
        have hR2' := Lib.hid hR2
        have hK2' := Lib.hid (hK.out.trans hK2)
        have hlen : (acc.length + 1) * 8 ≤ 140737488355328 := by have := hak'.out; omega
        have hmax : acc.length + 1 ≤ maxLen := by unfold maxLen; have := hak'.out; omega
        have hbase : w1.heap.size ≤ w2.heap.size := hK2'.out.size
        clear hR2 hK2 hO2 cT c1 hO hK
        go_wp2_with (first
          | (at_builtin; refine append_el (enc := encI) (size := 1) (bytes := 8) (et := 3) (st := 37) (z := .int .i64 0) Try.underlying37 infoInt rfl (fun _ => rfl) (fun x u hu => by simp [encI] at hu; rw [hu]; rfl) (by decide) (y1) rfl rfl _ _ rfl w1.heap.size (.slice ao acc.length ac) acc _ rfl rfl rfl hO2'.out hlen hmax hbase ?_; intro g cap w3 hw3; have hW3 := Lib.hid hw3)
          | fail)
        have hkp := hW3.out.kp
        have hown := Lib.hid hW3.out.own
        have hnb : ∀ i, i < w1.heap.size → w3.heap[i]? = w2.heap[i]? := fun i hi => hkp.block i (by omega) (fun hm => by have := (World.ownsRow.lt hO2'.out i (by simpa using hm)).1; omega)
        have hR3 : Hid (RdIs w3 rb s2) := Lib.hid (hR2'.out.frame fun i hi => hnb i (by omega))
        have hK3 : Hid (Kp [rb] w1 w3) := Lib.hid (hK2'.out.then hkp fun x hx => .inr (World.ownsRow.lt hO2'.out x (by simpa using hx)).1)
        have hal : (acc ++ [y1]).length = acc.length + 1 := by simp
        have hal' := Lib.hid hal
        clear hw3 hkp hnb hal
        go_wp2
        go_roundw
        case rel => exact ⟨k + 1, acc ++ [y1], s2, some ⟨g, 0, none⟩, cap, by go_num, by rw [hal'.out], by omega, by rw [hal'.out, hak'.out], Lib.hid (by rw [show n - (k + 1) = m by have := hm'.out; omega]; exact hG3.out), hR3, hK3, Lib.hid (by have := hown.out; rw [hal'.out] at this ⊢; exact this)⟩
        case measure => simp [RowKit.intOf]; omega
    · have hE : Hid (goal = (acc, sr)) := Lib.hid (by have h1 := hG.out; rw [show n - k = 0 by omega] at h1; exact h1.fin)
      have hF := Lib.hid (And.intro hR.out (hK0.out.trans hK.out))
      clear hG hR hK
      go_wp2
      go_ret
      exact ⟨_, rfl, by rw [hE.out]; exact own_low hO.out hsz1, by rw [hE.out]; exact hF.out.1, hF.out.2⟩
end Go.Proofs.Ytpngbfmbjldieaa.Ly
