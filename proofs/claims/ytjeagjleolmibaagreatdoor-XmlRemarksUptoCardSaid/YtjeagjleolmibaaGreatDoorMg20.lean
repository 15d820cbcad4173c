import Derived.Test.YtjeagjleolmibaaGreatDoorMg17
import Derived.Test.YtjeagjleolmibaaGreatDoorMg19
import Derived.Test.YtjeagjleolmibaaGreatDoorMg16
import Derived.Test.YtjeagjleolmibaaGreatDoorMg5
import Derived.Lib.Hide
import Derived.Test.YtjeagjleolmibaaGreatDoorCards
import Derived.Test.YtjeagjleolmibaaGreatDoorTie
import Derived.Test.YtjeagjleolmibaaGreatDoorMg7
import Derived.PinnedBridge
import Derived.Lib.LaidIn
import Derived.Lib.LaidU8T
import Derived.Deep.DeepHandedRow
import Derived.Deep.DeepWitnessRowRef
import Derived.ProofKit
import Derived.OpenShut
import Derived.SizedLaws
import Derived.Shelf.LaysM
import Derived.ChangeSame
import Derived.ChangeSlices
import Derived.Deep.Slices
import Derived.Deep.Fields
import Derived.Lib.SmallJoins
import Derived.Carry
import Derived.Test.YtjeagjleolmibaaGreatDoorMg3
import Derived.Test.YtjeagjleolmibaaGreatDoorMg14

/-
  WALKS OF THE PROGRAM's Print OF LAYER xml: fullName, written.
-/
set_option linter.unusedVariables false
namespace Go.Proofs.YtjeagjleolmibaaGreatDoor.Xm
open Go.Lib Go.RowKit

set_option maxHeartbeats 2000000 in
set_option maxRecDepth 100000 in
theorem outName_any (k sp : Int) (n t y : ByteArray) (w : World) (hy : (sp = 0 ∧ y = n) ∨ (sp = 1 ∧ (⟨#[68, 58]⟩ : ByteArray) ++ n = y) ∨ (sp = 2 ∧ (⟨#[67, 58]⟩ : ByteArray) ++ n = y)) (hn : n.size ≤ 64) :
    Calls Tryz.prog 36 #[.agg #[.int .i64 k, .int .i64 sp, .string n, .string t]] w fun e w' => e = .returned (.string y) ∧ Below w.heap.size w w' := by
  rcases hy with ⟨rfl, rfl⟩ | ⟨rfl, hy⟩ | ⟨rfl, hy⟩
  all_goals
    go_enter Tryz.func36, Tryz.ntmps36
    go_wp2
    go_ret
    exact ⟨rfl, (Below.refl _ _).alloc (Nat.le_refl _) _⟩
/-- what is written for the piece k -/
def chunkAt (ps : List Pc) (k : Nat) (p : Pc) : Row := chunk (decide (k = 0)) (was1 ps k) p (ps.drop (k + 1))
set_option maxHeartbeats 4000000 in
set_option maxRecDepth 100000 in
theorem written_any (b off n c : Nat) (ps : List Pc) (k : Nat) (p : Pc) (w : World) (hn : ps.length = n) (hP : ∀ (j : Nat) (q : Pc), ps[j]? = some q → PcCells w b (off + j * 4) q) (hb : b < w.heap.size) (hk : ps[k]? = some p) (hr : right ps = true) (hc : n ≤ c) (hc2 : c ≤ 9223372036854775807) (ht : p.text.length ≤ 68719476736) :
    Calls Tryz.prog 23 #[.slice (some ⟨b, off, none⟩) n c, .int .i64 (k : Int)] w fun e w' => e = .returned (.string ⟨(chunkAt ps k p).toArray⟩) ∧ Below w.heap.size w w' := by
  have hkn : k < n := by rw [← hn]; exact (List.getElem?_eq_some_iff.1 hk).1
  have hat := rgt_at ps true false [] hr k p hk
  have hch : chunk (decide (k = 0)) (was1 ps k) p (ps.drop (k + 1)) = chunkAt ps k p := rfl
  obtain ⟨R, hR⟩ : ∃ R : ByteArray, (⟨(chunkAt ps k p).toArray⟩ : ByteArray) = R := ⟨_, rfl⟩
  rw [hR]
  have hR' := Lib.hid hR
  obtain ⟨a1, a2, d1, d2, p0, p1, p2, p3⟩ := PcsAt.piece hP hb (Below.refl _ _) hk
  obtain ⟨kd, hkd⟩ : ∃ kd, p.kind = kd := ⟨_, rfl⟩
  obtain ⟨sp, hsp⟩ : ∃ sp, p.space = sp := ⟨_, rfl⟩
  rw [hkd] at p0
  rw [hsp] at p1
  have hP' := Lib.hid hP
  have hch' := Lib.hid hch
  have hal : Hid (Below w.heap.size w (w.alloc (.cells #[.int .i64 kd, .int .i64 sp, .string a1, .string a2] 37))) := Lib.hid ((Below.refl _ _).alloc (Nat.le_refl _) _)
  clear hP hch hR
  rcases hat with ⟨h1, h2, q, h3⟩ | ⟨h1, h2, h3⟩ | ⟨h1, h2⟩
  · have hk1 : kd = 1 := by rw [← hkd]; exact h1
    subst hk1
    have hnb : nameB p.name = true ∧ (0 ≤ p.space ∧ p.space ≤ 2) := ⟨(tag_eq h1 h2).2.2, (tag_eq h1 h2).2.1⟩
    have hn64 : a1.size ≤ 64 := by rw [Lib.size_eq, d1]; exact nameB_len hnb.1
    obtain ⟨y, hy, hyd, hyl⟩ := name_vals p a1 sp d1 hsp (by rw [← hsp]; exact hnb.2) hn64
    have cN := fun W => outName_any 1 sp a1 a2 y W hy hn64
    obtain ⟨nk, hnk⟩ : ∃ nk, q.kind = nk := ⟨_, rfl⟩
    have hq1 : w.cell? ⟨b, off + (k + 1) * 4, none⟩ = some (.int .i64 nk) := by rw [← hnk]; exact (hP'.out (k + 1) q h3).1
    have hcq : Hid (∀ W, Below w.heap.size w W → W.cell? ⟨b, off + (k + 1) * 4, none⟩ = some (.int .i64 nk)) := Lib.hid fun W hW => (hW.cell (p := ⟨b, off + (k + 1) * 4, none⟩) hb).trans hq1
    have hk1n : k + 1 < n := by rw [← hn]; exact (List.getElem?_eq_some_iff.1 h3).1
    have hRd : R.data.toList = 60 :: (nm p ++ (if decide (k = 0) = true then declS else []) ++ (if decide (nk = 2) = true then [47, 62] else [62])) := by
      rw [← hR'.out, ← hch'.out, chunk_o (by rw [h1]; decide), chunk_open h1 (okTag_text h2), next_at h3, hnk]
    obtain ⟨K, hK⟩ : ∃ K, k + 1 = K := ⟨_, rfl⟩
    have hKi : (k : Int) + 1 = (K : Int) := by omega
    rw [hK] at hcq hk1n
    obtain ⟨T1, hT1⟩ : ∃ T1, (⟨#[60]⟩ : ByteArray) ++ y = T1 := ⟨_, rfl⟩
    have l1 : T1.size ≤ 67 := by rw [cat_size hT1, show (⟨#[60]⟩ : ByteArray).size = 1 from rfl]; omega
    have e1 := cat_data hT1
    rw [hyd] at e1
    obtain ⟨T2, hT2⟩ : ∃ T2, T1 ++ (⟨#[32, 120, 109, 108, 110, 115, 58, 68, 61, 34, 68, 65, 86, 58, 34, 32, 120, 109, 108, 110, 115, 58, 67, 61, 34, 117, 114, 110, 58, 105, 101, 116, 102, 58, 112, 97, 114, 97, 109, 115, 58, 120, 109, 108, 58, 110, 115, 58, 99, 97, 114, 100, 100, 97, 118, 34]⟩ : ByteArray) = T2 := ⟨_, rfl⟩
    have l2 : T2.size ≤ 123 := by rw [cat_size hT2, show (⟨#[32, 120, 109, 108, 110, 115, 58, 68, 61, 34, 68, 65, 86, 58, 34, 32, 120, 109, 108, 110, 115, 58, 67, 61, 34, 117, 114, 110, 58, 105, 101, 116, 102, 58, 112, 97, 114, 97, 109, 115, 58, 120, 109, 108, 58, 110, 115, 58, 99, 97, 114, 100, 100, 97, 118, 34]⟩ : ByteArray).size = 56 from rfl]; omega
    have e2 := cat_data hT2
    have hK' := Lib.hid hK
    have hrw : R = (if k = 0 then T2 else T1) ++ (if nk = 2 then (⟨#[47, 62]⟩ : ByteArray) else ⟨#[62]⟩) := by
      refine data_is ?_
      rw [hRd, ByteArray.data_append, Array.toList_append]
      by_cases hk0 : k = 0 <;> by_cases hn2 : nk = 2 <;> simp [hk0, hn2, e1, e2] <;> rfl
    have hDD := Lib.hid (fun (W : World) => (show (Op.stringOp .add T1 ⟨#[32, 120, 109, 108, 110, 115, 58, 68, 61, 34, 68, 65, 86, 58, 34, 32, 120, 109, 108, 110, 115, 58, 67, 61, 34, 117, 114, 110, 58, 105, 101, 116, 102, 58, 112, 97, 114, 97, 109, 115, 58, 120, 109, 108, 58, 110, 115, 58, 99, 97, 114, 100, 100, 97, 118, 34]⟩).run Tryz.prog W = .ok (.string T2) W from by rw [← hT2]; exact run_string_add_sum W _ _ (by rw [show (⟨#[32, 120, 109, 108, 110, 115, 58, 68, 61, 34, 68, 65, 86, 58, 34, 32, 120, 109, 108, 110, 115, 58, 67, 61, 34, 117, 114, 110, 58, 105, 101, 116, 102, 58, 112, 97, 114, 97, 109, 115, 58, 120, 109, 108, 58, 110, 115, 58, 99, 97, 114, 100, 100, 97, 118, 34]⟩ : ByteArray).size = 56 from rfl]; omega)))
    clear hRd e1 e2 hT2 d1 d2 hkd hsp h1 h2 hk hr hyd hy hq1 hnk hK hnb
    have hsplit : ∃ (Kb Nb : Bool), ((k : Int) == 0) = Kb ∧ (k == 0) = Kb ∧ (nk == 2) = Nb ∧ R = (if Kb = true then T2 else T1) ++ (if Nb = true then (⟨#[47, 62]⟩ : ByteArray) else ⟨#[62]⟩) := by
      refine ⟨decide (k = 0), decide (nk = 2), ?_, ?_, ?_, ?_⟩
      · rw [Bool.eq_iff_iff, beq_iff_eq, decide_eq_true_iff]; omega
      · rw [Bool.eq_iff_iff, beq_iff_eq, decide_eq_true_iff]
      · rw [Bool.eq_iff_iff, beq_iff_eq, decide_eq_true_iff]
      · rw [hrw]
        by_cases hk0 : k = 0 <;> by_cases hn2 : nk = 2 <;> simp [hk0, hn2]
    clear hrw
    obtain ⟨Kb, Nb, s1, s2, s3, hrw⟩ := hsplit
    have hkn' : (k : Int) < (n : Int) := by omega
    have hKn' : (K : Int) < (n : Int) := by omega
    have hK0 : (0 : Int) ≤ (K : Int) := by omega
    cases Kb with
    | false =>
      clear hDD
      rw [if_neg (by decide)] at hrw
      cases Nb
      all_goals
        replace hrw := hrw.symm
        first | rw [if_neg (by decide)] at hrw | rw [if_pos rfl] at hrw
        go_enter Tryz.func23, Tryz.ntmps23
        go_wp2_with fail
        go_at_call 36
        refine (cN _).mono ?_
        rintro e w2 ⟨rfl, hb2⟩
        have hb2' := Lib.hid (hal.out.trans (hb2.mono hal.out.size))
        have hc2' := hcq.out w2 hb2'.out
        clear cN hb2
        go_wp2
        go_ret
        exact ⟨rfl, hb2'.out⟩
    | true =>
      have hD2 := hDD.out
      rw [if_pos rfl] at hrw
      cases Nb
      all_goals
        replace hrw := hrw.symm
        first | rw [if_neg (by decide)] at hrw | rw [if_pos rfl] at hrw
        go_enter Tryz.func23, Tryz.ntmps23
        go_wp2_with fail
        go_at_call 36
        refine (cN _).mono ?_
        rintro e w2 ⟨rfl, hb2⟩
        have hb2' := Lib.hid (hal.out.trans (hb2.mono hal.out.size))
        have hc2' := hcq.out w2 hb2'.out
        clear cN hb2
        go_wp2
        go_ret
        exact ⟨rfl, hb2'.out⟩
  · have hk2 : kd = 2 := by rw [← hkd]; exact h1
    subst hk2
    have hnb : nameB p.name = true ∧ (0 ≤ p.space ∧ p.space ≤ 2) := ⟨(tag_eq h1 h2).2.2, (tag_eq h1 h2).2.1⟩
    have hn64 : a1.size ≤ 64 := by rw [Lib.size_eq, d1]; exact nameB_len hnb.1
    obtain ⟨y, hy, hyd, hyl⟩ := name_vals p a1 sp d1 hsp (by rw [← hsp]; exact hnb.2) hn64
    have cN := fun W => outName_any 2 sp a1 a2 y W hy hn64
    have hkp : 0 < k := by
      rcases Nat.eq_zero_or_pos k with h | h
      · exact absurd rfl (h3 h)
      · exact h
    obtain ⟨K, hK⟩ : ∃ K, k - 1 = K := ⟨_, rfl⟩
    have hq : ps[K]? = some (ps[K]'(by omega)) := List.getElem?_eq_getElem _
    obtain ⟨q, hqe⟩ : ∃ q, ps[K]'(by omega) = q := ⟨_, rfl⟩
    rw [hqe] at hq
    obtain ⟨nk, hnk⟩ : ∃ nk, q.kind = nk := ⟨_, rfl⟩
    have hq1 : w.cell? ⟨b, off + K * 4, none⟩ = some (.int .i64 nk) := by rw [← hnk]; exact (hP'.out K q hq).1
    have hcq : Hid (∀ W, Below w.heap.size w W → W.cell? ⟨b, off + K * 4, none⟩ = some (.int .i64 nk)) := Lib.hid fun W hW => (hW.cell (p := ⟨b, off + K * 4, none⟩) hb).trans hq1
    have hw1 : was1 ps k = decide (nk = 1) := by rw [← hnk]; exact was1_at hkp (by rw [hK]; exact hq)
    have hKi : (k : Int) - 1 = (K : Int) := by omega
    have hK0 : (0 : Int) ≤ (K : Int) := by omega
    have hKn' : (K : Int) < (n : Int) := by omega
    have hRd : R.data.toList = (if decide (nk = 1) = true then [] else 60 :: 47 :: (nm p ++ [62])) := by
      rw [← hR'.out, ← hch'.out, decide_eq_false (by omega), hw1]
      cases decide (nk = 1) with
      | true => rw [chunk_shut h1 (okTag_text h2)]; rfl
      | false => rw [chunk_close h1 (okTag_text h2)]; rfl
    by_cases hn1 : nk = 1
    · subst hn1
      have hRe : R = ⟨#[]⟩ := data_is (by rw [hRd]; rfl)
      subst hRe
      clear hRd cN hy hyd d1 d2 hkd hsp h1 h2 h3 hk hr hnb hqe hq hnk hw1 hK
      go_enter Tryz.func23, Tryz.ntmps23
      go_wp2
      go_ret
      exact ⟨rfl, hal.out⟩
    · have s3 : (nk == 1) = false := beq_eq_false_iff_ne.2 hn1
      obtain ⟨T1, hT1⟩ : ∃ T1, (⟨#[60, 47]⟩ : ByteArray) ++ y = T1 := ⟨_, rfl⟩
      have l1 : T1.size ≤ 68 := by rw [cat_size hT1, show (⟨#[60, 47]⟩ : ByteArray).size = 2 from rfl]; omega
      have e1 := cat_data hT1
      rw [hyd] at e1
      have hrw : T1 ++ (⟨#[62]⟩ : ByteArray) = R := by
        refine data_is ?_
        rw [hRd, decide_eq_false hn1, ByteArray.data_append, Array.toList_append, e1]
        rfl
      clear hRd e1 hy hyd d1 d2 hkd hsp h1 h2 h3 hk hr hnb hqe hq hnk hw1 hK hn1
      go_enter Tryz.func23, Tryz.ntmps23
      go_wp2_with fail
      go_at_call 36
      refine (cN _).mono ?_
      rintro e w2 ⟨rfl, hb2⟩
      have hb2' := Lib.hid (hal.out.trans (hb2.mono hal.out.size))
      clear cN hb2
      go_wp2
      go_ret
      exact ⟨rfl, hb2'.out⟩
  · have hk3 : kd = 3 := by rw [← hkd]; exact h1
    subst hk3
    have cE := escape_any a2
    have hRe : R = ⟨(escT a2.data.toList).toArray⟩ := by
      rw [← hR'.out, ← hch'.out, chunk_chars hkd, d2]
    rw [hRe]
    have ht2 : a2.size ≤ 68719476736 := by rw [Lib.size_eq, d2]; exact ht
    clear hRe d1 d2 hkd hsp h1 h2 hk hr
    go_enter Tryz.func23, Tryz.ntmps23
    go_wp2_with fail
    go_at_call 35
    refine (cE _ ht2).mono ?_
    rintro e w2 ⟨rfl, hb2⟩
    have hb2' := Lib.hid (hal.out.trans (hb2.mono hal.out.size))
    clear cE hb2
    go_wp2
    go_ret
    exact ⟨rfl, hb2'.out⟩
end Go.Proofs.YtjeagjleolmibaaGreatDoor.Xm

/-
  WALKS OF strings.Builder AT THIS DUMP (its copyCheck holds a statement that the loader refuses, on a way that no builder of the call's own takes): copyCheck, WriteString, WriteByte, String, over a builder that the call made.
-/
set_option linter.unusedVariables false
namespace Go.Proofs.YtjeagjleolmibaaGreatDoor.Bu
open Go.Lib Go.RowKit Go.Shelf

/-- a builder of the call's own, in block b, that holds the bytes l; the call's own blocks begin at B -/
def Bd (B b : Nat) (l : List UInt8) (w : World) : Prop := IsBuilderF 51 5 B b (byteCells l) w

theorem sizeB : (Tryz.prog.info? 51).map (·.size) = some 2 := by kernel_rfl
theorem liesB : liesAt Tryz.prog Tryz.prog.depth 51 (2 / Tryz.prog.cellsOf 51) 0 51 1 = true := by kernel_rfl
theorem infoU8 : (Tryz.prog.info? 5).map (fun i => (i.zero, i.size, i.bytes)) = some (some (.int .u8 0), 1, 1) := by kernel_rfl

theorem fresh (w : World) : Bd w.heap.size w.heap.size [] (w.alloc (.cells #[.pointer none, .slice none 0 0] 51)) := IsBuilderF.of (fresh_isBuilder _ _ w)
theorem Bd.kept {B b : Nat} {l : List UInt8} {w w' : World} (h : Bd B b l w) (hb : Below w.heap.size w w') : Bd B b l w' := by
  have main : ∀ p, BuilderAtF 51 5 B b p (byteCells l) w → BuilderAtF 51 5 B b p (byteCells l) w' := by
    rintro p ⟨h1, v, h2, h3, h4⟩
    refine ⟨h1, v, ?_, ?_, h4⟩
    · rw [hb.block b (Array.getElem?_eq_some_iff.1 h2).1]; exact h2
    · refine ⟨h3.1, ?_⟩
      rcases h3.2 with h | ⟨g, cap, cur, fz, e1, e2, e3, e4⟩
      · exact .inl h
      · exact .inr ⟨g, cap, cur, fz, e1, e2, by rw [hb.block g (Array.getElem?_eq_some_iff.1 e3).1]; exact e3, e4⟩
  exact h.elim (fun x => .inl (main _ x)) (fun x => .inr (main _ x))
theorem Bd.drew {B b : Nat} {l : List UInt8} {w : World} (h : Bd B b l w) : Bd B b l w.drew := h
theorem Bd.lt {B b : Nat} {l : List UInt8} {w : World} (h : Bd B b l w) : B ≤ b ∧ b < w.heap.size := by
  rcases h with ⟨h1, v, h2, _⟩ | ⟨h1, v, h2, _⟩ <;> exact ⟨h1, (Array.getElem?_eq_some_iff.1 h2).1⟩

/-- what is of another type than a builder's blocks is left -/
def KeptT (w w' : World) : Prop := ∀ (k : Nat) (cs : Array Value) (t : TypeId) (fr : Nat × Nat), w.heap[k]? = some (.cells cs t fr) → t ≠ 51 → t ≠ 5 → w'.heap[k]? = some (.cells cs t fr)
theorem KeptT.refl (w : World) : KeptT w w := fun _ _ _ _ h _ _ => h
theorem KeptT.trans {a b c : World} (h : KeptT a b) (k : KeptT b c) : KeptT a c := fun i cs t fr hi h1 h2 => k i cs t fr (h i cs t fr hi h1 h2) h1 h2
theorem KeptT.of_below {w w' : World} (h : Below w.heap.size w w') : KeptT w w' := fun i cs t fr hi _ _ => (h.block i (Array.getElem?_eq_some_iff.1 hi).1).trans hi
theorem KeptT.setCell {w : World} {b : Nat} {cs : Array Value} {fr : Nat × Nat} (hb : w.heap[b]? = some (.cells cs 51 fr)) (o : Nat) (u : Value) : KeptT w (w.setCell ⟨b, o, none⟩ u) := fun i cs' t fr' hi h1 _ => by
  rw [Below.heap_setCell w ⟨b, o, none⟩ u i (fun e => by
    have e : i = b := e
    subst e
    rw [hb] at hi
    injection hi with hi
    injection hi with _ ht
    exact h1 ht.symm)]
  exact hi
theorem KeptT.grown {w w' : World} {B : Nat} {size n : Nat} {v : Value} {xs : List Value} (h : w.ownsRowF B 5 size v n xs) (hg : w.grownBy w' v.ownBlock) : KeptT w w' := fun i cs t fr hi _ h2 => by
  rw [hg.block i (Array.getElem?_eq_some_iff.1 hi).1 (fun e => by
    rcases h.2 with ⟨hv, _⟩ | ⟨g, cap, cur, fz, hv, _, hh, _⟩
    · rw [hv] at e; cases e
    · rw [hv] at e
      have e : i = g := by simpa [Value.ownBlock] using e
      subst e
      rw [hi] at hh
      injection hh with hh
      injection hh with _ ht
      exact h2 ht)]
  exact hi

set_option maxHeartbeats 1000000 in
set_option maxRecDepth 100000 in
theorem check_new (b : Nat) (w : World) (h0 : w.cell? ⟨b, 0, none⟩ = some (.pointer none)) (hsh : w.shape? b = some (51, 2)) (hfz : w.frozen? ⟨b, 0, none⟩ = false) :
    Calls Tryz.prog 34 #[.pointer (some ⟨b, 0, none⟩)] w fun e w' => e = .returned (.tuple #[]) ∧ w' = w.setCell ⟨b, 0, none⟩ (.pointer (some ⟨b, 0, none⟩)) := by
  obtain ⟨j, hj, hjs⟩ := Option.map_eq_some_iff.1 sizeB
  go_enter Tryz.func34, Tryz.ntmps34
  go_wp2
  rw [Lib.run_to_unsafe w ⟨b, 0, none⟩ Tryz.underlying48 Tryz.underlying74 hj (by rw [hjs]; decide) hsh (Nat.zero_lt_succ 1)]
  simp only [Result.andThen]
  rw [Oper.upon_value]
  go_wp2
  rw [run_callFunc_extern Tryz.func49 (by kernel_rfl) (by kernel_rfl) (by kernel_rfl) (e := Extern.AbiNoEscape.same) (by kernel_rfl)]
  rw [Lib.run_noEscape]
  simp only [Result.andThen]
  rw [Oper.upon_value]
  go_wp2
  rw [Lib.run_from_unsafe w ⟨b, 0, none⟩ Tryz.underlying74 Tryz.underlying48 hj hsh liesB]
  simp only [Result.andThen]
  rw [Oper.upon_value]
  go_wp2
  go_end0
  exact ⟨rfl, rfl⟩

set_option maxHeartbeats 1000000 in
set_option maxRecDepth 100000 in
theorem check_old (b : Nat) (w : World) (h0 : w.cell? ⟨b, 0, none⟩ = some (.pointer (some ⟨b, 0, none⟩))) :
    Calls Tryz.prog 34 #[.pointer (some ⟨b, 0, none⟩)] w fun e w' => e = .returned (.tuple #[]) ∧ w' = w := by
  obtain ⟨j, hj, hjs⟩ := Option.map_eq_some_iff.1 sizeB
  go_enter Tryz.func34, Tryz.ntmps34
  go_wp2
  rw [Lib.run_neq_ptr_same w _ Tryz.underlying48 hj]
  go_wp2
  go_end0
  exact ⟨rfl, rfl⟩

/-- behind copyCheck -/
theorem check_any (B b : Nat) (l : List UInt8) (w : World) (h : Bd B b l w) :
    Calls Tryz.prog 34 #[.pointer (some ⟨b, 0, none⟩)] w fun e w' => e = .returned (.tuple #[]) ∧ BuilderAtF 51 5 B b (.pointer (some ⟨b, 0, none⟩)) (byteCells l) w' ∧ Below B w w' ∧ KeptT w w' := by
  rcases h with h | h
  · refine (check_new b w h.cell0 h.shape h.frozen0).mono ?_
    rintro e w' ⟨rfl, rfl⟩
    obtain ⟨_, _, hbk, _⟩ := id h
    exact ⟨rfl, h.used _, (Below.refl B w).setCell (p := ⟨b, 0, none⟩) h.1 _, KeptT.setCell hbk 0 _⟩
  · refine (check_old b w h.cell0).mono ?_
    rintro e w' ⟨rfl, rfl⟩
    exact ⟨rfl, h, Below.refl B _, KeptT.refl _⟩

set_option maxHeartbeats 1000000 in
set_option maxRecDepth 100000 in
theorem write_full (B b : Nat) (l : List UInt8) (s : ByteArray) (w : World) (h : Bd B b l w) (hlen : l.length + s.size ≤ 140737488355328) (hBw : B ≤ w.heap.size) :
    Calls Tryz.prog 22 #[.pointer (some ⟨b, 0, none⟩), .string s] w fun e w' => e = .returned (.tuple #[.int .i64 s.size, .nilIface]) ∧ Bd B b (l ++ s.data.toList) w' ∧ Below B w w' ∧ KeptT w w' := by
  obtain ⟨i0, hi, hz0, hz1, hz2⟩ := info_parts infoU8
  rw [← Lib.byteCells_length l] at hlen
  go_enter Tryz.func22, Tryz.ntmps22
  go_wp2_with (go_at_call 34; refine (check_any B b l _ h).mono ?_)
  rintro e w1 ⟨rfl, h1, hb1, ht1⟩
  obtain ⟨hB, v, hbk, hown, hne⟩ := h1
  have c0 : w1.cell? ⟨b, 0, none⟩ = some (.pointer (some ⟨b, 0, none⟩)) := by rw [Lib.cell_of_heap hbk]; rfl
  have c1 : w1.cell? ⟨b, 1, none⟩ = some v := by rw [Lib.cell_of_heap hbk]; rfl
  go_wp2_with (at_builtin; refine Lib.wpList_append_own_stringF _ rfl _ _ 49 9 rfl B 5 i0 Tryz.underlying49 Tryz.underlying9 hi hz0 hz1 hz2 _ _ _ rfl hown s rfl ?c3 ?c4 ?c5 ?_)
  case c3 => unfold maxLen; omega
  case c4 => omega
  case c5 => have := hb1.size; omega
  intro v' w2 hown' hgrow _
  have hlt : b < w1.heap.size := (Array.getElem?_eq_some_iff.1 hbk).1
  have hb2 : w2.heap[b]? = some (.cells #[.pointer (some ⟨b, 0, none⟩), v] 51 (0, 0)) := by
    rw [hgrow.block b hlt (fun e => hne e.symm)]
    exact hbk
  have d0 : w2.cell? ⟨b, 0, none⟩ = some (.pointer (some ⟨b, 0, none⟩)) := by rw [Lib.cell_of_heap hb2]; rfl
  have d1 : w2.cell? ⟨b, 1, none⟩ = some v := by rw [Lib.cell_of_heap hb2]; rfl
  have f1 : w2.frozen? ⟨b, 1, none⟩ = false := Lib.frozen_of_heap hb2 1
  have ht2 : KeptT w w2 := ht1.trans (KeptT.grown hown hgrow)
  have hb2' := Lib.hid hb2
  have ht2' := Lib.hid ht2
  clear ht1 ht2
  obtain ⟨ao, n', cap, rfl⟩ : ∃ ao n' cap, v' = .slice ao n' cap := by
    rcases hown'.2 with ⟨hv, _⟩ | ⟨g, cap, cur, fz, hv, _⟩
    · exact ⟨_, _, _, hv⟩
    · exact ⟨_, _, _, hv⟩
  go_wp2
  go_ret2
  refine ⟨rfl, .inr ?_, ?_, ht2'.out.trans (KeptT.setCell hb2'.out 1 _)⟩
  · have e : byteCells (l ++ s.data.toList) = byteCells l ++ strCells s := by rw [byteCells_append]; rfl
    rw [e]
    exact Lib.BuilderAtF.put (T := 51) (e := 5) hB hb2 (bs' := byteCells l ++ strCells s) (by simpa [Lib.strCells_length] using hown') (by decide)
  · exact (hb1.grown hgrow (by have := hb1.size; omega) (fun k hk => (hown.lt k hk).1)).setCell (p := ⟨b, 1, none⟩) hB _

theorem write_any (B b : Nat) (l : List UInt8) (s : ByteArray) (w : World) (h : Bd B b l w) (hlen : l.length + s.size ≤ 140737488355328) (hBw : B ≤ w.heap.size) :
    Calls Tryz.prog 22 #[.pointer (some ⟨b, 0, none⟩), .string s] w fun e w' => e = .returned (.tuple #[.int .i64 s.size, .nilIface]) ∧ Bd B b (l ++ s.data.toList) w' ∧ Below B w w' :=
  (write_full B b l s w h hlen hBw).mono fun e w' ⟨h1, h2, h3, _⟩ => ⟨h1, h2, h3⟩


theorem text_any (B b : Nat) (l : List UInt8) (w : World) (h : Bd B b l w) (hBw : B ≤ w.heap.size) :
    Calls Tryz.prog 25 #[.pointer (some ⟨b, 0, none⟩)] w fun e w' => e = .returned (.string ⟨l.toArray⟩) ∧ Bd B b l w' ∧ Below B w w' :=
  (Tryz.Builder_String_any_f B b l w h hBw).mono fun e w' ⟨h1, h2, h3⟩ => ⟨h1, h2, h3⟩
end Go.Proofs.YtjeagjleolmibaaGreatDoor.Bu

/-
  THE WALK OF THE PROGRAM's Print OF LAYER xml.
-/
set_option linter.unusedVariables false
namespace Go.Proofs.YtjeagjleolmibaaGreatDoor.Xm
open Go.Lib Go.RowKit

theorem bd_less {B B' b : Nat} {l : List UInt8} {w : World} (h : Bu.Bd B b l w) (hb : B' ≤ B) : Bu.Bd B' b l w := by
  have main : ∀ p, BuilderAtF 51 5 B b p (byteCells l) w → BuilderAtF 51 5 B' b p (byteCells l) w := by
    rintro p ⟨h1, v, h2, h3, h4⟩
    refine ⟨Nat.le_trans hb h1, v, h2, ⟨h3.1, ?_⟩, h4⟩
    rcases h3.2 with h | ⟨g, cap, cur, fz, e1, e2, e3⟩
    · exact .inl h
    · exact .inr ⟨g, cap, cur, fz, e1, Nat.le_trans hb e2, e3⟩
  exact h.elim (fun x => .inl (main _ x)) (fun x => .inr (main _ x))
set_option maxHeartbeats 4000000 in
set_option maxRecDepth 100000 in
theorem print_any : PrintC := fun v ps w hv hsz hG => by
  have cK := check_any v ps w hv hsz hG
  obtain ⟨A, b, off, c, rfl, hc1, hc2, hA, hP⟩ := hv
  unfold maxLen at hc2
  cases hr : right ps with
  | false =>
    rw [hr, if_neg (by decide)] at cK
    have hfin : Hid (PrintP ps (.returned (.tuple #[.string ⟨#[]⟩, .int .i64 70]))) := Lib.hid (.inl ⟨hr, rfl⟩)
    clear hA hP hr
    go_enter Tryz.func10, Tryz.ntmps10
    go_wp2_with fail
    go_at_call 9
    refine cK.mono ?_
    rintro e w2 ⟨rfl, hb2⟩
    have hb2' := Lib.hid hb2
    clear cK hb2
    go_wp2
    go_ret2
    exact ⟨hfin.out, hb2'.out⟩
  | true =>
    rw [hr, if_pos rfl] at cK
    obtain ⟨n, hn⟩ : ∃ n, ps.length = n := ⟨_, rfl⟩
    obtain ⟨Z, hZ⟩ : ∃ Z, w.heap.size = Z := ⟨_, rfl⟩
    rw [hn] at hc1 hA cK ⊢
    have hn' := Lib.hid hn
    have hP' := Lib.hid hP
    have hA' := Lib.hid hA
    have hr' := Lib.hid hr
    have hsz' := Lib.hid hsz
    have hZ' := Lib.hid hZ
    have hlen : (prX ps).length ≤ 1099511627776 := by have := prX_len ps; unfold mostP at hsz; omega
    have hlen' := Lib.hid hlen
    clear hn hP hA hr hsz hZ hlen
    go_enter Tryz.func10, Tryz.ntmps10
    go_wp2_with fail
    go_at_call 9
    refine cK.mono ?_
    rintro e w2 ⟨rfl, hb2⟩
    rw [hZ'.out] at hb2
    have hZ2 : Z ≤ w2.heap.size := by have := hb2.size; rw [hZ'.out] at this; exact this
    have hb2' := Lib.hid hb2
    have hfr : Hid (Bu.Bd Z w2.heap.size [] (w2.alloc (.cells #[.pointer none, .slice none 0 0] 51))) := Lib.hid (bd_less (Bu.fresh w2) hZ2)
    have hb3 : Hid (Below Z w (w2.alloc (.cells #[.pointer none, .slice none 0 0] 51))) := Lib.hid (hb2.alloc hZ2 _)
    obtain ⟨t, ht⟩ : ∃ t, w2.heap.size = t := ⟨_, rfl⟩
    rw [ht] at hfr
    have hZt : Z ≤ t := by omega
    clear cK hb2
    go_wp2
    go_loopw [14] (fun s14 wr => ∃ k : Nat, s14 = .int .i64 (k : Int) ∧ k ≤ n ∧ Bu.Bd Z t (preX ps k) wr ∧ Below Z w wr) (fun s14 wr => n - (RowKit.intOf s14).toNat)
    case atStart => exact ⟨0, rfl, Nat.zero_le _, hfr.out, hb3.out⟩
    case round =>
      obtain ⟨k, rfl, hk, hbd, hbw⟩ := hrel
      have hZr : Z ≤ wr.heap.size := by have := hbw.size; rw [hZ'.out] at this; exact this
      have hbd' := Lib.hid hbd
      have hbw' := Lib.hid hbw
      by_cases hlt : k < n
      · have hp : ps[k]? = some (ps[k]'(by have := hn'.out; omega)) := List.getElem?_eq_getElem _
        obtain ⟨p, hPe⟩ : ∃ p, ps[k]'(by have := hn'.out; omega) = p := ⟨_, rfl⟩
        rw [hPe] at hp
        obtain ⟨rfl, hAb⟩ := hA'.out (by omega)
        have hbw2 : Below w.heap.size w wr := by rw [hZ'.out]; exact hbw
        have cW := written_any b off n c ps k p wr hn'.out (fun j q hj => (hP'.out j q hj).kept hAb hbw2) (Nat.lt_of_lt_of_le hAb hbw2.size) hp hr'.out hc1 (by omega) (by
          have h1 := szs_mem (List.mem_of_getElem? hp)
          have h2 := hsz'.out
          unfold szP at h1
          unfold mostP at h2
          omega)
        obtain ⟨T, hT⟩ : ∃ T : ByteArray, (⟨(chunkAt ps k p).toArray⟩ : ByteArray) = T := ⟨_, rfl⟩
        rw [hT] at cW
        have hpre : preX ps (k + 1) = preX ps k ++ T.data.toList := by rw [preX_succ hp, ← hT]; rfl
        have hTl : (preX ps k).length + T.size ≤ 140737488355328 := by
          have h1 := preX_le ps (k + 1)
          have h2 := hlen'.out
          rw [hpre, List.length_append, ← Lib.size_eq] at h1
          omega
        have hpre' := Lib.hid hpre
        have hTl' := Lib.hid hTl
        clear hPe hp hT hpre hTl hbd hbw hbw2
        go_wp2_with fail
        go_at_call 23
        refine cW.mono ?_
        rintro e w4 ⟨rfl, hb4⟩
        have hbd4 := hbd'.out.kept hb4
        have hbw4 := Lib.hid (hbw'.out.trans (hb4.mono hZr))
        have hZ4 : Z ≤ w4.heap.size := Nat.le_trans hZr hb4.size
        have cB := Bu.write_any Z t (preX ps k) T w4 hbd4 hTl'.out hZ4
        clear cW hb4 hbd4
        go_wp2_with fail
        go_at_call 22
        refine cB.mono ?_
        rintro e w5 ⟨rfl, hbd5, hb5⟩
        have hbd5' := Lib.hid hbd5
        have hb5' := Lib.hid (hbw4.out.trans hb5)
        clear cB hbd5 hb5
        go_wp2
        go_roundw
        case rel => exact ⟨k + 1, by go_num, by omega, by rw [hpre'.out]; exact hbd5'.out, hb5'.out⟩
        case measure => simp [RowKit.intOf]; omega
      · have hkn : k = ps.length := by have := hn'.out; omega
        rw [hkn, preX_all] at hbd
        have cL := Tryz.Builder_Len_f Z t _ wr hbd
        rw [Lib.byteCells_length] at cL
        have cS := Bu.text_any Z t (prX ps) wr hbd hZr
        obtain ⟨L, hL⟩ : ∃ L, (prX ps).length = L := ⟨_, rfl⟩
        obtain ⟨T, hT⟩ : ∃ T : ByteArray, (⟨(prX ps).toArray⟩ : ByteArray) = T := ⟨_, rfl⟩
        rw [hL] at cL
        rw [hT] at cS
        by_cases hl : 65536 < L
        · have hfin : Hid (PrintP ps (.returned (.tuple #[.string ⟨#[]⟩, .int .i64 11]))) := Lib.hid (.inr (.inl ⟨hr'.out, by rw [hL]; exact hl, rfl⟩))
          clear hkn hbd hbw cS hL hT
          go_wp2_with fail
          go_at_call 24
          refine cL.mono ?_
          rintro e w5 ⟨rfl, rfl⟩
          clear cL
          go_wp2
          go_ret2
          exact ⟨hfin.out, by rw [hZ'.out]; exact hbw'.out⟩
        · have hfin : Hid (PrintP ps (.returned (.tuple #[.string T, .int .i64 0]))) := Lib.hid (.inr (.inr ⟨hr'.out, by rw [hL]; omega, by rw [hT]⟩))
          clear hkn hbd hbw hL hT
          go_wp2_with fail
          go_at_call 24
          refine cL.mono ?_
          rintro e w5 ⟨rfl, rfl⟩
          clear cL
          go_wp2_with fail
          go_at_call 25
          refine cS.mono ?_
          rintro e w6 ⟨rfl, _, hb6⟩
          have hb6' := Lib.hid (hbw'.out.trans hb6)
          clear cS hb6
          go_wp2
          go_ret2
          exact ⟨hfin.out, by rw [hZ'.out]; exact hb6'.out⟩
end Go.Proofs.YtjeagjleolmibaaGreatDoor.Xm

/-
  THE PROGRAM's CALLS OF LAYER xml KEEP WHAT THE LAWS WANT: Parse (parse_any), Check (check_any), Print (print_any).
-/

/-
  WHAT THE ROWS LIST, in the reading: the tables of unicode/utf8, where utf8.ValidString stands in the dump. The bulk of what is read.
-/
set_option linter.unusedVariables false
namespace Go.Proofs.YtjeagjleolmibaaGreatDoor.La
open Go.Lib Go.RowKit Go.Shelf Go.ChangeShapes Go.WideShapes Go.ChangeAt

theorem own : ownKnob Tryz.prog.godebug = none := by kernel_rfl
theorem accept_eq : Rows.laid_unicode_utf8_acceptRanges = Lib.acceptData := by kernel_rfl
theorem first_eq : Rows.laid_unicode_utf8_first = Lib.firstData := Pinned.utf8First_eq
theorem tabs_of {W : World} (h1 : VarReads Tryz.prog W "unicode/utf8.first" Lib.firstData) (h2 : VarReads Tryz.prog W "unicode/utf8.acceptRanges" Lib.acceptData) : Ch.Tabs W :=
  utf8Tabs_of_readsT (U8Types.of196 Tryz.laysValid) ⟨by kernel_rfl, by kernel_rfl, by kernel_rfl, by kernel_rfl, by kernel_rfl, by kernel_rfl, by kernel_rfl⟩ h1 h2

/-! ### bulk -/
theorem bulk_le {H : Type} {d : DataW H} {l : List (DataW H)} (h : d ∈ l) : Rows.uptoBulk d ≤ Rows.uptoBulkAll l := by
  induction l with
  | nil => cases h
  | cons x r ih =>
    rw [Rows.uptoBulkAll]
    rcases List.mem_cons.1 h with rfl | h
    · omega
    · have := ih h; omega
theorem bulk_all {H : Type} {l : List (DataW H)} (hk : Rows.uptoSmall H l = true) : Rows.uptoBulkAll l ≤ 1048576 := of_decide_eq_true hk
theorem bulk_string {H : Type} (b : List UInt8) : Rows.uptoBulk (DataW.lit (H := H) (.string b)) = b.length + 1 := by rw [Rows.uptoBulk]
end Go.Proofs.YtjeagjleolmibaaGreatDoor.La

/-
  WHAT THE ROWS OF LAYER xml LIST: utf8's tables, strconv's two errors (in the reading and in the witness' world).
-/
set_option linter.unusedVariables false
namespace Go.Proofs.YtjeagjleolmibaaGreatDoor.Xm
open Go.Lib Go.RowKit Go.Shelf Go.ChangeShapes Go.WideShapes Go.ChangeAt

/-- a variable of an interface type that reads as a datum holds some interface value -/
theorem err_of {W : World} {n : String} {g : Nat} {name : String} {d : DataW Unit} (hg : Tryz.prog.globalNamed n = some g) (ht : (Tryz.prog.globals[g]?).map (·.type) = some 53) (h : VarReads Tryz.prog W n (.iface name d)) :
    ∃ ev, W.cell? ⟨g, 0, none⟩ = some ev ∧ (ev = .nilIface ∨ ∃ te pe, ev = .iface te pe) := by
  obtain ⟨g', t, cs, fuel, p, hg', hty, hvar, hd⟩ := h
  obtain rfl := Option.some.inj (hg.symm.trans hg')
  obtain rfl := Option.some.inj (ht.symm.trans hty)
  have hc : ∃ u v, cs.toList = [.iface u v] := by
    cases fuel with
    | zero => simp [DataW.trod] at hd
    | succ fuel =>
      cases hx : cs.toList with
      | nil => simp [DataW.trod, hx, Tryz.underlying53] at hd
      | cons x r =>
        cases r with
        | cons y r => cases x <;> simp [DataW.trod, hx, Tryz.underlying53] at hd
        | nil =>
          cases x
          case iface u v => exact ⟨u, v, rfl⟩
          all_goals simp [DataW.trod, hx, Tryz.underlying53] at hd
  obtain ⟨u, v, hc⟩ := hc
  refine ⟨.iface u v, ?_, .inr ⟨u, v, rfl⟩⟩
  unfold World.var? at hvar
  rw [hg, Option.bind_some] at hvar
  unfold World.cell?
  cases hh : W.heap[g]? with
  | none => rw [hh] at hvar; cases hvar
  | some o =>
    rw [hh] at hvar
    cases o with
    | cells cs' t' fr =>
      have hvar : some cs' = some cs := hvar
      obtain rfl := Option.some.inj hvar
      have : cs'[0]? = some (.iface u v) := by rw [← Array.getElem?_toList, hc]; rfl
      simpa using this
    | _ => cases hvar
theorem gw_of {W : World} {n1 n2 : String} {d1 d2 : DataW Unit} (h1 : VarReads Tryz.prog W "unicode/utf8.first" Lib.firstData) (h2 : VarReads Tryz.prog W "unicode/utf8.acceptRanges" Lib.acceptData)
    (h3 : VarReads Tryz.prog W "strconv.ErrSyntax" (.iface n1 d1)) (h4 : VarReads Tryz.prog W "strconv.ErrRange" (.iface n2 d2)) (hsh : W.ShapedOpen Tryz.prog) : Gw W :=
  ⟨La.tabs_of h1 h2, Go.Proofs.cell_of_shapedOpen_int (zero := #[.int .i64 0]) (t := 3) hsh (of_decide_eq_true (by kernel_rfl)) (by kernel_rfl) rfl (by kernel_rfl) (by kernel_rfl) Tryz.underlying3,
    err_of (by kernel_rfl) (by kernel_rfl) h3, err_of (by kernel_rfl) (by kernel_rfl) h4⟩

/-! ### a world for the witness -/
def de32 : List Int := [0, 1, 28, 2, 29, 14, 24, 3, 30, 22, 20, 15, 25, 17, 4, 8, 31, 27, 13, 23, 21, 19, 16, 7, 26, 12, 18, 6, 11, 5, 10, 9]
def de64 : List Int := [0, 1, 56, 2, 57, 49, 28, 3, 61, 58, 42, 50, 38, 29, 17, 4, 62, 47, 59, 36, 45, 43, 51, 22, 53, 39, 33, 30, 24, 18, 12, 5, 63, 55, 48, 27, 60, 41, 37, 16, 46, 35, 44, 21, 52, 32, 23, 11, 54, 26, 40, 15, 34, 20, 31, 10, 25, 14, 19, 9, 13, 8, 7, 6]
def rangeText : ByteArray := ⟨#[118, 97, 108, 117, 101, 32, 111, 117, 116, 32, 111, 102, 32, 114, 97, 110, 103, 101]⟩
def syntaxText : ByteArray := ⟨#[105, 110, 118, 97, 108, 105, 100, 32, 115, 121, 110, 116, 97, 120]⟩
noncomputable def low : Nat := (World.holding Tryz.prog default ⟨#[], #[], []⟩).heap.size
/-- the settled world, the variables holding what their initialisers lay -/
noncomputable def laidWorld (os : Os) : World :=
  let w0 := World.holding Tryz.prog os ⟨#[.cells #[.string rangeText] 193, .cells #[.string syntaxText] 193], #[], []⟩
  let put (h : Array Obj) (g : Nat) (cs : Array Value) : Array Obj := h.modify g fun
    | .cells _ t frozen => .cells cs t frozen
    | o => o
  let h1 := put w0.heap 0 (Lib.firstTab.map fun z => Value.int .u8 z).toArray
  let h2 := put h1 1 ((List.range 16).flatMap fun i => [Value.int .u8 (Lib.accLo i), Value.int .u8 (Lib.accHi i)]).toArray
  let h3 := put h2 5 (Lib.pow10Tab.map fun z => Value.int .u64 z).toArray
  let h4 := put h3 6 (de32.map fun z => Value.int .u8 z).toArray
  let h5 := put h4 7 (de64.map fun z => Value.int .u8 z).toArray
  let h6 := put h5 4 #[.iface 191 (.pointer (some ⟨low, 0, none⟩))]
  let h7 := put h6 3 #[.iface 191 (.pointer (some ⟨low + 1, 0, none⟩))]
  { w0 with heap := h7 }
theorem laid_met (os : Os) (args : Array Value) : laidMet Tryz.prog Rows.xmlWritesRow.laid ((laidWorld os).forCall (fun _ _ => 0) ⟨#[], args, []⟩).memory :=
  (LaidIn.of_run (l := Rows.xmlWritesRow.laid) [6, 7, 5, 1, 0, 4, 3, low, low + 1] 8 (by kernel_rfl) (by kernel_rfl) (by kernel_rfl) (by kernel_rfl)).met
end Go.Proofs.YtjeagjleolmibaaGreatDoor.Xm

/-
  A PARAMETER OF TYPE []api.Piece: what its reading gives.
-/
set_option linter.unusedVariables false
namespace Go.Proofs.YtjeagjleolmibaaGreatDoor.La
open Go.Lib Go.RowKit Go.Shelf Go.ChangeShapes Go.WideShapes Go.ChangeAt Go.Deep Xm

theorem laidOut : laidOutB Tryz.prog = true := by kernel_rfl
theorem listed {α : Type} (P : Nat → α → Prop) : ∀ n, (∀ i, i < n → ∃ x, P i x) → ∃ xs : List α, xs.length = n ∧ ∀ (i : Nat) (x : α), xs[i]? = some x → P i x
  | 0, _ => ⟨[], rfl, fun i x h => by simp at h⟩
  | n + 1, h => by
    obtain ⟨xs, hl, hx⟩ := listed P n (fun i hi => h i (by omega))
    obtain ⟨x, hxn⟩ := h n (by omega)
    refine ⟨xs ++ [x], by simp [hl], fun i y hy => ?_⟩
    by_cases hi : i < n
    · rw [List.getElem?_append_left (by omega)] at hy
      exact hx i y hy
    · rw [List.getElem?_append_right (by omega)] at hy
      have h0 : i - xs.length = 0 := by have := (List.getElem?_eq_some_iff.1 hy).1; simp at this; omega
      rw [h0] at hy
      simp at hy
      subst hy
      rw [show i = n by omega]
      exact hxn
variable {H : Type} {enc : TypeId × Value → H}
theorem bulk_sum {α : Type} (f : α → Nat) : ∀ (xs : List α) (D : Nat → DataW H), (∀ (i : Nat) (x : α), xs[i]? = some x → f x ≤ Rows.uptoBulk (D i)) → (xs.map f).sum ≤ Rows.uptoBulkAll ((List.range xs.length).map D)
  | [], D, _ => by simp
  | x :: xs, D, h => by
    have h0 := h 0 x rfl
    have ih := bulk_sum f xs (fun i => D (i + 1)) (fun i y hy => h (i + 1) y (by simpa using hy))
    rw [List.length_cons, List.range_succ_eq_map, List.map_cons, List.map_cons, List.map_map, List.sum_cons, Rows.uptoBulkAll]
    have e : (D ∘ Nat.succ) = fun i => D (i + 1) := rfl
    rw [e]
    omega
theorem spot_none {W : World} {a : Addr} {v : Value} (h : W.cell? a = some v) : a.spot = none := by
  cases hs : a.spot with
  | none => rfl
  | some x =>
    exfalso
    unfold World.cell? at h
    rw [hs] at h
    split at h <;> simp at h
theorem add_spot (a : Addr) (h : (a.add 0).spot = none) : a = ⟨a.block, a.off, none⟩ := by
  obtain ⟨b, off, spot⟩ := a
  unfold Addr.add at h
  split at h <;> simp_all
theorem add_is (b off i : Nat) : (⟨b, off, none⟩ : Addr).add i = ⟨b, off + i, none⟩ := by
  unfold Addr.add
  split
  · rename_i h; subst h; rfl
  · rfl

set_option maxRecDepth 100000 in
theorem pcs_open {base : Nat} {W : World} {v : Value} {d : DataW H} {ps : List MemPlace} (hval : Value.okWide Tryz.prog W .any base 22 v) (h : DataW.Trod enc Tryz.prog W 0 (fun _ => true) true 22 v d ps) :
    ∃ qs, PcsAt W v qs ∧ szs qs ≤ Rows.uptoBulk d := by
  obtain ⟨a0, len0, cap0, rfl⟩ := okWide_slice Tryz.underlying22 hval
  obtain ⟨fuel, hf⟩ := h
  have hce : Tryz.prog.cellsOf 37 = 4 := by kernel_rfl
  have h1s : Tryz.prog.cellsOf 9 = 1 := by kernel_rfl
  have h1k : Tryz.prog.cellsOf 34 = 1 := by kernel_rfl
  have h1p : Tryz.prog.cellsOf 35 = 1 := by kernel_rfl
  rcases open_slice Tryz.underlying22 hf with ⟨hcs, hx⟩ | ⟨a, len, cap, m, n, D, Pl, hcs, _, hl, hm, hmm, hx, hi⟩
  · simp [Value.cells] at hcs
    obtain ⟨rfl, rfl, rfl⟩ := hcs
    exact ⟨[], PsOwn.at (PsOwn.nil 0 W), Nat.zero_le _⟩
  · simp [Value.cells] at hcs
    obtain ⟨rfl, rfl, rfl⟩ := hcs
    simp only [if_true] at hmm
    rw [hce] at hi
    obtain ⟨qs, hqs, hp⟩ := listed (fun i (p : Pc) => W.cell? (a.add (i * 4)) = some (.int .i64 p.kind) ∧ W.cell? ((a.add (i * 4)).add 1) = some (.int .i64 p.space) ∧ W.cell? ((a.add (i * 4)).add 2) = some (sv p.name) ∧ W.cell? ((a.add (i * 4)).add 3) = some (sv p.text) ∧ szP p ≤ Rows.uptoBulk (D i)) len0 (fun i hil => by
      obtain ⟨cs', hc, ht⟩ := hi i (by omega)
      obtain ⟨_, hcl, hat⟩ := World.cells?_some hc
      obtain ⟨y0, y1, y2, y3, n', hy, _, ht0, ht1, ht2, ht3⟩ := Go.Joins.trod_struct4 Tryz.underlying37 ht
      match cs', hcl with
      | [c0, c1, c2, c3], _ =>
        have e0 := hat 0 (by omega)
        have e1 := hat 1 (by omega)
        have e2 := hat 2 (by omega)
        have e3 := hat 3 (by omega)
        simp only [h1s, h1k, h1p, List.drop_zero, List.take_succ_cons, List.take_zero, List.drop_succ_cons] at ht0 ht1 ht2 ht3
        obtain ⟨n0, hs0, hx0, _⟩ := DataW.trod_int Tryz.underlying34 ht0
        obtain ⟨n1, hs1, hx1, _⟩ := DataW.trod_int Tryz.underlying35 ht1
        obtain ⟨s2, hs2, hx2, _⟩ := DataW.trod_string Tryz.underlying9 ht2
        obtain ⟨s3, hs3, hx3, _⟩ := DataW.trod_string Tryz.underlying9 ht3
        simp at hs0 hs1 hs2 hs3
        subst hs0; subst hs1; subst hs2; subst hs3
        simp only [Prod.mk.injEq] at hy
        have ez : (a.add (i * 4)).add 0 = a.add (i * 4) := by unfold Addr.add; simp
        rw [ez] at e0
        refine ⟨⟨n0, n1, s2.data.toList, s3.data.toList⟩, ?_, ?_, ?_, ?_, ?_⟩
        · simpa using e0
        · simpa using e1
        · rw [sv_data]; simpa using e2
        · rw [sv_data]; simpa using e3
        · rw [hy.1, Rows.uptoBulk, Rows.uptoBulkAll, Rows.uptoBulkAll, Rows.uptoBulkAll, Rows.uptoBulkAll, Rows.uptoBulkAll, hx0, hx1, hx2, hx3]
          dsimp only
          rw [bulk_string, bulk_string]
          unfold szP
          dsimp only
          omega)
    have key : 0 < qs.length → a = ⟨a.block, a.off, none⟩ ∧ a.block < W.heap.size := fun h0 => by
      have h1 : qs[0]? = some (qs[0]'h0) := List.getElem?_eq_getElem _
      have h2 := (hp 0 _ h1).1
      rw [Nat.zero_mul] at h2
      have h3 := add_spot a (spot_none h2)
      have h4 := World.block_lt_of_cell? W (a.add 0) h2
      rw [h3, add_is] at h4
      exact ⟨h3, h4⟩
    refine ⟨qs, ⟨some a, a.block, a.off, cap0, by rw [hqs], by omega, hm, fun h0 => ?_, fun j p hj => ?_⟩, ?_⟩
    · obtain ⟨h3, h4⟩ := key h0
      exact ⟨by rw [← h3], h4⟩
    · obtain ⟨g0, g1, g2, g3, _⟩ := hp j p hj
      obtain ⟨h3, _⟩ := key (by have := (List.getElem?_eq_some_iff.1 hj).1; omega)
      rw [h3, add_is] at g0
      rw [h3, add_is, add_is] at g1 g2 g3
      exact ⟨g0, g1, g2, g3⟩
    · simp only [Prod.mk.injEq] at hx
      rw [hx.1, Rows.uptoBulk]
      have := bulk_sum szP qs D (fun i p hip => (hp i p hip).2.2.2.2)
      rw [hqs] at this
      unfold szs
      omega
/-- the last step of a row whose call left all that there was -/
theorem post_left {P : Program} {f : Func} {s : OpenSpec} {F : Stop.Interp} {apart fresh handsOn again : Bool} {W W' : World} {args : Array Value} {v : Value} {ds gs : List (DataW H)} {before pa pv : List MemPlace}
    (hW : DataW.Whole enc P f.params.toList s.vars apart W args.toList ds gs before)
    (hres : ∀ (b : Nat) (sp : Nat → Bool) (hd : Bool), DataW.TrodAll enc P W' b sp hd f.resultTypes.toList (v.resultList f.resultTypes.size) ((s.at F).fn H (ds ++ gs)).results [])
    (hargs : DataW.TrodAll enc P W' 0 (fun b => decide (b < W.heap.size)) true f.params.toList args.toList ((s.at F).fn H (ds ++ gs)).args pa)
    (hvars : DataW.TrodVars enc P W' (fun b => decide (b < W.heap.size)) s.vars ((s.at F).fn H (ds ++ gs)).vars pv)
    (hps : before = pa ++ pv) (hb : Below W.heap.size W W') (hag : again = false) :
    (s.at F).post enc P f apart fresh handsOn again W args v W' := by
  subst hag
  exact ⟨ds, gs, before, [], pa, pv, hW, hres _ _ _, hargs, hvars, World.keptBut_mono (fun p hp => ⟨hp, by rw [hps, List.mem_append] at hp; exact Or.inr hp⟩) (hb.frame (· ∈ before)), fun h => by cases h⟩
end Go.Proofs.YtjeagjleolmibaaGreatDoor.La

/-
  THE WALK OF THE LAWS' first.
-/
set_option linter.unusedVariables false
namespace Go.Proofs.YtjeagjleolmibaaGreatDoor.Xm
open Go.Lib Go.RowKit

set_option maxRecDepth 100000 in
theorem first_c1 (cP : ParseC) (w : World) (hT : Gw w) : Calls Tryz.prog 14 #[.string ⟨#[60, 97, 32, 120, 109, 108, 110, 115, 61, 34, 68, 65, 86, 58, 34, 62, 32, 60, 98, 47, 62, 120, 38, 97, 109, 112, 59, 60, 47, 97, 62]⟩] w fun e w' => (∃ v, e = .returned (.tuple #[v, .int .i64 0]) ∧ PcsAt w' v firstPs) ∧ Below w.heap.size w w' := by
  have h := cP ⟨firstT.toArray⟩ w (by decide) hT
  rw [show (⟨firstT.toArray⟩ : ByteArray).data.toList = firstT from rfl, first_parse] at h
  exact h
set_option maxRecDepth 100000 in
theorem first_c2 (cR : PrintC) (v : Value) (w : World) (hv : PcsAt w v firstPs) (hT : Gw w) : Calls Tryz.prog 10 #[v] w fun e w' => e = .returned (.tuple #[.string ⟨#[60, 68, 58, 97, 32, 120, 109, 108, 110, 115, 58, 68, 61, 34, 68, 65, 86, 58, 34, 32, 120, 109, 108, 110, 115, 58, 67, 61, 34, 117, 114, 110, 58, 105, 101, 116, 102, 58, 112, 97, 114, 97, 109, 115, 58, 120, 109, 108, 58, 110, 115, 58, 99, 97, 114, 100, 100, 97, 118, 34, 62, 60, 68, 58, 98, 47, 62, 120, 38, 97, 109, 112, 59, 60, 47, 68, 58, 97, 62]⟩, .int .i64 0]) ∧ Below w.heap.size w w' := by
  refine (cR v firstPs w hv (by decide) hT).mono ?_
  rintro e w' ⟨hp, hb⟩
  refine ⟨?_, hb⟩
  rcases hp with ⟨h1, _⟩ | ⟨_, h1, _⟩ | ⟨_, _, h2⟩
  · rw [first_right] at h1; cases h1
  · rw [first_print] at h1; exact absurd h1 (by decide)
  · rw [h2, first_print]
set_option maxRecDepth 100000 in
theorem first_c3 (cP : ParseC) (w : World) (hT : Gw w) : Calls Tryz.prog 14 #[.string ⟨#[60, 97, 62, 60, 47, 98, 62]⟩] w fun e w' => (∃ v, e = .returned (.tuple #[v, .int .i64 70]) ∧ PcsAt w' v []) ∧ Below w.heap.size w w' := by
  have h := cP ⟨#[60, 97, 62, 60, 47, 98, 62]⟩ w (by decide) hT
  rw [show (⟨#[60, 97, 62, 60, 47, 98, 62]⟩ : ByteArray).data.toList = [60, 97, 62, 60, 47, 98, 62] from rfl, first_bad] at h
  exact h
set_option maxHeartbeats 2000000 in
set_option maxRecDepth 100000 in
theorem first_any (cP : ParseC) (cR : PrintC) (w : World) (hT : Gw w) :
    Calls Tryz.prog 8 #[] w fun e w' => e = .returned (.bool true) ∧ Below w.heap.size w w' := by
  have c1 := first_c1 cP w hT
  have c2 := Lib.hid (fun (W : World) (v : Value) (hW : Below w.heap.size w W) (hv : PcsAt W v firstPs) => first_c2 cR v W hv (gw_below hT hW))
  have c3 := Lib.hid (fun (W : World) (hW : Below w.heap.size w W) => first_c3 cP W (gw_below hT hW))
  clear hT
  go_enter Tryz.func8, Tryz.ntmps8
  go_wp2_with fail
  go_at_call 14
  with_reducible refine c1.mono ?_
  rintro e w1 ⟨⟨v, rfl, hv⟩, hb1⟩
  have d2 := c2.out w1 v hb1 hv
  obtain ⟨A, c, rfl⟩ := hv.form
  clear c1 hv c2
  go_wp2_with fail
  go_at_call 10
  with_reducible refine d2.mono ?_
  rintro e w2 ⟨rfl, hb2⟩
  have hb2' := below_then hb1 hb2
  have d3 := c3.out w2 hb2'
  clear hb2 d2 hb1 c3
  go_wp2_with fail
  go_at_call 14
  with_reducible refine d3.mono ?_
  rintro e w3 ⟨⟨v3, rfl, hv3⟩, hb3⟩
  have hb3' := Lib.hid (below_then hb2' hb3)
  clear hb3 d3 hb2' hv3
  go_wp2
  go_ret
  exact ⟨rfl, hb3'.out⟩
end Go.Proofs.YtjeagjleolmibaaGreatDoor.Xm

/-
  ALL THAT THE LAWS OF LAYER xml WANT, but for each law's own walk.
-/
