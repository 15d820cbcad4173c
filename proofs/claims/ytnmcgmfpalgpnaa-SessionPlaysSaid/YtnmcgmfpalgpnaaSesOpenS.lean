/-
  THE PROGRAM's forget AND Open AT TYPE string.
-/
import Derived.Test.YtnmcgmfpalgpnaaSesDelS
import Derived.Deep.AppendLies
import Derived.Deep.RegionLaw
set_option linter.unusedVariables false
namespace Go.Proofs.Ytnmcgmfpalgpnaa.Se
open Go.Lib Go.RowKit

theorem ownsRow_up {w : World} {B : Nat} {e : TypeId} {size gb n cap : Nat} {xs : List Value} (h : w.ownsRow 0 e size (.slice (some ⟨gb, 0, none⟩) n cap) n xs) (hB : B ≤ gb) : w.ownsRow B e size (.slice (some ⟨gb, 0, none⟩) n cap) n xs := by
  refine ⟨h.1, ?_⟩
  rcases h.2 with ⟨h', _⟩ | ⟨g, cap', cur, e1, e2, e3, e4⟩
  · simp at h'
  · have e1' := e1
    simp only [Value.slice.injEq, Option.some.injEq, Addr.mk.injEq, and_true, true_and] at e1'
    exact .inr ⟨g, cap', cur, e1, by omega, e3, e4⟩
theorem drop_filter {α : Type} {t : Tb α} (hd : (t.map Ro.id).Nodup) {k : Nat} {r : Ro α} (hk : t[k]? = some r) (hm : MinAt t k t.length) : (t.filter fun x => !(x.id == r.id)) = dropLeast t := by
  rw [min_drop hm]
  clear hm
  induction t generalizing k with
  | nil => simp at hk
  | cons y t ih =>
    cases k with
    | zero =>
      simp at hk
      subst hk
      rw [List.filter_cons_of_neg (by simp)]
      show _ = t
      refine List.filter_eq_self.2 fun x hx => ?_
      rw [List.map_cons, List.nodup_cons] at hd
      have : x.id ≠ y.id := fun e => hd.1 (e ▸ List.mem_map_of_mem hx)
      simpa using this
    | succ k =>
      rw [List.map_cons, List.nodup_cons] at hd
      have hk' : t[k]? = some r := by simpa using hk
      have hne : y.id ≠ r.id := fun e => hd.1 (e ▸ List.mem_map_of_mem (List.mem_of_getElem? hk'))
      rw [List.filter_cons_of_pos (by simpa using hne), ih hd.2 hk']
      rfl
set_option maxHeartbeats 2000000 in
set_option maxRecDepth 100000 in
theorem goneFnS (o : Ro ByteArray) (p : Nat) (w : World) (F : List Nat) (hpF : p ∉ F) (hpl : p < w.heap.size) (hp : w.heap[p]? = some (.cells #[.int .i64 o.id, .int .i64 o.last, .int .i64 o.used, .string o.x] 42 (0, 0))) : PredS 40 #[.pointer (some ⟨p, 0, none⟩)] (fun r => r.id == o.id) w F := by
  intro W r hK
  have hal : Below W.heap.size W (W.alloc (.cells #[.int .i64 r.id, .int .i64 r.last, .int .i64 r.used, .string r.x] 42)) := (Below.refl _ _).alloc (Nat.le_refl _) _
  have hpW := (hal.block p (Nat.lt_of_lt_of_le hpl hK.size)).trans ((hK.block p hpl hpF).trans hp)
  have c0 := Lib.cell_of_heap hpW 0
  have hal' := Lib.hid hal
  obtain ⟨oi, ol, ou, ox⟩ := o
  obtain ⟨rid, rl, ru, rx⟩ := r
  simp only at c0 hal' ⊢
  clear hal hpW hp hK
  show Calls Try.prog 40 #[.agg #[.int .i64 rid, .int .i64 rl, .int .i64 ru, .string rx], .pointer (some ⟨p, 0, none⟩)] W _
  go_enter Try.func40, Try.ntmps40
  go_wp2
  go_ret
  exact ⟨rfl, hal'.out⟩

set_option maxHeartbeats 8000000 in
set_option maxRecDepth 100000 in
theorem forgetS (B b : Nat) (v : Value) (t : Tb ByteArray) (w : World) (hT : Tab eS 26 42 B b v t w) (hB : B ≤ w.heap.size) (ht : t.length = 8) (hnd : (t.map Ro.id).Nodup) :
    Calls Try.prog 24 #[.pointer (some ⟨b, 0, none⟩)] w fun e w' => e = .returned (.tuple #[]) ∧ After eS 26 42 B b v (dropLeast t) w w' := by
  have hmf : ∀ (fn : Fn) (first cap : Array Value) (w : World), (Instr.makeFunc fn first cap).run Try.prog w = .ok (.func fn first cap) w := fun _ _ _ _ => rfl
  have hblt := hT.lt
  have cM := minS t v w hT.own.at (by omega) (by omega)
  have hcell : w.cell? ⟨b, 0, none⟩ = some v := by rw [Lib.cell_of_heap hT.blk]; rfl
  obtain ⟨gb, cap, rfl⟩ : ∃ gb cap, v = .slice (some ⟨gb, 0, none⟩) t.length cap := by
    rcases hT.own.2 with ⟨_, e2⟩ | ⟨g', cap, cur, e1, _⟩
    · omega
    · exact ⟨g', cap, e1⟩
  have hgB : B ≤ gb ∧ gb < w.heap.size := hT.ownLt gb rfl
  have hgb : gb ≠ b := fun e => hT.apart (by rw [e]; rfl)
  have hT' := Lib.hid hT
  obtain ⟨n, hn⟩ : ∃ n, t.length = n := ⟨_, rfl⟩
  rw [hn] at hcell cM
  have hn' := Lib.hid hn
  rw [hn]
  clear hT hn
  go_enter Try.func24, Try.ntmps24
  go_wp2_with fail
  go_at_call 36
  refine cM.mono ?_
  rintro e w1 ⟨⟨k, r, rfl, hk, hm⟩, hb1⟩
  have hT1 := hT'.out.kept hb1
  have hal : Below w1.heap.size w1 (w1.alloc (.cells #[.int .i64 r.id, .int .i64 r.last, .int .i64 r.used, .string r.x] 42)) := (Below.refl _ _).alloc (Nat.le_refl _) _
  have hT2 := hT1.kept hal
  have hb2 := below_then hb1 hal
  obtain ⟨w2, hw2⟩ : ∃ w2, w1.alloc (.cells #[.int .i64 r.id, .int .i64 r.last, .int .i64 r.used, .string r.x] 42) = w2 := ⟨_, rfl⟩
  have hnew : w2.heap[w1.heap.size]? = some (.cells #[.int .i64 r.id, .int .i64 r.last, .int .i64 r.used, .string r.x] 42 (0, 0)) := by rw [← hw2]; exact heap_alloc_new _ _
  rw [hw2] at hT2 hb2
  have hcell2 : w2.cell? ⟨b, 0, none⟩ = some (.slice (some ⟨gb, 0, none⟩) n cap) := by rw [Lib.cell_of_heap hT2.blk, ← hn'.out]; rfl
  have hT1s := hb1.size
  have cD := deleteFuncS 40 #[.pointer (some ⟨w1.heap.size, 0, none⟩)] (fun x => x.id == r.id) t gb cap n w2 (fun _ _ => rfl) hn'.out (by have := ownsRow_less hT2.own (Nat.zero_le B); unfold RsOwn at this; rw [hn'.out] at this; exact this)
    (goneFnS r w1.heap.size w2 [gb] (by simp; omega) (by rw [← hw2]; simp) hnew) (by have := hn'.out; omega)
  rw [drop_filter hnd hk (hn'.out ▸ hm)] at cD
  have hfin : ∀ m W, (dropLeast t).length = m → W.ownsRow 0 42 4 (.slice (some ⟨gb, 0, none⟩) m cap) m (rc eS (dropLeast t)) → Kp [gb] w2 W → After eS 26 42 B b (.slice (some ⟨gb, 0, none⟩) n cap) (dropLeast t) w (W.setCell ⟨b, 0, none⟩ (.slice (some ⟨gb, 0, none⟩) m cap)) := fun m W e1 h1 hK => by
    have hbl : W.heap[b]? = some (.cells #[.slice (some ⟨gb, 0, none⟩) t.length cap] 26 (0, 0)) := (hK.block b (Nat.lt_of_lt_of_le hblt hb2.size) (by simp; omega)).trans hT2.blk
    refine ⟨.slice (some ⟨gb, 0, none⟩) m cap, ⟨hT2.low, one_setCell hbl, ?_, by intro e; injection e with e; exact hgb e⟩, fun k hk => .inl hk, ⟨hK.os.trans hb2.os, hK.tape.trans hb2.tape, hK.output.trans hb2.output, by have := hK.size; have := hb2.size; simp; omega, fun i hi h2 h3 => ?_⟩⟩
    · have := ownsRow_left (ownsRow_up h1 hgB.1) (w' := W.setCell ⟨b, 0, none⟩ (.slice (some ⟨gb, 0, none⟩) m cap)) (fun g hg => Below.heap_setCell W ⟨b, 0, none⟩ _ g (fun e => hgb ((Option.some.inj hg).trans e)))
      unfold RsOwn
      rw [e1]
      exact this
    · rw [Below.heap_setCell W ⟨b, 0, none⟩ _ i h2, hK.block i (Nat.lt_of_lt_of_le hi hb2.size) (by simp; intro e; exact h3 (by rw [e]; rfl)), hb2.block i hi]
  have hcW : ∀ W, Kp [gb] w2 W → W.cell? ⟨b, 0, none⟩ = some (.slice (some ⟨gb, 0, none⟩) n cap) ∧ W.frozen? ⟨b, 0, none⟩ = false := fun W hK => by
    have hbl : W.heap[b]? = some (.cells #[.slice (some ⟨gb, 0, none⟩) t.length cap] 26 (0, 0)) := (hK.block b (Nat.lt_of_lt_of_le hblt hb2.size) (by simp; omega)).trans hT2.blk
    exact ⟨by rw [Lib.cell_of_heap hbl, ← hn'.out]; rfl, Lib.frozen_of_heap hbl 0⟩
  have hfin' := Lib.hid hfin
  have hcW' := Lib.hid hcW
  obtain ⟨ri, rl, ru, rx⟩ := r
  simp only at hw2 cD
  subst hw2
  clear cM hT1 hal hT2 hb2 hnew hfin hcW hk hm hb1 hT1s hnd
  go_wp2_with fail
  go_at_call 39
  refine cD.mono ?_
  rintro e w3 ⟨⟨m, rfl, e1, hown⟩, hK3⟩
  obtain ⟨q1, q2⟩ := hcW'.out w3 hK3
  have hR := Lib.hid (hfin'.out m w3 e1 hown hK3)
  clear cD hown hK3 e1
  go_wp2
  go_end0
  exact ⟨rfl, hR.out⟩

theorem After.appended {α : Type} {em : α → Value} {ty e : TypeId} {B b g cap n : Nat} {v0 u : Value} {t1 : Tb α} {r : Ro α} {w wB w5 : World} {obj : Obj} (hT : Tab em ty e B b u t1 wB) (hbw : b < w.heap.size) (ho : ∀ k, u.ownBlock = some k → v0.ownBlock = some k ∨ w.heap.size ≤ k) (hE : Else b v0 w wB) (hBw : B ≤ w.heap.size)
    (hown : w5.ownsRow B e 4 (.slice (some ⟨g, 0, none⟩) (n + 1) cap) (n + 1) (rc em (t1 ++ [r]))) (hg : (wB.drew.alloc obj).grownBy w5 u.ownBlock) (hat : u.ownBlock = some g ∨ g = wB.heap.size + 1) (hn : t1.length = n) :
    After em ty e B b v0 (t1 ++ [r]) w (w5.setCell ⟨b, 0, none⟩ (.slice (some ⟨g, 0, none⟩) (n + 1) cap)) ∧ w5.heap[b]? = some (.cells #[u] ty (0, 0)) := by
  have hblt := hT.lt
  have hgb : g ≠ b := by
    rcases hat with h | h
    · exact fun e => hT.apart (by rw [h, e])
    · omega
  have hold : ∀ k, k < wB.heap.size → u.ownBlock ≠ some k → w5.heap[k]? = wB.heap[k]? := fun k hk hne => by
    have hb : Below wB.heap.size wB (wB.drew.alloc obj) := (Below.drew (Below.refl _ _)).alloc (Nat.le_refl _) _
    rw [hg.block k (Nat.lt_of_lt_of_le hk hb.size) (fun e => hne e.symm), hb.block k hk]
  have hbl : w5.heap[b]? = some (.cells #[u] ty (0, 0)) := (hold b hblt hT.apart).trans hT.blk
  have hsz : wB.heap.size ≤ w5.heap.size := by
    have := hg.size
    have h2 : wB.heap.size ≤ (wB.drew.alloc obj).heap.size := ((Below.drew (Below.refl wB.heap.size wB)).alloc (Nat.le_refl _) obj).size
    omega
  refine ⟨⟨_, ⟨hT.low, one_setCell hbl, ?_, fun e => hgb (Option.some.inj e)⟩, fun k hk => ?_, ⟨hg.os.trans hE.os, hg.tape.trans hE.tape, hg.output.trans hE.output, ?_, fun k hk h1 h2 => ?_⟩⟩, hbl⟩
  · unfold RsOwn
    rw [List.length_append, hn]
    exact ownsRow_left hown fun q hq => Below.heap_setCell w5 ⟨b, 0, none⟩ _ q (fun e => hgb ((Option.some.inj hq).trans e))
  · obtain rfl : g = k := Option.some.inj hk
    rcases hat with h | h
    · exact ho g h
    · right
      have := hE.size
      omega
  · have := hE.size
    simp
    omega
  · rw [Below.heap_setCell w5 ⟨b, 0, none⟩ _ k h1, hold k (Nat.lt_of_lt_of_le hk hE.size) (fun e => by
      rcases ho k e with h | h
      · exact h2 h
      · omega), hE.block k hk h1 h2]
set_option maxHeartbeats 8000000 in
set_option maxRecDepth 100000 in
theorem openS : OpenC eS nS 26 42 8 := by
  intro B b v t now w hT hB ht hnd
  have hno : (now < 1 ∨ late t now = true) → ∀ w', Below w.heap.size w w' → Ending.returned (.bool false) = .returned (.bool (openT nS t now).2) ∧ After eS 26 42 B b v (openT nS t now).1 w w' := fun h w' hw => by
    unfold openT
    rw [if_pos h]
    exact ⟨rfl, After.same hT hw⟩
  have hyes : ¬ (now < 1 ∨ late t now = true) → openT nS t now = ((if t.length < 8 then t else dropLeast t) ++ [⟨now, 0, now, nS⟩], true) := fun h => if_neg h
  have hdl : ¬ t.length < 8 → (dropLeast t).length = 7 := fun h => by
    have : t ≠ [] := by rintro rfl; simp at h
    rw [drop_len this]; omega
  have hmf : ∀ (fn : Fn) (first cap : Array Value) (w : World), (Instr.makeFunc fn first cap).run Try.prog w = .ok (.func fn first cap) w := fun _ _ _ _ => rfl
  generalize openT nS t now = R at hno hyes ⊢
  have hblt := hT.lt
  have hbA : Below w.heap.size w (w.alloc (.cells #[.int .i64 now] 3)) := (Below.refl _ _).alloc (Nat.le_refl _) _
  have hTA := hT.kept hbA
  have hcA : (w.alloc (.cells #[.int .i64 now] 3)).heap[w.heap.size]? = some (.cells #[.int .i64 now] 3 (0, 0)) := heap_alloc_new _ _
  have hcell : (w.alloc (.cells #[.int .i64 now] 3)).cell? ⟨b, 0, none⟩ = some v := by rw [Lib.cell_of_heap hTA.blk]; rfl
  have cC := containsPureS 22 #[.pointer (some ⟨w.heap.size, 0, none⟩)] (fun r => decide (now ≤ r.used) || decide (now ≤ r.id)) t v _ (fun _ _ => rfl) hTA.own.at (lateFnS now w.heap.size _ (by simp) (by rw [Lib.cell_of_heap hcA]; rfl)) (by omega)
  obtain ⟨A, c, hve⟩ := ownsRow_form hT.own
  have hT' := Lib.hid hT
  have hno' := Lib.hid hno
  have hyes' := Lib.hid hyes
  have hdl' := Lib.hid hdl
  have hbA' := Lib.hid hbA
  have hnd' := Lib.hid hnd
  have hcA' := Lib.hid hcA
  have hve' := Lib.hid hve
  obtain ⟨n, hn⟩ : ∃ n, t.length = n := ⟨_, rfl⟩
  have hn' := Lib.hid hn
  obtain ⟨q, hq⟩ : ∃ q, (t.any fun r => decide (now ≤ r.used) || decide (now ≤ r.id)) = q := ⟨_, rfl⟩
  rw [hq] at cC
  rw [hn] at ht hve
  rw [hve] at hcell cC
  clear hno hyes hdl hT hbA hTA hcA hn hnd hve
  go_enter Try.func8, Try.ntmps8
  by_cases h0 : now ≤ 0
  · have d0 : decide (now ≤ 0) = true := by simpa using h0
    have hR := Lib.hid (hno'.out (.inl (by omega)) _ hbA'.out)
    clear cC hcell hq
    go_wp2
    go_ret
    exact hR.out
  have d0 : decide (now ≤ 0) = false := by simpa using h0
  go_wp2_with fail
  go_at_call 23
  refine cC.mono ?_
  rintro e w2 ⟨rfl, hb2⟩
  cases hqv : q
  rotate_left
  · have hR := Lib.hid (hno'.out (.inr (by unfold late; rw [hq, hqv])) w2 (below_then hbA'.out hb2))
    clear cC hcell hq hqv hb2
    go_wp2
    go_ret
    exact hR.out
  have hYes := hyes'.out (by
    rintro (h | h)
    · omega
    · unfold late at h; rw [hq, hqv] at h; cases h)
  obtain ⟨R1, R2⟩ := R
  injection hYes with e1 e2
  have hB2 := below_then hbA'.out hb2
  have hT2 := hT'.out.kept hB2
  have hp2 : w2.heap[w.heap.size]? = some (.cells #[.int .i64 now] 3 (0, 0)) := (hb2.block _ (by simp)).trans hcA'.out
  have hcell2 : w2.cell? ⟨b, 0, none⟩ = some v := by rw [Lib.cell_of_heap hT2.blk]; rfl
  rw [hve'.out, hn'.out] at hcell2
  rw [hn'.out] at e1
  have hE2 : Else b v w w2 := Else.of_below hB2
  have hE2' := Lib.hid hE2
  have hT2' := Lib.hid hT2
  have hp2' := Lib.hid hp2
  have hB2' := Lib.hid hB2
  have e1' := Lib.hid e1
  have e2' := Lib.hid e2
  have hb2s := hb2.size
  clear cC hcell hq hqv hb2 hE2 hT2 hB2 e1 e2 hno' hyes' hcA' hbA'
  by_cases h8 : n < 8
  · have d8 : decide (8 ≤ (n : Int)) = false := by simp; omega
    rw [if_pos h8] at e1'
    have hTB' : Hid (Tab eS 26 42 B b (.slice A n c) t w2) := Lib.hid (by have h := hT2'.out; have hv := hve'.out; rw [hn'.out] at hv; rw [hv] at h; exact h)
    have hcellB := hcell2
    have hpB' := hp2'
    have hnB' := hn'
    have hoB' : Hid (∀ k, (Value.slice A n c).ownBlock = some k → v.ownBlock = some k ∨ w.heap.size ≤ k) := Lib.hid (fun k hk => .inl (by have hv := hve'.out; rw [hn'.out] at hv; rw [hv]; exact hk))
    have hEB' := hE2'
    go_wp2_with fail
    obtain ⟨i0, hi, hz0, hz1, hz2⟩ := info_parts infoTS
    have hone : ∀ u ∈ ([.int .i64 now, .int .i64 0, .int .i64 now, .string ⟨#[]⟩] : List Value), u.oneCell' = true := fun u hu => by
      simp at hu
      rcases hu with rfl | rfl | rfl | rfl <;> rfl
    have hk1 : n + 1 ≤ maxLen := by unfold maxLen; omega
    have hk2 : (n + 1) * 40 ≤ 140737488355328 := by omega
    have hlive : ∀ W, Below w2.heap.size w2 W → W.cell? ⟨b, 0, none⟩ = some (.slice A n c) ∧ W.cell? ⟨w.heap.size, 0, none⟩ = some (.int .i64 now) := fun W hW => by
      exact ⟨by rw [hW.cell (p := ⟨b, 0, none⟩) hTB'.out.lt]; exact hcellB, by rw [hW.cell (p := ⟨w.heap.size, 0, none⟩) (Array.getElem?_eq_some_iff.1 hpB'.out).1, Lib.cell_of_heap hpB'.out]; rfl⟩
    obtain ⟨_, y2⟩ := hlive w2 (Below.refl _ _)
    obtain ⟨z1, z2⟩ := hlive (w2.alloc (.cells #[.int .i64 now, .int .i64 0, .int .i64 now, .string ⟨#[]⟩] 42)) ((Below.refl _ _).alloc (Nat.le_refl _) _)
    have hhere : Hid (w2.drew.ownsRow B 42 4 (.slice A n c) n (rc eS (t))) := Lib.hid (by have := ownsRow_kept hTB'.out.own (Below.drew (Below.refl w2.heap.size w2)); rw [hnB'.out] at this; exact this)
    have hBs : B ≤ (w2.drew.alloc (.cells #[.int .i64 now, .int .i64 0, .int .i64 now, .string ⟨#[]⟩] 42)).heap.size := by simp; have := hEB'.out.size; omega
    have hT5 : ∀ g5 cap5 w5, w5.ownsRow B 42 4 (.slice (some ⟨g5, 0, none⟩) (n + 1) cap5) (n + 1) (rc eS (t) ++ [.int .i64 now, .int .i64 0, .int .i64 now, .string ⟨#[]⟩]) → (w2.drew.alloc (.cells #[.int .i64 now, .int .i64 0, .int .i64 now, .string ⟨#[]⟩] 42)).grownBy w5 (Value.slice A n c).ownBlock → ((Value.slice A n c).ownBlock = some g5 ∨ g5 = w2.heap.size + 1) → After eS 26 42 B b v (t ++ [⟨now, 0, now, nS⟩]) w (w5.setCell ⟨b, 0, none⟩ (.slice (some ⟨g5, 0, none⟩) (n + 1) cap5)) ∧ w5.cell? ⟨b, 0, none⟩ = some (.slice A n c) ∧ w5.frozen? ⟨b, 0, none⟩ = false := fun g5 cap5 w5 h1 h2 h3 => by
      obtain ⟨k1, k2⟩ := After.appended hTB'.out hblt hoB'.out hEB'.out hB (r := ⟨now, 0, now, nS⟩) (by rw [rc_app]; exact h1) h2 h3 hnB'.out
      exact ⟨k1, by rw [Lib.cell_of_heap k2]; rfl, Lib.frozen_of_heap k2 0⟩
    have hT5' := Lib.hid hT5
    clear hlive hT5
    go_region_law (first
      | ((refine step_append_lies _ (by rfl) _ _ _ (by rfl) B 42 i0 (.agg #[.int .i64 0, .int .i64 0, .int .i64 0, .string ⟨#[]⟩]) 4 40 Try.underlying24 hi hz0 hz1 hz2 rfl (by decide) (.slice A n c) n (rc eS (t)) (by rfl) (World.ownsRow.alloc hhere.out _) ⟨w2.heap.size, 0, none⟩ 1 1 [.int .i64 now, .int .i64 0, .int .i64 now, .string ⟨#[]⟩] (by rfl) (by rfl) (World.news_of_block (heap_alloc_new w2.drew _)) hone (by omega) hk1 hk2 hBs (w2.heap.size + 1) (by simp) ?_); intro g5 cap5 w5 ho5 hg5 hat5 hlt5
         obtain ⟨hR5, v1, f1⟩ := hT5'.out g5 cap5 w5 ho5 hg5 hat5
         have hR5' := Lib.hid hR5
         clear hR5 ho5 hg5 hat5 hlt5))
    all_goals
      go_wp2
      go_ret
      exact ⟨by rw [e2'.out]; rfl, by rw [e1'.out]; exact hR5'.out⟩
  · have d8 : decide (8 ≤ (n : Int)) = true := by simp; omega
    rw [if_neg h8] at e1'
    have hn8 : n = 8 := by omega
    have cF := forgetS B b v t w2 hT2'.out (by have := hB2'.out.size; omega) (by rw [hn'.out, hn8]) hnd'.out
    go_wp2_with fail
    go_at_call 24
    refine cF.mono ?_
    rintro e w3 ⟨rfl, hA3⟩
    obtain ⟨u3, hT3, ho3, hE3⟩ := hA3
    have h7 := hdl'.out (by rw [hn'.out]; exact h8)
    obtain ⟨A3, c3, hu3⟩ := ownsRow_form hT3.own
    rw [h7] at hu3
    subst hu3
    have hTB' := Lib.hid hT3
    have hcellB : w3.cell? ⟨b, 0, none⟩ = some (.slice A3 7 c3) := by rw [Lib.cell_of_heap hT3.blk]; rfl
    have hpB' : Hid (w3.heap[w.heap.size]? = some (.cells #[.int .i64 now] 3 (0, 0))) := Lib.hid ((hE3.block w.heap.size (Array.getElem?_eq_some_iff.1 hp2'.out).1 (by omega) (fun e => by have := (hT'.out.ownLt _ e).2; omega)).trans hp2'.out)
    have hnB' := Lib.hid h7
    have hoB' : Hid (∀ k, (Value.slice A3 7 c3).ownBlock = some k → v.ownBlock = some k ∨ w.heap.size ≤ k) := Lib.hid (fun k hk => (ho3 k hk).imp id fun h => by have := hB2'.out.size; omega)
    have hEB' := Lib.hid (hE2'.out.trans hE3)
    clear cF hT3 ho3 hE3 h7
    go_wp2_with fail
    obtain ⟨i0, hi, hz0, hz1, hz2⟩ := info_parts infoTS
    have hone : ∀ u ∈ ([.int .i64 now, .int .i64 0, .int .i64 now, .string ⟨#[]⟩] : List Value), u.oneCell' = true := fun u hu => by
      simp at hu
      rcases hu with rfl | rfl | rfl | rfl <;> rfl
    have hk1 : 7 + 1 ≤ maxLen := by unfold maxLen; omega
    have hk2 : (7 + 1) * 40 ≤ 140737488355328 := by omega
    have hlive : ∀ W, Below w3.heap.size w3 W → W.cell? ⟨b, 0, none⟩ = some (.slice A3 7 c3) ∧ W.cell? ⟨w.heap.size, 0, none⟩ = some (.int .i64 now) := fun W hW => by
      exact ⟨by rw [hW.cell (p := ⟨b, 0, none⟩) hTB'.out.lt]; exact hcellB, by rw [hW.cell (p := ⟨w.heap.size, 0, none⟩) (Array.getElem?_eq_some_iff.1 hpB'.out).1, Lib.cell_of_heap hpB'.out]; rfl⟩
    obtain ⟨_, y2⟩ := hlive w3 (Below.refl _ _)
    obtain ⟨z1, z2⟩ := hlive (w3.alloc (.cells #[.int .i64 now, .int .i64 0, .int .i64 now, .string ⟨#[]⟩] 42)) ((Below.refl _ _).alloc (Nat.le_refl _) _)
    have hhere : Hid (w3.drew.ownsRow B 42 4 (.slice A3 7 c3) 7 (rc eS (dropLeast t))) := Lib.hid (by have := ownsRow_kept hTB'.out.own (Below.drew (Below.refl w3.heap.size w3)); rw [hnB'.out] at this; exact this)
    have hBs : B ≤ (w3.drew.alloc (.cells #[.int .i64 now, .int .i64 0, .int .i64 now, .string ⟨#[]⟩] 42)).heap.size := by simp; have := hEB'.out.size; omega
    have hT5 : ∀ g5 cap5 w5, w5.ownsRow B 42 4 (.slice (some ⟨g5, 0, none⟩) (7 + 1) cap5) (7 + 1) (rc eS (dropLeast t) ++ [.int .i64 now, .int .i64 0, .int .i64 now, .string ⟨#[]⟩]) → (w3.drew.alloc (.cells #[.int .i64 now, .int .i64 0, .int .i64 now, .string ⟨#[]⟩] 42)).grownBy w5 (Value.slice A3 7 c3).ownBlock → ((Value.slice A3 7 c3).ownBlock = some g5 ∨ g5 = w3.heap.size + 1) → After eS 26 42 B b v (dropLeast t ++ [⟨now, 0, now, nS⟩]) w (w5.setCell ⟨b, 0, none⟩ (.slice (some ⟨g5, 0, none⟩) (7 + 1) cap5)) ∧ w5.cell? ⟨b, 0, none⟩ = some (.slice A3 7 c3) ∧ w5.frozen? ⟨b, 0, none⟩ = false := fun g5 cap5 w5 h1 h2 h3 => by
      obtain ⟨k1, k2⟩ := After.appended hTB'.out hblt hoB'.out hEB'.out hB (r := ⟨now, 0, now, nS⟩) (by rw [rc_app]; exact h1) h2 h3 hnB'.out
      exact ⟨k1, by rw [Lib.cell_of_heap k2]; rfl, Lib.frozen_of_heap k2 0⟩
    have hT5' := Lib.hid hT5
    clear hlive hT5
    go_region_law (first
      | ((refine step_append_lies _ (by rfl) _ _ _ (by rfl) B 42 i0 (.agg #[.int .i64 0, .int .i64 0, .int .i64 0, .string ⟨#[]⟩]) 4 40 Try.underlying24 hi hz0 hz1 hz2 rfl (by decide) (.slice A3 7 c3) 7 (rc eS (dropLeast t)) (by rfl) (World.ownsRow.alloc hhere.out _) ⟨w3.heap.size, 0, none⟩ 1 1 [.int .i64 now, .int .i64 0, .int .i64 now, .string ⟨#[]⟩] (by rfl) (by rfl) (World.news_of_block (heap_alloc_new w3.drew _)) hone (by omega) hk1 hk2 hBs (w3.heap.size + 1) (by simp) ?_); intro g5 cap5 w5 ho5 hg5 hat5 hlt5
         obtain ⟨hR5, v1, f1⟩ := hT5'.out g5 cap5 w5 ho5 hg5 hat5
         have hR5' := Lib.hid hR5
         clear hR5 ho5 hg5 hat5 hlt5))
    all_goals
      go_wp2
      go_ret
      exact ⟨by rw [e2'.out]; rfl, by rw [e1'.out]; exact hR5'.out⟩
end Go.Proofs.Ytnmcgmfpalgpnaa.Se
