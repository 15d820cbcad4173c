/-
  THE WALK OF calepinlaw13.SessionOnce, over what the program's calls must keep.
-/
import Derived.Test.YtnmcgmfpalgpnaaSesLateW
import Derived.Maps.OwnSet
import Derived.Maps.OwnOps
import Derived.Maps.Keyed
import Derived.Carry
set_option linter.unusedVariables false
namespace Go.Proofs.Ytnmcgmfpalgpnaa.Se
open Go.Lib Go.RowKit Go.Maps

/-- block b of w is a map[int]int that reads as f -/
def MI (w : World) (b n : Nat) (f : Int → Int) : Prop := ∃ D : DataW Unit, w.ownsMap Try.prog 3 (plainElem Try.prog 3) b n D ∧ IsMap D ∧ ∀ s, D.atKey (.int .i64 s) (.lit (.int .i64 0)) = .lit (.int .i64 (f s))
theorem keyedI : Keyed Try.prog 3 := int_keyed Try.underlying3
theorem zeroI (w : World) : (zeroValue 3).run Try.prog w = .ok (.int .i64 0) w := by kernel_rfl
theorem MI.lt {w : World} {b n : Nat} {f : Int → Int} (h : MI w b n f) : b < w.heap.size := by obtain ⟨D, h, _⟩ := h; exact h.lt
theorem MI.kept {w w' : World} {b n : Nat} {f : Int → Int} (h : MI w b n f) (he : w'.heap[b]? = w.heap[b]?) : MI w' b n f := by
  obtain ⟨D, ⟨es, clock, h1, h2⟩, h3⟩ := h
  exact ⟨D, ⟨es, clock, by rw [he]; exact h1, h2⟩, h3⟩
theorem MI.made (w : World) : MI (w.alloc (.map #[] 0)) w.heap.size 0 fun _ => 0 := ⟨.map [], World.ownsMap_made w _ _ _, isMap_empty, fun s => rfl⟩
theorem wf_int {z : Int} (h : -9223372036854775808 ≤ z ∧ z ≤ 9223372036854775807) : (Lit.int .i64 z).wf = true := by
  unfold Lit.wf
  simp only [Bool.and_eq_true, decide_eq_true_eq]
  exact h
theorem MI.look {w : World} {b n : Nat} {f : Int → Int} (h : MI w b n f) {s : Int} (hs : (Lit.int .i64 s).wf = true) : (Instr.lookup 51 (.map (some b)) (.int .i64 s) false).run Try.prog w = .ok (.int .i64 (f s)) w := by
  obtain ⟨D, h1, _, h3⟩ := h
  obtain ⟨c, hr, hc, _⟩ := h1.lookup_int keyedI Try.underlying51 Try.underlying3 (zeroI w) (keyOf_int_mk Try.underlying3 hs)
  rw [h3 s] at hc
  injection hc with hc
  injection hc with _ hc
  rw [hr, hc]
theorem MI.put {w' : World} {b n : Nat} {f : Int → Int} {D : DataW Unit} (hD : IsMap D) (hf : ∀ s, D.atKey (.int .i64 s) (.lit (.int .i64 0)) = .lit (.int .i64 (f s))) {s x : Int} (h : w'.ownsMap Try.prog 3 (plainElem Try.prog 3) b (n + 1) (D.put (.int .i64 s) (.lit (.int .i64 x)))) :
    MI w' b (n + 1) fun k => if k = s then x else f k := by
  refine ⟨_, h, hD.put _ _, fun k => ?_⟩
  by_cases e : k = s
  · subst e
    show _ = DataW.lit (Lit.int .i64 (if k = k then x else f k))
    rw [if_pos rfl]
    exact atKey_put_same (k := Lit.int .i64 k) hD trivial _ _
  · show _ = DataW.lit (Lit.int .i64 (if k = s then x else f k))
    rw [if_neg e, ← hf k]
    exact atKey_put_other (fun h => e (by injection h)) _ _
theorem Tab.grown {α : Type} {em : α → Value} {ty e : TypeId} {B b : Nat} {v : Value} {t : Tb α} {w w' : World} (h : Tab em ty e B b v t w) {c : Nat} (hg : w.grownBy w' (some c)) (h1 : b ≠ c) (h2 : v.ownBlock ≠ some c) : Tab em ty e B b v t w' :=
  ⟨h.low, by rw [hg.block b h.lt (fun e => h1 (Option.some.inj e))]; exact h.blk, ownsRow_left h.own fun g hk => hg.block g (h.ownLt g hk).2 (fun e => h2 (by rw [hk, e])), h.apart⟩
theorem once_len {i : Nat} {t : Tb Int} {done : Int → Int} (h : OnceInv i t done) : t.length ≤ 8 ∧ (t.map Ro.id).Nodup := by
  obtain ⟨L, U, X, rfl, _⟩ := h
  exact ⟨by simp, by simp⟩

set_option maxHeartbeats 16000000 in
set_option maxRecDepth 100000 in
theorem once_walk (hO' : OpenS) (hA' : AskS) (hD' : DoneS) (hO : OpenI) (hA : AskI) (hD : DoneI) (v : Value) (zs : List Int) (w : World) (hv : ZsAt w v zs) (hwf : ∀ z ∈ zs, (Lit.int .i64 z).wf = true) :
    Calls Try.prog 4 #[v] w fun e w' => e = .returned (.bool true) ∧ Below w.heap.size w w' := by
  have cF := first_any hO' hA' hD' w
  have hmm := @run_makeMap Try.prog
  obtain ⟨A, g, off, c, rfl, h1, h3, h4⟩ := hv
  obtain ⟨n, hn⟩ : ∃ n, zs.length = n := ⟨_, rfl⟩
  rw [hn] at h1 h3 ⊢
  have hn' := Lib.hid hn
  have h3' := Lib.hid h3
  have h4' := Lib.hid h4
  have hwf' := Lib.hid hwf
  have hA1 := Lib.hid hA
  have hD1 := Lib.hid hD
  clear hn h3 h4 hO' hA' hD' hA hD hwf
  go_enter Try.func4, Try.ntmps4
  go_wp2_with fail
  go_at_call 7
  refine cF.mono ?_
  rintro e w1 ⟨rfl, hb1⟩
  clear cF
  have hT0 : TabI w.heap.size w1.heap.size (.slice none 0 0) [] (w1.alloc (.cells #[.slice none 0 0] 50)) := (fresh_tab eI _ _ w1).less hb1.size
  have hb0 : Below w.heap.size w (w1.alloc (.cells #[.slice none 0 0] 50)) := hb1.alloc hb1.size _
  have cO := hO _ _ _ _ 1 _ hT0 hb0.size (by simp) (by simp)
  have hin0 := once_start
  have e1 : openT (0 : Int) [] 1 = ([⟨1, 0, 1, 0⟩], true) := rfl
  rw [e1] at cO hin0
  obtain ⟨b, hbe⟩ : ∃ b, w1.heap.size = b := ⟨_, rfl⟩
  rw [hbe] at hT0 cO
  have hT0' := Lib.hid hT0
  have hb0' := Lib.hid hb0
  have hin0' := Lib.hid hin0
  clear hT0 hb0 hb1 e1 hin0 hO
  go_wp2_with fail
  go_at_call 18
  refine cO.mono ?_
  rintro e w2 ⟨rfl, hA2⟩
  have hb2 := hA2.below hT0'.out hb0'.out hb0'.out.size
  obtain ⟨u2, hT2, _, _⟩ := hA2
  have hM3 := MI.made w2
  have hbm : Below w2.heap.size w2 (w2.alloc (.map #[] 0)) := (Below.refl _ _).alloc (Nat.le_refl _) _
  have hT3 := hT2.kept hbm
  have hb3 : Below w.heap.size w (w2.alloc (.map #[] 0)) := hb2.trans (hbm.mono hb2.size)
  have hbm2 : b ≠ w2.heap.size := by have := hT2.lt; omega
  have hum2 : u2.ownBlock ≠ some w2.heap.size := fun e => by have := (hT2.ownLt _ e).2; omega
  have hw2 : w.heap.size ≤ w2.heap.size := hb2.size
  obtain ⟨mb, hmb⟩ : ∃ mb, w2.heap.size = mb := ⟨_, rfl⟩
  rw [hmb] at hM3 hbm2 hum2 hw2
  have hT3' := Lib.hid hT3
  have hb3' := Lib.hid hb3
  have hM3' := Lib.hid hM3
  have hbm2' := Lib.hid hbm2
  have hum2' := Lib.hid hum2
  have hw2' := Lib.hid hw2
  clear cO hT2 hb2 hM3 hbm hT3 hb3 hbm2 hum2 hw2
  go_wp2
  go_loopw [15] (fun s15 wr => ∃ (i : Nat) (t : Tb Int) (done : Int → Int) (u : Value), s15 = .int .i64 (i : Int) ∧ i ≤ n ∧ i ≤ 100 ∧ TabI w.heap.size b u t wr ∧ OnceInv i t done ∧ MI wr mb i done ∧ u.ownBlock ≠ some mb ∧ Below w.heap.size w wr) (fun s15 wr => n - (RowKit.intOf s15).toNat)
  case atStart => exact ⟨0, _, _, u2, rfl, Nat.zero_le _, Nat.zero_le _, hT3'.out, hin0'.out, hM3'.out, hum2'.out, hb3'.out⟩
  case round =>
    obtain ⟨i, t, done, u, rfl, hi, hi100, hT, hinv, hM, hum, hbw⟩ := hrel
    have hT' := Lib.hid hT
    have hinv' := Lib.hid hinv
    have hM' := Lib.hid hM
    have hum' := Lib.hid hum
    have hbw' := Lib.hid hbw
    by_cases hlt : i < n
    · obtain ⟨z, hz⟩ : ∃ z, zs[i]? = some z := ⟨_, List.getElem?_eq_getElem (by rw [hn'.out]; exact hlt)⟩
      obtain ⟨rfl, hg⟩ := h3'.out (by omega)
      have hc := h4'.out i z hz
      rw [← hbw.cell (p := ⟨g, off + i, none⟩) hg] at hc
      have hzw := hwf'.out z (List.mem_of_getElem? hz)
      clear hT hinv hM hum hbw hz
      by_cases h60 : 100 ≤ i
      · go_wp2
        go_ret
        exact ⟨rfl, hbw'.out⟩
      · obtain ⟨ht8, hnd⟩ := once_len hinv'.out
        have cA := hA1.out _ _ _ _ 1 z _ hT'.out hbw'.out.size ht8
        unfold askE at cA
        have hq := once_ask hinv'.out z
        generalize askT 0 t 1 z = a at cA hq
        obtain ⟨a, y⟩ := a
        simp only at cA hq
        have hnd' := Lib.hid hnd
        have hq' := Lib.hid hq
        have hzw' := Lib.hid hzw
        clear hnd hq hzw
        go_wp2_with fail
        go_at_call 19
        refine cA.mono ?_
        rintro e w3 ⟨rfl, hb3⟩
        have hT3 := Lib.hid (hT'.out.kept hb3)
        have hM3 := Lib.hid (hM'.out.kept (hb3.block _ hM'.out.lt))
        have hb3' := Lib.hid (hbw'.out.trans (hb3.mono hbw'.out.size))
        have hlk := hM3.out.look hzw'.out
        clear cA hb3
        rcases hq'.out with ⟨rfl, hpos, t', hd, hinv2⟩ | ⟨hv, hd, hinv2⟩
        · have cD := hD1.out _ _ _ _ 1 z (2 + (i : Int)) (1000 + (i : Int)) _ hT3.out hb3'.out.size ht8 hnd'.out
          rw [hd] at cD
          have d1 : decide (0 < done z) = false := by simpa using hpos
          have hinv2' := Lib.hid hinv2
          clear hd hinv2 hpos
          go_wp2_with fail
          go_at_call 20
          refine cD.mono ?_
          rintro e w4 ⟨rfl, hA4⟩
          have hb4 := Lib.hid (hA4.below hT3.out hb3'.out hb3'.out.size)
          obtain ⟨u4, hT4, ho4, hE4⟩ := hA4
          have hM4 := hM3.out.kept (hE4.block mb hM3.out.lt (fun e => hbm2'.out e.symm) hum'.out)
          have hum4 : u4.ownBlock ≠ some mb := fun e => by
            rcases ho4 mb e with h | h
            · exact hum'.out h
            · have := hM3.out.lt; omega
          obtain ⟨D, hD4, hDm, hDf⟩ := hM4
          obtain ⟨w5, hrun, hown5, hg5⟩ := hD4.update (key := .int .i64 z) (val := .int .i64 (1000 + (i : Int))) keyedI Try.underlying51 (by unfold maxLen; omega) (keyOf_int_mk Try.underlying3 hzw'.out) (plainElem_int Try.underlying3 (wf_int (by omega)))
          have hM5 := Lib.hid (MI.put hDm hDf hown5)
          have hT5 := Lib.hid (hT4.grown hg5 hbm2'.out hum4)
          have hb5 := Lib.hid (hb4.out.grown hg5 hb4.out.size (fun k hk => by cases hk; exact hw2'.out))
          have hum4' := Lib.hid hum4
          clear cD hT4 ho4 hE4 hum4 hD4 hlk hown5 hg5
          go_wp2
          go_roundw
          case rel => exact ⟨i + 1, t', _, u4, by go_num, by omega, by omega, hT5.out, hinv2'.out, hM5.out, hum4'.out, hb5.out⟩
          case measure => simp [RowKit.intOf]; omega
        · have cD := hD1.out _ _ _ _ 1 z (2 + (i : Int)) 5 _ hT3.out hb3'.out.size ht8 hnd'.out
          rw [hd] at cD
          have hinv2' := Lib.hid hinv2
          clear hd hinv2
          have hv2 : (a = 2 ∧ (done z == 0) = false ∧ (y != done z) = false) ∨ a = 3 := by
            rcases hv with ⟨h1, h2, h3⟩ | h
            · exact .inl ⟨h1, by simpa using h2, by simpa using h3⟩
            · exact .inr h
          have hfin : ∀ w4, After eI 50 59 w.heap.size b u t w3 w4 → ∃ u4, TabI w.heap.size b u4 t w4 ∧ MI w4 mb (i + 1) done ∧ u4.ownBlock ≠ some mb ∧ Below w.heap.size w w4 := fun w4 hA4 => by
            have hb4 := hA4.below hT3.out hb3'.out hb3'.out.size
            obtain ⟨u4, hT4, ho4, hE4⟩ := hA4
            obtain ⟨D, hD4, hDm, hDf⟩ := hM3.out.kept (hE4.block mb hM3.out.lt (fun e => hbm2'.out e.symm) hum'.out)
            refine ⟨u4, hT4, ⟨D, hD4.mono (Nat.le_succ _), hDm, hDf⟩, fun e => ?_, hb4⟩
            rcases ho4 mb e with h | h
            · exact hum'.out h
            · have := hM3.out.lt; omega
          have hfin' := Lib.hid hfin
          clear hv hfin
          rcases hv2 with ⟨rfl, d1, d2⟩ | rfl
          all_goals
            go_wp2_with fail
            go_at_call 20
            refine cD.mono ?_
            rintro e w4 ⟨rfl, hA4⟩
            obtain ⟨u4, k1, k2, k3, k4⟩ := hfin'.out w4 hA4
            have hk := Lib.hid (And.intro k1 (And.intro k2 (And.intro k3 k4)))
            clear cD hA4 k1 k2 k3 k4
            go_wp2
            go_roundw
            case rel => exact ⟨i + 1, t, done, u4, by go_num, by omega, by omega, hk.out.1, hinv2'.out, hk.out.2.1, hk.out.2.2.1, hk.out.2.2.2⟩
            case measure => simp [RowKit.intOf]; omega
    · clear hT hinv hM hum hbw
      go_wp2
      go_ret
      exact ⟨rfl, hbw'.out⟩
end Go.Proofs.Ytnmcgmfpalgpnaa.Se
