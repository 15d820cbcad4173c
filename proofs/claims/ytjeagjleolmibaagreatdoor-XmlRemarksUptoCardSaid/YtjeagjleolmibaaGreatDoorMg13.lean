import Derived.Test.YtjeagjleolmibaaGreatDoorMg12

/-
  WALKS OF THE PROGRAM's READER OF LAYER xml: meant.
-/
set_option linter.unusedVariables false
namespace Go.Proofs.YtjeagjleolmibaaGreatDoor.Xm
open Go.Lib Go.RowKit

def MeantP (s : Row) (e : Ending) : Prop := (∃ x : ByteArray, ent s = some x.data.toList ∧ e = .returned (.string x)) ∨ (ent s = none ∧ e = gone)
theorem ent_len {s x : Row} (h : ent s = some x) : x.length ≤ 4 := by
  have h1 : ∀ n, (utf n).length ≤ 4 := fun n => by
    unfold utf
    repeat' split
    all_goals simp
  have h2 : ∀ b d y, numE b d = some y → y.length ≤ 4 := fun b d y hy => by
    unfold numE at hy
    split at hy
    · cases hy
    · cases hd : digN b 0 d with
      | none => rw [hd] at hy; cases hy
      | some n =>
        rw [hd, Option.bind_some] at hy
        split at hy
        · injection hy with hy; rw [← hy]; exact h1 n
        · cases hy
  unfold ent at h
  split at h
  · injection h with h; rw [← h]; decide
  · split at h
    · injection h with h; rw [← h]; decide
    · split at h
      · injection h with h; rw [← h]; decide
      · split at h
        · injection h with h; rw [← h]; decide
        · split at h
          · injection h with h; rw [← h]; decide
          · split at h
            · exact h2 _ _ _ h
            · exact h2 _ _ _ h
            · cases h
theorem nm_yes {s : ByteArray} {l : Row} (h : s.data.toList = l) : (s.toList == l) = true ∧ s.toList = l := ⟨by rw [Lib.toList_data, h]; simp, by rw [Lib.toList_data, h]⟩
theorem nm_not {s : ByteArray} {l : Row} (h : s.data.toList ≠ l) : (s.toList == l) = false ∧ ¬ s.toList = l := ⟨by rw [Lib.toList_data]; exact beq_eq_false_iff_ne.2 h, by rw [Lib.toList_data]; exact h⟩
theorem meant_found {s : Row} {n : Nat} (hn : n ≤ 1114111) {d : Row} (hs : s = 35 :: d) (hc : codeOf d = some n) (hr : Lib.validRune (n : Int) = true) (hv : Ch.valid (Utf8.encode (n : Int)).data.toList = true) : MeantP s (.returned (.string (Utf8.encode (n : Int)))) := by
  refine .inl ⟨_, ?_, rfl⟩
  rw [encode_utf hr] at hv ⊢
  rw [ent_code hs, hc, Option.bind_some, if_pos hv]
theorem meant_bad {s : Row} {n : Nat} (hn : n ≤ 1114111) {d : Row} (hs : s = 35 :: d) (hc : codeOf d = some n) (hv : Lib.validRune (n : Int) = false ∨ (Lib.validRune (n : Int) = true ∧ Ch.valid (Utf8.encode (n : Int)).data.toList = false)) : MeantP s gone := by
  refine .inr ⟨?_, rfl⟩
  rw [ent_code hs, hc, Option.bind_some, if_neg]
  rcases hv with h | ⟨h, hv⟩
  · rw [utf_bad hn h]; decide
  · rw [encode_utf h] at hv; rw [hv]; decide
set_option maxHeartbeats 4000000 in
set_option maxRecDepth 100000 in
theorem meant_any (s : ByteArray) (w : World) (hG : Gw w) (hs : s.size ≤ 65536) :
    Calls Tryz.prog 83 #[.string s] w fun e w' => MeantP s.data.toList e ∧ Below w.heap.size w w' := by
  have cT := fun (t : ByteArray) (ht : t.size ≤ 65536) => number_any t w hG ht
  have hGW := Lib.hid (fun (W : World) (hW : Below w.heap.size w W) => (gw_below hG hW).tabs)
  have cP := pre_any s ⟨#[35]⟩ w
  clear hG
  by_cases h1 : s.data.toList = [97, 109, 112]
  · have hfin := Lib.hid (show MeantP s.data.toList (.returned (.string ⟨#[38]⟩)) from .inl ⟨_, by rw [h1]; rfl, rfl⟩)
    obtain ⟨e1, e1'⟩ := nm_yes h1
    clear cT cP h1
    go_enter Tryz.func83, Tryz.ntmps83
    go_wp2
    go_ret
    exact ⟨hfin.out, Below.refl _ _⟩
  obtain ⟨e1, e1'⟩ := nm_not h1
  by_cases h2 : s.data.toList = [108, 116]
  · have hfin := Lib.hid (show MeantP s.data.toList (.returned (.string ⟨#[60]⟩)) from .inl ⟨_, by rw [h2]; rfl, rfl⟩)
    obtain ⟨e2, e2'⟩ := nm_yes h2
    clear cT cP h2 h1
    go_enter Tryz.func83, Tryz.ntmps83
    go_wp2
    go_ret
    exact ⟨hfin.out, Below.refl _ _⟩
  obtain ⟨e2, e2'⟩ := nm_not h2
  by_cases h3 : s.data.toList = [103, 116]
  · have hfin := Lib.hid (show MeantP s.data.toList (.returned (.string ⟨#[62]⟩)) from .inl ⟨_, by rw [h3]; rfl, rfl⟩)
    obtain ⟨e3, e3'⟩ := nm_yes h3
    clear cT cP h3 h2 h1
    go_enter Tryz.func83, Tryz.ntmps83
    go_wp2
    go_ret
    exact ⟨hfin.out, Below.refl _ _⟩
  obtain ⟨e3, e3'⟩ := nm_not h3
  by_cases h4 : s.data.toList = [113, 117, 111, 116]
  · have hfin := Lib.hid (show MeantP s.data.toList (.returned (.string ⟨#[34]⟩)) from .inl ⟨_, by rw [h4]; rfl, rfl⟩)
    obtain ⟨e4, e4'⟩ := nm_yes h4
    clear cT cP h4 h3 h2 h1
    go_enter Tryz.func83, Tryz.ntmps83
    go_wp2
    go_ret
    exact ⟨hfin.out, Below.refl _ _⟩
  obtain ⟨e4, e4'⟩ := nm_not h4
  by_cases h5 : s.data.toList = [97, 112, 111, 115]
  · have hfin := Lib.hid (show MeantP s.data.toList (.returned (.string ⟨#[39]⟩)) from .inl ⟨_, by rw [h5]; rfl, rfl⟩)
    obtain ⟨e5, e5'⟩ := nm_yes h5
    clear cT cP h5 h4 h3 h2 h1
    go_enter Tryz.func83, Tryz.ntmps83
    go_wp2
    go_ret
    exact ⟨hfin.out, Below.refl _ _⟩
  obtain ⟨e5, e5'⟩ := nm_not h5
  have hoth : Hid (([35] : Row).isPrefixOf s.data.toList = false → ent s.data.toList = none) := Lib.hid fun h => ent_other h h1 h2 h3 h4 h5
  clear h1 h2 h3 h4 h5
  go_enter Tryz.func83, Tryz.ntmps83
  go_wp2_with fail
  go_at_call 53
  with_reducible refine cP.mono ?_
  rintro e w3 ⟨hq, rfl⟩
  clear cP
  rcases hq with ⟨hn, rfl⟩ | ⟨t, hy, rfl⟩
  · have hfin := Lib.hid (show MeantP s.data.toList gone from .inr ⟨hoth.out hn, rfl⟩)
    have cN := cT s hs
    clear cT hn hoth
    go_wp2_with fail
    go_at_call 95
    refine cN.mono ?_
    rintro e w4 ⟨⟨x, ok, rfl, _, _⟩, hb4⟩
    have hb4' := Lib.hid hb4
    have cG := giveUp_any w4
    unfold gone at cG hfin
    clear cN hb4 hGW
    go_wp2_with fail
    go_at_call 45
    with_reducible refine cG.mono ?_
    rintro e w5 ⟨rfl, rfl⟩
    go_wp2
    exact ⟨rfl, hfin.out, hb4'.out⟩
  · have hsz := pre_size hy
    have hsz' : s.size = 1 + t.size := hsz
    have hy' : Hid (s.data.toList = 35 :: t.data.toList) := Lib.hid hy
    have cN := cT t (by omega)
    clear cT hy hsz hoth
    go_wp2_with fail
    go_at_call 95
    refine cN.mono ?_
    rintro e w4 ⟨⟨x, ok, rfl, hok, hno⟩, hb4⟩
    have hb4' := Lib.hid hb4
    have hT4 := Lib.hid (fun (W : World) (hW : Below w4.heap.size w4 W) => hGW.out W (below_then hb4 hW))
    clear cN hb4 hGW
    cases ok with
    | false =>
      have hfin := Lib.hid (show MeantP s.data.toList gone from .inr ⟨by rw [ent_code hy'.out, hno rfl]; rfl, rfl⟩)
      have cG := giveUp_any w4
      unfold gone at cG hfin
      clear hok hno hT4
      go_wp2_with fail
      go_at_call 45
      with_reducible refine cG.mono ?_
      rintro e w5 ⟨rfl, rfl⟩
      go_wp2
      exact ⟨rfl, hfin.out, hb4'.out⟩
    | true =>
      obtain ⟨n, rfl, hn, hc⟩ := hok rfl
      have hc' := Lib.hid hc
      have hn' := Lib.hid hn
      have r1 : IntKind.i32.wrap (n : Int) = (n : Int) := by rw [IntKind.wrap_i32]; omega
      have cV := fun W => Tryz.utf8_ValidRune (n : Int) W
      obtain ⟨K, hK⟩ : ∃ K, Lib.validRune (n : Int) = K := ⟨_, rfl⟩
      rw [hK] at cV
      have hK' := Lib.hid hK
      clear hno hc hok hK
      cases K with
      | false =>
        have hfin := Lib.hid (meant_bad hn hy'.out hc'.out (.inl hK'.out))
        have cG := giveUp_any w4
        unfold gone at cG hfin
        clear hT4 hn
        go_wp2_with fail
        go_at_call 96
        with_reducible refine (cV _).mono ?_
        rintro e w5 ⟨rfl, rfl⟩
        go_wp2_with fail
        go_at_call 45
        with_reducible refine cG.mono ?_
        rintro e w5 ⟨rfl, rfl⟩
        go_wp2
        exact ⟨rfl, hfin.out, hb4'.out⟩
      | true =>
        obtain ⟨y, hy2⟩ : ∃ y, Utf8.encode (n : Int) = y := ⟨_, rfl⟩
        obtain ⟨K2, hK2⟩ : ∃ K2, Ch.valid (Utf8.encode (n : Int)).data.toList = K2 := ⟨_, rfl⟩
        have hys : y.size ≤ 4 := by
          rw [← hy2, Lib.size_eq, encode_utf hK'.out]
          unfold utf
          repeat' split
          all_goals simp
        have cW := Ch.valid_any y w4 (by omega) (hT4.out w4 (Below.refl _ _))
        rw [← hy2, hK2] at cW
        cases K2 with
        | true =>
          have hfin := Lib.hid (meant_found hn hy'.out hc'.out hK'.out hK2)
          rw [hy2] at hfin cW
          clear hT4 hn hK2 hys
          go_wp2_with fail
          go_at_call 96
          with_reducible refine (cV _).mono ?_
          rintro e w5 ⟨rfl, rfl⟩
          go_wp2_with fail
          go_at_call 27
          refine cW.mono ?_
          rintro e w6 ⟨rfl, hb6⟩
          have hb6' := Lib.hid (below_then hb4'.out hb6)
          clear cW hb6
          go_wp2
          go_ret
          exact ⟨hfin.out, hb6'.out⟩
        | false =>
          have hfin := Lib.hid (meant_bad hn hy'.out hc'.out (.inr ⟨hK'.out, hK2⟩))
          rw [hy2] at cW
          clear hT4 hn hK2 hys
          go_wp2_with fail
          go_at_call 96
          with_reducible refine (cV _).mono ?_
          rintro e w5 ⟨rfl, rfl⟩
          go_wp2_with fail
          go_at_call 27
          refine cW.mono ?_
          rintro e w6 ⟨rfl, hb6⟩
          have hb6' := Lib.hid (below_then hb4'.out hb6)
          have cG := giveUp_any w6
          unfold gone at cG hfin
          clear cW hb6
          go_wp2_with fail
          go_at_call 45
          with_reducible refine cG.mono ?_
          rintro e w7 ⟨rfl, rfl⟩
          go_wp2
          exact ⟨rfl, hfin.out, hb6'.out⟩
end Go.Proofs.YtjeagjleolmibaaGreatDoor.Xm

/-
  WALKS OF THE PROGRAM's READER OF LAYER xml: what stands in an element, given what an element is read as.
-/
set_option linter.unusedVariables false
namespace Go.Proofs.YtjeagjleolmibaaGreatDoor.Xm
open Go.Lib Go.RowKit

theorem pre_two {a c : UInt8} {t : Row} (h : ([a, c] : Row).isPrefixOf t = true) : ∃ u, t = a :: c :: u := by
  rcases pre_split [a, c] t with ⟨_, u, hu⟩ | hf
  · exact ⟨u, hu⟩
  · rw [h] at hf; cases hf
/-- how much there is at most -/
def Room (σ : St) : Prop := σ.rest.length ≤ 65536 ∧ σ.txt.length + 4 * σ.rest.length ≤ 262144 ∧ σ.pcs.length + 4 * σ.rest.length ≤ 262144
/-- the reader stands at σ -/
structure Sits (w0 : World) (b : Nat) (σ : St) (x : ByteArray) (q : Value) (w : World) : Prop where
  rest : σ.rest = x.data.toList
  bef : Bef w0 b x σ.txt (σ.pcs, q) w
  room : Room σ
theorem Sits.own {w0 w : World} {b : Nat} {σ : St} {x : ByteArray} {q : Value} (h : Sits w0 b σ x q w) : PsOwn w0.heap.size q σ.pcs w := by
  obtain ⟨p, v, hv⟩ := h.bef.rd
  exact hv.pcs
theorem Sits.small {w0 w : World} {b : Nat} {σ : St} {x : ByteArray} {q : Value} (h : Sits w0 b σ x q w) : x.size ≤ 65536 ∧ σ.txt.length + 4 * x.size ≤ 262144 ∧ σ.pcs.length + 4 * x.size ≤ 262144 := by
  have := h.room
  unfold Room at this
  rw [h.rest, ← Lib.size_eq] at this
  exact this
/-- what stays the same while elements come and go -/
def Like (σ τ : St) : Prop := ans σ = ans τ ∧ τ.stack = σ.stack ∧ τ.env = σ.env ∧ τ.had = σ.had
theorem Like.refl (σ : St) : Like σ σ := ⟨rfl, rfl, rfl, rfl⟩
theorem Like.trans {σ τ υ : St} (h : Like σ τ) (k : Like τ υ) : Like σ υ := ⟨h.1.trans k.1, k.2.1.trans h.2.1, k.2.2.1.trans h.2.2.1, k.2.2.2.trans h.2.2.2⟩
/-- an element read, with all that is in it -/
def ElemP (w0 w : World) (b : Nat) (q : Value) (σ : St) (r : ByteArray) (e : Ending) (w' : World) : Prop :=
  (∃ (τ : St) (x : ByteArray) (q' : Value), ans σ = ans τ ∧ τ.stack = σ.stack ∧ τ.env = σ.env ∧ τ.had = true ∧ τ.txt = [] ∧ Sits w0 b τ x q' w' ∧ x.size < r.size ∧ KeptW q w q' w' ∧ e = .returned (.tuple #[])) ∨
  (ans σ = none ∧ e = gone ∧ Below w0.heap.size w0 w' ∧ ∃ q' : Value, KeptW q w q' w')
/-- of what is asked an element -/
structure Opens (σ : St) (E : List Env) (v : Value) (d : Nat) (w : World) : Prop where
  chain : Chain w v E
  env : σ.env = E.flatten
  deep : d = σ.stack.length + 1
  opens : ∀ t, σ.rest = 60 :: t → step σ = opens σ t
  no : σ.rest.head? ≠ some 60 → ans σ = none
def ElemC (n : Nat) : Prop := ∀ (w0 w : World) (b : Nat) (σ : St) (r : ByteArray) (q : Value) (E : List Env) (v : Value) (d : Nat), r.size ≤ n → Gw w0 → Sits w0 b σ r q w → Opens σ E v d w →
  Calls Tryz.prog 44 #[.pointer (some ⟨b, 0, none⟩), v, .int .i64 (d : Int)] w fun e w' => ElemP w0 w b q σ r e w'
/-- what stands in an element -/
def ContP (w0 w : World) (b : Nat) (q : Value) (σ : St) (r : ByteArray) (e : Ending) (w' : World) : Prop :=
  (∃ (τ : St) (x : ByteArray) (q' : Value), Like σ τ ∧ Sits w0 b τ x q' w' ∧ (∃ t, τ.rest = 60 :: 47 :: t) ∧ x.size ≤ r.size ∧ KeptW q w q' w' ∧ e = .returned (.tuple #[])) ∨
  (ans σ = none ∧ e = gone ∧ Below w0.heap.size w0 w' ∧ ∃ q' : Value, KeptW q w q' w')
theorem sits_rest {w0 w w' : World} {b : Nat} {σ : St} {x x' : ByteArray} {q : Value} (h : Sits w0 b σ x q w) (hb : Bef w0 b x' σ.txt (σ.pcs, q) w') (hs : x'.size ≤ x.size) : Sits w0 b { σ with rest := x'.data.toList } x' q w' := by
  have h1 := h.small
  refine ⟨rfl, hb, ?_⟩
  unfold Room
  simp only
  rw [← Lib.size_eq]
  omega
theorem sits_text {w0 w w' : World} {b : Nat} {σ : St} {x x' : ByteArray} {a : Row} {q : Value} (h : Sits w0 b σ x q w) (hb : Bef w0 b x' (σ.txt ++ a) (σ.pcs, q) w') (hs : a.length + 4 * x'.size ≤ 4 * x.size) : Sits w0 b { σ with rest := x'.data.toList, txt := σ.txt ++ a } x' q w' := by
  have h1 := h.small
  refine ⟨rfl, hb, ?_⟩
  unfold Room
  simp only
  rw [← Lib.size_eq, List.length_append]
  omega
theorem like_rest {σ τ : St} {v : Row} (h : Like σ τ) (ha : ans τ = ans { τ with rest := v }) : Like σ { τ with rest := v } := h.trans ⟨ha, rfl, rfl, rfl⟩
theorem like_text {σ τ : St} {v a : Row} (h : Like σ τ) (ha : ans τ = ans { τ with rest := v, txt := τ.txt ++ a }) : Like σ { τ with rest := v, txt := τ.txt ++ a } := h.trans ⟨ha, rfl, rfl, rfl⟩
set_option maxHeartbeats 4000000 in
set_option maxRecDepth 100000 in
theorem content_any (n : Nat) (hE : ElemC n) {w0 w : World} (hG : Gw w0) {b : Nat} {σ : St} {r : ByteArray} {q : Value} {E : List Env} {v : Value} (d : Nat) (hn : r.size ≤ n) (h : Sits w0 b σ r q w) (hc : Chain w v E) (henv : σ.env = E.flatten) (hst : σ.stack ≠ []) (hhad : σ.had = true) (hd : d = σ.stack.length) (hdb : d ≤ 100) :
    Calls Tryz.prog 62 #[.pointer (some ⟨b, 0, none⟩), v, .int .i64 (d : Int)] w fun e w' => ContP w0 w b q σ r e w' := by
  have h' := Lib.hid h
  have hown := Lib.hid h.own
  have hd' := Lib.hid hd
  have hd1 : IntKind.i64.wrap ((d : Int) + 1) = (d : Int) + 1 := IntWalk.i64_in _ (by omega)
  clear h hd
  go_enter Tryz.func62, Tryz.ntmps62
  go_wp2
  go_loopw [] (fun wr => ∃ (τ : St) (x : ByteArray) (q1 : Value), Like σ τ ∧ Sits w0 b τ x q1 wr ∧ KeptW q w q1 wr ∧ x.size ≤ r.size) (fun wr => restSize b wr)
  case atStart => exact ⟨σ, r, q, Like.refl _, h'.out, KeptW.refl _ _, Nat.le_refl _⟩
  case round =>
    obtain ⟨τ, x, q1, hl, hS, hk, hx⟩ := hrel
    obtain ⟨hx1, hx2, hx3⟩ := hS.small
    obtain ⟨c0, f0⟩ := hS.bef.cell
    have hrs := hS.bef.size
    have hl' := Lib.hid hl
    have hS' := Lib.hid hS
    have hk' := Lib.hid hk
    have hts : Hid (τ.stack ≠ []) := Lib.hid (by rw [hl.2.1]; exact hst)
    have cH := hasPre_any x ⟨#[60, 47]⟩ wr
    obtain ⟨K, hK⟩ : ∃ K, (⟨#[60, 47]⟩ : ByteArray).data.toList.isPrefixOf x.data.toList = K := ⟨_, rfl⟩
    rw [hK] at cH
    have hK' : Hid (([60, 47] : Row).isPrefixOf x.data.toList = K) := Lib.hid hK
    have cR := remark_any hG hS.bef hx1
    clear hl hS hk hK h'
    go_wp2_with fail
    go_at_call 81
    with_reducible refine cH.mono ?_
    rintro e w3 ⟨rfl, rfl⟩
    clear cH
    cases K with
    | true =>
      have hfin := Lib.hid (show ContP w0 w b q σ r (.returned (.tuple #[])) w3 from .inl ⟨τ, x, q1, hl'.out, hS'.out, by rw [hS'.out.rest]; exact pre_two hK'.out, hx, hk'.out, rfl⟩)
      clear hl' hS' hK' cR hts
      go_wp2
      go_end0
      exact hfin.out
    | false =>
      go_wp2_with fail
      go_at_call 56
      with_reducible refine cR.mono ?_
      rintro e w4 ⟨hq, hk4⟩
      clear cR
      have hk4' := Lib.hid (hk'.out.trans hk4.W)
      clear hk4 hk'
      rcases hq with ⟨t, r', hy, hv, rfl, h4⟩ | ⟨hnr, rfl, h4⟩ | ⟨t, hy, hv, rfl, h4⟩
      · have hlt := remark_size hy hv
        have hrel2 := Lib.hid (show ∃ (τ : St) (x : ByteArray) (q1 : Value), Like σ τ ∧ Sits w0 b τ x q1 w4 ∧ KeptW q w q1 w4 ∧ x.size ≤ r.size from ⟨_, r', _, like_rest hl'.out (by rw [ans_remark (by rw [hS'.out.rest]; exact hy), hv]; rfl), sits_rest hS'.out h4 (by omega), hk4'.out, by omega⟩)
        have hm := Lib.hid (show restSize b w4 < restSize b w3 by rw [h4.size, hrs]; exact hlt)
        clear hy hv h4 hl' hS' hK' hts hlt
        go_wp2
        go_roundw
        case rel => exact hrel2.out
        case measure => exact hm.out
      · have cC := characters_any h4 hx1 (by omega)
        have hnr' := Lib.hid hnr
        clear h4 hnr
        go_wp2_with fail
        go_at_call 82
        with_reducible refine cC.mono ?_
        rintro e w5 ⟨hq, hk5⟩
        clear cC
        have hk5' := Lib.hid (hk4'.out.trans hk5.W)
        clear hk5 hk4'
        rcases hq with ⟨a, x', hsp, hno, hhd, rfl, h5⟩ | ⟨hno, rfl, h5⟩
        · have hsz : x.size = a.size + x'.size := by
            have := congrArg List.length hsp
            rw [List.length_append, ← Lib.size_eq, ← Lib.size_eq, ← Lib.size_eq] at this
            exact this
          by_cases ha : 0 < a.size
          · have had : decide (0 < a.size) = true := decide_eq_true ha
            rw [had]
            have hrel2 := Lib.hid (show ∃ (τ : St) (x : ByteArray) (q1 : Value), Like σ τ ∧ Sits w0 b τ x q1 w5 ∧ KeptW q w q1 w5 ∧ x.size ≤ r.size from ⟨_, x', _, like_text hl'.out (ans_bytes (by rw [hS'.out.rest]; exact hsp) hts.out hno), sits_text hS'.out h5 (by rw [← Lib.size_eq]; omega), hk5'.out, by omega⟩)
            have hm := Lib.hid (show restSize b w5 < restSize b w3 by rw [h5.size, hrs]; omega)
            clear hsp hno hhd h5 hl' hS' hK' hts had hnr'
            go_wp2
            go_roundw
            case rel => exact hrel2.out
            case measure => exact hm.out
          · have had : decide (0 < a.size) = false := decide_eq_false ha
            rw [had]
            have han : a.data.toList = [] := List.eq_nil_of_length_eq_zero (by rw [← Lib.size_eq]; omega)
            rw [han, List.nil_append] at hsp
            rw [han, List.append_nil] at h5
            have hxx : x = x' := data_is hsp
            subst hxx
            have hhd' := Lib.hid hhd
            have cT := take_any h5 ⟨#[38]⟩
            clear hsp hno hhd h5 had han hsz ha
            go_wp2_with fail
            go_at_call 41
            with_reducible refine cT.mono ?_
            rintro e w6 ⟨hq, hk6⟩
            clear cT
            have hk6' := Lib.hid (hk5'.out.trans hk6.W)
            clear hk6 hk5'
            rcases hq with ⟨x2, hy, rfl, h6⟩ | ⟨hn38, rfl, h6⟩
            · have hsz2 := pre_size hy
              have hsz2' : x.size = 1 + x2.size := hsz2
              have hy' : Hid (x.data.toList = 38 :: x2.data.toList) := Lib.hid hy
              have h6' := Lib.hid h6
              have cU := until_any hG (h6.kept (Below.drew (Below.refl _ _))) ⟨#[59]⟩ (by decide) (by omega)
              clear hy h6 hsz2 hhd' hnr' hK'
              have hB6 : Below w0.heap.size w0 w6.drew := h6'.out.bel.trans ((Below.drew (Below.refl _ _)).mono h6'.out.bel.size)
              go_wp2_with fail
              go_region_with (first
                  | (go_at_call 42
                     refine cU.mono ?_
                     rintro e w7 ⟨hq, hk7⟩
                     rcases hq with ⟨a2, x3, hf, rfl, h7⟩ | ⟨hnf, rfl, hb7⟩
                     rotate_left
                     · have hfin := Lib.hid (show ContP w0 w b q σ r gone w7 from .inr ⟨by rw [hl'.out.1, ans_ent (by rw [hS'.out.rest]; exact hy'.out) hts.out, show find [59] x2.data.toList = none from hnf]; rfl, rfl, hb7, _, hk6'.out.trans ((KeptR.of_below (Below.drew (Below.refl _ _))).trans hk7).W⟩)
                       unfold gone at hfin ⊢
                       go_wp2
                       exact ⟨rfl, hfin.out⟩
                     have hbel7 := h7.bel
                     have hsa := find_sizes (by decide) hf
                     rw [← Lib.size_eq] at hsa
                     have cM := meant_any a2 w7 (h7.gw hG) (by omega))
                  | (go_at_call 83
                     refine cM.mono ?_
                     rintro e w8 ⟨hq8, hb8⟩
                     rcases hq8 with ⟨y, hy8, rfl⟩ | ⟨hy8, rfl⟩
                     rotate_left
                     · have hfin := Lib.hid (show ContP w0 w b q σ r gone w8 from .inr ⟨by rw [hl'.out.1, ans_ent (by rw [hS'.out.rest]; exact hy'.out) hts.out, show find [59] x2.data.toList = _ from hf, Option.bind_some, hy8]; rfl, rfl, (h7.kept hb8).bel, _, hk6'.out.trans (((KeptR.of_below (Below.drew (Below.refl _ _))).trans hk7).trans (KeptR.of_below hb8)).W⟩)
                       unfold gone at hfin ⊢
                       go_wp2
                       exact ⟨rfl, hfin.out⟩
                     have h8 := h7.kept hb8
                     have hbel8 := h8.bel
                     have hy4 := ent_len hy8
                     rw [← Lib.size_eq] at hy4
                     obtain ⟨p8, v8, hv8⟩ := h8.rd
                     have cW := rdWrite_any hv8 y (by omega) h8.bel.size)
                  | (go_at_call 22
                     refine cW.mono ?_
                     rintro e w9 ⟨rfl, hrd9, hb9, hk9⟩
                     have hbel9 : Below w0.heap.size w0 w9 := hbel8.trans hb9))
              have hk9' := Lib.hid (hk6'.out.trans ((((KeptR.of_below (Below.drew (Below.refl _ _))).trans hk7).trans (KeptR.of_below hb8)).trans hk9).W)
              have hBef9 : Bef w0 b x3 (τ.txt ++ y.data.toList) (τ.pcs, q1) w9 := ⟨hbel9, hrd9⟩
              have hrel2 := Lib.hid (show ∃ (τ : St) (x : ByteArray) (q1 : Value), Like σ τ ∧ Sits w0 b τ x q1 w9 ∧ KeptW q w q1 w9 ∧ x.size ≤ r.size from
                ⟨_, x3, _, like_text (a := y.data.toList) (v := x3.data.toList) hl'.out (by rw [ans_ent (by rw [hS'.out.rest]; exact hy'.out) hts.out, show find [59] x2.data.toList = some (a2.data.toList, x3.data.toList) from hf, Option.bind_some, hy8]; rfl), sits_text hS'.out hBef9 (by rw [← Lib.size_eq]; omega), hk9'.out, by omega⟩)
              have hm := Lib.hid (show restSize b w9 < restSize b w3 by rw [hBef9.size, hrs]; omega)
              clear hBef9 hk9' hbel9 hrd9 hb9 hk9 cW hv8 hy4 hbel8 h8 hy8 hb8 cM hsa hbel7 h7 hf hk7
              go_wp2
              go_roundw
              case rel => exact hrel2.out
              case measure => exact hm.out
            · have h60 : Hid (∃ t, τ.rest = 60 :: t) := Lib.hid (by
                obtain ⟨c, t, hct, hc⟩ := hhd'.out
                rcases hc with rfl | rfl
                · exact ⟨t, by rw [hS'.out.rest]; exact hct⟩
                · rw [hct] at hn38; simp at hn38)
              have hop : Opens τ E v (d + 1) w6 := ⟨hc.kept (hk6'.out.old hown.out), by rw [hl'.out.2.2.1]; exact henv, by rw [hd'.out, hl'.out.2.1], fun t ht => step_in ht hts.out (by
                have := hK'.out
                rw [← hS'.out.rest, ht] at this
                simpa [List.isPrefixOf] using this) (by
                have := hnr'.out
                rw [← hS'.out.rest, ht] at this
                simpa [List.isPrefixOf, remarkS] using this), fun hne => by
                obtain ⟨t, ht⟩ := h60.out
                rw [ht] at hne
                exact absurd rfl hne⟩
              have hS6 : Sits w0 b τ x q1 w6 := ⟨hS'.out.rest, h6, hS'.out.room⟩
              have cE := hE w0 w6 b τ x q1 E v (d + 1) (by omega) hG hS6 hop
              rw [show ((d + 1 : Nat) : Int) = (d : Int) + 1 from rfl] at cE
              clear hn38 h6 hop hS6 h60 hhd' hnr' hK'
              go_wp2_with fail
              go_at_call 44
              with_reducible refine cE.mono ?_
              rintro e w7 hq
              clear cE
              rcases hq with ⟨υ, y, q9, z1, z2, z3, z4, z5, z6, z7, z8, rfl⟩ | ⟨z1, rfl, z2, q9, z9⟩
              · have hl7 := hl'.out
                have hrel2 := Lib.hid (show ∃ (τ : St) (x : ByteArray) (q1 : Value), Like σ τ ∧ Sits w0 b τ x q1 w7 ∧ KeptW q w q1 w7 ∧ x.size ≤ r.size from
                  ⟨υ, y, q9, hl7.trans ⟨z1, z2, z3, by rw [z4, hl7.2.2.2, hhad]⟩, z6, hk6'.out.trans z8, by omega⟩)
                have hm := Lib.hid (show restSize b w7 < restSize b w3 by rw [z6.bef.size, hrs]; exact z7)
                clear z1 z2 z3 z4 z5 z6 z8 hl' hS' hts hl7
                go_wp2
                go_roundw
                case rel => exact hrel2.out
                case measure => exact hm.out
              · have hfin := Lib.hid (show ContP w0 w b q σ r gone w7 from .inr ⟨by rw [hl'.out.1, z1], rfl, z2, q9, hk6'.out.trans z9⟩)
                clear z1 z2 z9 hl' hS' hts
                unfold gone at hfin ⊢
                go_wp2
                exact ⟨rfl, hfin.out⟩
        · have hfin := Lib.hid (show ContP w0 w b q σ r gone w5 from .inr ⟨by rw [hl'.out.1, ans_bytes_end hts.out (by rw [hS'.out.rest]; exact hno)], rfl, h5, _, hk5'.out⟩)
          clear hno h5 hl' hS' hK' hts hnr'
          unfold gone at hfin ⊢
          go_wp2
          exact ⟨rfl, hfin.out⟩
      · have hfin := Lib.hid (show ContP w0 w b q σ r gone w4 from .inr ⟨by rw [hl'.out.1, ans_remark (by rw [hS'.out.rest]; exact hy), hv]; rfl, rfl, h4, _, hk4'.out⟩)
        clear hy hv h4 hl' hS' hK' hts
        unfold gone at hfin ⊢
        go_wp2
        exact ⟨rfl, hfin.out⟩
end Go.Proofs.YtjeagjleolmibaaGreatDoor.Xm
