/-
  WALKS OF value.PutText, value.join AT string AND []string, value.PutList, value.PutFields.
-/
import Derived.Test.YtjdockjkioomiaaValueCut
import Derived.Shelf.GgClosure.Gives
set_option linter.unusedVariables false
namespace Go.Proofs.Ytjdockjkioomiaa.Va
open Go.Lib Go.RowKit Bu

theorem put_snoc (a : Row) (c : UInt8) : put (a ++ [c]) = put a ++ put1 c := by rw [put_append]; simp [put]
theorem put_take (s : ByteArray) (k : Nat) (h : k < s.size) : put (s.data.toList.take (k + 1)) = put (s.data.toList.take k) ++ put1 (s[k]'h) := by rw [take_next s k h, put_snoc]
theorem put_take_le (l : Row) (k : Nat) : (put (l.take k)).length ≤ (put l).length := by
  conv => rhs; rw [← List.take_append_drop k l, put_append, List.length_append]
  omega
theorem put1_pos (c : UInt8) : 1 ≤ (put1 c).length := by unfold put1; split; simp; split <;> simp
theorem put_ge : ∀ (l : Row), l.length ≤ (put l).length
  | [] => by simp
  | c :: l => by have := put_ge l; have := put1_pos c; simp only [put, List.length_append, List.length_cons]; omega

set_option maxHeartbeats 4000000 in
set_option maxRecDepth 100000 in
theorem putText_any (s : ByteArray) (w : World) (hlen : (put s.data.toList).length ≤ 140737488355328) :
    Calls Try.prog 19 #[.string s] w fun e w' => (∃ x : ByteArray, x.data.toList = put s.data.toList ∧ e = .returned (.string x)) ∧ Below w.heap.size w w' := by
  have hs : s.size ≤ 140737488355328 := by have := put_ge s.data.toList; rw [← Lib.size_eq] at this; omega
  have hnext : ∀ (k : Nat) (h : k < s.size) (a : Row), put1 (s[k]'h) = a → put (s.data.toList.take k) ++ a = put (s.data.toList.take (k + 1)) ∧ (put (s.data.toList.take k)).length + a.length ≤ 140737488355328 := fun k h a ha => by
    have h1 := put_take s k h
    rw [ha] at h1
    have h2 := put_take_le s.data.toList (k + 1)
    rw [h1, List.length_append] at h2
    exact ⟨h1.symm, by omega⟩
  have hn := Lib.hid hnext
  clear hnext hlen
  go_enter Try.func19, Try.ntmps19
  go_wp2
  go_loopw [4] (fun s4 wr => ∃ k : Nat, s4 = .int .i64 (k : Int) ∧ k ≤ s.size ∧ Bd w.heap.size w.heap.size (put (s.data.toList.take k)) wr ∧ Below w.heap.size w wr) (fun s4 wr => s.size - (RowKit.intOf s4).toNat)
  case atStart => exact ⟨0, rfl, Nat.zero_le _, fresh w, (Below.refl _ _).alloc (Nat.le_refl _) _⟩
  case round =>
    obtain ⟨k, rfl, hk, hbd, hbw⟩ := hrel
    have hBr := hbw.size
    by_cases hlt : k < s.size
    · have hmore : ∀ (c : UInt8) (b : UInt8), (c = 92 ∨ c = 44 ∨ c = 59) → put1 c = [92, c] := fun c b h => by unfold put1; rw [if_pos h]
      by_cases c0 : (s[k]'hlt = 92 ∨ s[k]'hlt = 44 ∨ s[k]'hlt = 59)
      · obtain ⟨e1, e2⟩ := hn.out k hlt _ (hmore _ 0 c0)
        have cA := byte_any w.heap.size w.heap.size _ 92 wr hbd (by simp only [List.length_cons, List.length_nil] at e2; omega) hBr
        have cB := fun W (hW : Bd w.heap.size w.heap.size (put (s.data.toList.take k) ++ [92]) W) (hB : w.heap.size ≤ W.heap.size) => byte_any w.heap.size w.heap.size _ (s[k]'hlt) W hW (by simp only [List.length_cons, List.length_nil] at e2; rw [List.length_append, List.length_singleton]; omega) hB
        rw [show (((92 : UInt8).toNat : Nat) : Int) = 92 from rfl] at cA
        have e3 : put (s.data.toList.take k) ++ [92] ++ [s[k]'hlt] = put (s.data.toList.take (k + 1)) := by rw [← e1]; simp
        rw [e3] at cB
        have hd : (((((s[k]'hlt).toNat : Nat) : Int) == 92) = true ∨ (((((s[k]'hlt).toNat : Nat) : Int) == 92) = false ∧ ((((s[k]'hlt).toNat : Nat) : Int) == 44) = true) ∨ (((((s[k]'hlt).toNat : Nat) : Int) == 92) = false ∧ ((((s[k]'hlt).toNat : Nat) : Int) == 44) = false ∧ ((((s[k]'hlt).toNat : Nat) : Int) == 59) = true)) := by
          by_cases c1 : s[k]'hlt = 92
          · exact .inl (ty (m := 92) rfl c1)
          · by_cases c2 : s[k]'hlt = 44
            · exact .inr (.inl ⟨tn (m := 92) rfl c1, ty (m := 44) rfl c2⟩)
            · refine .inr (.inr ⟨tn (m := 92) rfl c1, tn (m := 44) rfl c2, ty (m := 59) rfl ?_⟩)
              rcases c0 with h | h | h
              · exact absurd h c1
              · exact absurd h c2
              · exact h
        have cB' := Lib.hid cB
        clear c0 e1 e2 e3 hmore cB
        rcases hd with d1 | ⟨d1, d2⟩ | ⟨d1, d2, d3⟩
        all_goals
          go_wp2_with fail
          go_at_call 26
          refine cA.mono ?_
          rintro e w2 ⟨rfl, hbd2, hb2⟩
          go_wp2_with fail
          have hbw2 := hbw.trans hb2
          go_at_call 26
          refine (cB'.out w2 hbd2 hbw2.size).mono ?_
          rintro e w3 ⟨rfl, hbd3, hb3⟩
          go_wp2
          go_roundw
          case rel => exact ⟨k + 1, by go_num, by omega, hbd3, hbw2.trans hb3⟩
          case measure => simp [RowKit.intOf]; omega
      · have d1 : ((((s[k]'hlt).toNat : Nat) : Int) == 92) = false := tn (m := 92) rfl (fun e => c0 (.inl e))
        have d2 : ((((s[k]'hlt).toNat : Nat) : Int) == 44) = false := tn (m := 44) rfl (fun e => c0 (.inr (.inl e)))
        have d3 : ((((s[k]'hlt).toNat : Nat) : Int) == 59) = false := tn (m := 59) rfl (fun e => c0 (.inr (.inr e)))
        by_cases c1 : s[k]'hlt = 10
        · obtain ⟨e1, e2⟩ := hn.out k hlt [92, 110] (by unfold put1; rw [if_neg c0, if_pos c1])
          have cW := write_any w.heap.size w.heap.size _ ⟨#[92, 110]⟩ wr hbd e2 hBr
          rw [show (⟨#[92, 110]⟩ : ByteArray).data.toList = [92, 110] from rfl, e1] at cW
          have d4 : ((((s[k]'hlt).toNat : Nat) : Int) == 10) = true := ty (m := 10) rfl c1
          clear c0 c1 e1 e2 hmore
          go_wp2_with (go_at_call 23; refine cW.mono ?_; rintro e w2 ⟨rfl, hbd2, hb2⟩)
          go_roundw
          case rel => exact ⟨k + 1, by go_num, by omega, hbd2, hbw.trans hb2⟩
          case measure => simp [RowKit.intOf]; omega
        · obtain ⟨e1, e2⟩ := hn.out k hlt [s[k]'hlt] (by unfold put1; rw [if_neg c0, if_neg c1])
          have cA := byte_any w.heap.size w.heap.size _ (s[k]'hlt) wr hbd e2 hBr
          rw [e1] at cA
          have d4 : ((((s[k]'hlt).toNat : Nat) : Int) == 10) = false := tn (m := 10) rfl c1
          clear c0 c1 e1 e2 hmore
          go_wp2_with (go_at_call 26; refine cA.mono ?_; rintro e w2 ⟨rfl, hbd2, hb2⟩)
          go_roundw
          case rel => exact ⟨k + 1, by go_num, by omega, hbd2, hbw.trans hb2⟩
          case measure => simp [RowKit.intOf]; omega
    · rw [List.take_of_length_le (by rw [← Lib.size_eq]; omega)] at hbd
      go_wp2_with (go_at_call 24; refine (Bu.text_any w.heap.size w.heap.size _ _ hbd hBr).mono ?_; rintro e w2 ⟨rfl, _, hb2⟩)
      go_ret
      exact ⟨⟨_, by simp, rfl⟩, hbw.trans hb2⟩

/-! ### joined -/
theorem tl_len (m : UInt8) : ∀ (xs : List Row), (tl m xs).length = (xs.map fun x => x.length + 1).sum
  | [] => rfl
  | x :: xs => by have := tl_len m xs; simp only [tl, List.length_append, List.length_cons, List.map_cons, List.sum_cons]; omega
theorem jn_append_le (m : UInt8) (a b : List Row) : (jn m a).length ≤ (jn m (a ++ b)).length := by
  cases a with
  | nil => simp [jn]
  | cons x a => simp [jn, tl_append]
theorem jn_take {α : Type} (m : UInt8) (f : α → Row) (xs : List α) (k : Nat) (x : α) (h : xs[k]? = some x) : jn m ((xs.take (k + 1)).map f) = (if k = 0 then [] else jn m ((xs.take k).map f) ++ [m]) ++ f x := by
  obtain ⟨hl, hv⟩ := List.getElem?_eq_some_iff.1 h
  rw [List.take_succ_eq_append_getElem hl, hv, List.map_append, List.map_singleton, jn_snoc]
  by_cases hk : k = 0
  · subst hk; simp
  · have : ¬ (xs.take k).map f = [] := fun e => by
      have := congrArg List.length e
      rw [List.length_map, List.length_take, List.length_nil] at this
      omega
    rw [if_neg this, if_neg hk]
    simp
theorem jn_take_le {α : Type} (m : UInt8) (f : α → Row) (xs : List α) (k : Nat) : (jn m ((xs.take k).map f)).length ≤ (jn m (xs.map f)).length := by
  have := jn_append_le m ((xs.take k).map f) ((xs.drop k).map f)
  rwa [← List.map_append, List.take_append_drop] at this
theorem jn_mem_le {α : Type} (m : UInt8) (f : α → Row) (xs : List α) (k : Nat) (x : α) (h : xs[k]? = some x) : (f x).length ≤ (jn m (xs.map f)).length := by
  have h1 := jn_take m f xs k x h
  have h2 := jn_take_le m f xs (k + 1)
  rw [h1, List.length_append] at h2
  omega
/-- what put makes of what reads as x -/
def PutsF {α : Type} (g : Nat) (f : α → Row) (P : World → Value → α → Prop) (xs : List α) (w : World) : Prop :=
  ∀ (W : World) (x : α) (u : Value), x ∈ xs → P W u x → Below w.heap.size w W → Calls Try.prog g #[u] W fun e w' => (∃ s : ByteArray, s.data.toList = f x ∧ e = .returned (.string s)) ∧ Below W.heap.size W w'

set_option maxHeartbeats 4000000 in
set_option maxRecDepth 100000 in
theorem join1_any (m : UInt8) (ls : List Row) (v : Value) (w : World) (h : StrsAt w v ls) (hlen : (jn m (ls.map put)).length ≤ 140737488355328) :
    Calls Try.prog 30 #[v, .int .u8 (m.toNat : Int), .func (.func 19) #[] #[]] w fun e w' => (∃ x : ByteArray, x.data.toList = jn m (ls.map put) ∧ e = .returned (.string x)) ∧ Below w.heap.size w w' := by
  have eg : ∀ args w, (callFunc 19 args).run Try.prog w = .ok (.enter 19 args) w := enters_of Try.func19 (by kernel_rfl) rfl
  obtain ⟨A, b, off, c, rfl, h1, h2, h3, h4⟩ := h
  obtain ⟨n, hn⟩ : ∃ n, ls.length = n := ⟨_, rfl⟩
  have hput : ∀ (k : Nat) (l : Row), ls[k]? = some l → (put l).length ≤ 140737488355328 := fun k l hl => by have := jn_mem_le m put ls k l hl; omega
  have hnext : ∀ (k : Nat) (l : Row), ls[k]? = some l → (if k = 0 then [] else jn m ((ls.take k).map put) ++ [m]) ++ put l = jn m ((ls.take (k + 1)).map put) ∧ (if k = 0 then [] else jn m ((ls.take k).map put) ++ [m]).length + (put l).length ≤ 140737488355328 := fun k l hl => by
    have e1 := jn_take m put ls k l hl
    have e2 := jn_take_le m put ls (k + 1)
    rw [e1, List.length_append] at e2
    exact ⟨e1.symm, by omega⟩
  have hall : jn m ((ls.take n).map put) = jn m (ls.map put) := by rw [List.take_of_length_le (by omega)]
  rw [hn] at h1 h3 ⊢
  unfold maxLen at h2
  have hn' := Lib.hid hn
  have h3' := Lib.hid h3
  have h4' := Lib.hid h4
  have hput' := Lib.hid hput
  have hnext' := Lib.hid hnext
  have hall' := Lib.hid hall
  clear hn h3 h4 hput hnext hall hlen
  go_enter Try.func30, Try.ntmps30
  go_wp2
  go_loopw [12] (fun s12 wr => ∃ k : Nat, s12 = .int .i64 (k : Int) ∧ k ≤ n ∧ Bd w.heap.size w.heap.size (jn m ((ls.take k).map put)) wr ∧ Below w.heap.size w wr) (fun s12 wr => n - (RowKit.intOf s12).toNat)
  case atStart => exact ⟨0, rfl, Nat.zero_le _, fresh w, (Below.refl _ _).alloc (Nat.le_refl _) _⟩
  case round =>
    obtain ⟨k, rfl, hk, hbd, hbw⟩ := hrel
    have hBr := hbw.size
    by_cases hlt : k < n
    · have hl : ls[k]? = some (ls[k]'(by have := hn'.out; omega)) := List.getElem?_eq_getElem _
      obtain ⟨l, hle⟩ : ∃ l, ls[k]'(by have := hn'.out; omega) = l := ⟨_, rfl⟩
      rw [hle] at hl
      obtain ⟨rfl, hg⟩ := h3'.out (by omega)
      obtain ⟨u, hu, rfl⟩ := h4'.out k l hl
      obtain ⟨x, ex, hx⟩ := sv_some l
      rw [ex, ← hbw.cell (p := ⟨b, off + k, none⟩) hg] at hu
      obtain ⟨e1, e2⟩ := hnext'.out k l hl
      have hpl := hput'.out k l hl
      have cP := fun W => putText_any x W (by rw [hx]; exact hpl)
      rw [hx] at cP
      clear hle hl ex hpl
      by_cases hk0 : k = 0
      · rw [if_pos hk0] at e1 e2
        have hbd0 : Bd w.heap.size w.heap.size [] wr := by rw [hk0] at hbd; exact hbd
        have hk1 : k ≤ 0 := by omega
        have e1' := Lib.hid e1
        clear e1 hbd hk0
        go_wp2_with fail
        go_at_fn 19
        refine (cP _).mono ?_
        rintro e w2 ⟨⟨y, hy, rfl⟩, hb2⟩
        go_wp2_with fail
        have cW := write_any w.heap.size w.heap.size _ y w2 (hbd0.kept hb2) (by rw [Lib.size_eq, hy]; exact e2) (by have := hb2.size; omega)
        rw [hy, e1'.out] at cW
        have hbw2 := below_then hbw hb2
        clear hy hb2
        go_at_call 23
        refine cW.mono ?_
        rintro e w3 ⟨rfl, hbd3, hb3⟩
        go_wp2
        go_roundw
        case rel => exact ⟨k + 1, by go_num, by omega, hbd3, hbw2.trans hb3⟩
        case measure => simp [RowKit.intOf]; omega
      · rw [if_neg hk0] at e1 e2
        have hk1 : 0 < k := by omega
        have cB := byte_any w.heap.size w.heap.size _ m wr hbd (by rw [List.length_append, List.length_singleton] at e2; omega) hBr
        have e1' := Lib.hid e1
        have e2' := Lib.hid e2
        clear e1 e2 hk0 hbd
        go_wp2_with fail
        go_at_call 26
        refine cB.mono ?_
        rintro e w1 ⟨rfl, hbd1, hb1⟩
        go_wp2_with fail
        have hbw1 := hbw.trans hb1
        go_at_fn 19
        refine (cP _).mono ?_
        rintro e w2 ⟨⟨y, hy, rfl⟩, hb2⟩
        have cW := write_any w.heap.size w.heap.size _ y w2 (hbd1.kept hb2) (by rw [Lib.size_eq, hy]; exact e2'.out) (by have := hb2.size; have := hbw1.size; omega)
        rw [hy, e1'.out] at cW
        have hbw2 := below_then hbw1 hb2
        clear hy hb2 hbd1 cB hb1 hbw1
        go_wp2_with fail
        go_at_call 23
        refine cW.mono ?_
        rintro e w3 ⟨rfl, hbd3, hb3⟩
        go_wp2
        go_roundw
        case rel => exact ⟨k + 1, by go_num, by omega, hbd3, hbw2.trans hb3⟩
        case measure => simp [RowKit.intOf]; omega
    · obtain rfl : k = n := by omega
      rw [hall'.out] at hbd
      go_wp2_with (go_at_call 24; refine (Bu.text_any w.heap.size w.heap.size _ _ hbd hBr).mono ?_; rintro e w2 ⟨rfl, _, hb2⟩)
      go_ret
      exact ⟨⟨_, by simp, rfl⟩, hbw.trans hb2⟩

theorem putList_any (ls : List Row) (v : Value) (w : World) (h : StrsAt w v ls) (hlen : (putL ls).length ≤ 140737488355328) :
    Calls Try.prog 18 #[v] w fun e w' => (∃ x : ByteArray, x.data.toList = putL ls ∧ e = .returned (.string x)) ∧ Below w.heap.size w w' := by
  have cJ := join1_any 44 ls v w h hlen
  rw [show (((44 : UInt8).toNat : Nat) : Int) = 44 from rfl] at cJ
  have hJ : jn 44 (ls.map put) = putL ls := rfl
  rw [hJ] at cJ
  obtain ⟨A, b, off, c, rfl, _⟩ := h
  generalize putL ls = L at cJ ⊢
  clear hJ hlen
  go_enter Try.func18, Try.ntmps18
  go_wp2_with (go_at_call 30; refine cJ.mono ?_; rintro e w1 ⟨⟨x, hx, rfl⟩, hb⟩)
  go_ret
  exact ⟨⟨x, hx, rfl⟩, hb⟩
theorem putClos_any (ls : List Row) (v : Value) (w : World) (h : StrsAt w v ls) (hlen : (putL ls).length ≤ 140737488355328) :
    Calls Try.prog 32 #[v] w fun e w' => (∃ x : ByteArray, x.data.toList = putL ls ∧ e = .returned (.string x)) ∧ Below w.heap.size w w' := by
  have cJ := putList_any ls v w h hlen
  obtain ⟨A, b, off, c, rfl, _⟩ := h
  generalize putL ls = L at cJ ⊢
  clear hlen
  go_enter Try.func32, Try.ntmps32
  go_wp2_with (go_at_call 18; refine cJ.mono ?_; rintro e w1 ⟨⟨x, hx, rfl⟩, hb⟩)
  go_ret
  exact ⟨⟨x, hx, rfl⟩, hb⟩

set_option maxHeartbeats 4000000 in
set_option maxRecDepth 100000 in
theorem join2_any (m : UInt8) (fs : List (List Row)) (v : Value) (w : World) (h : ListsAt w v fs) (hlen : (jn m (fs.map putL)).length ≤ 140737488355328) :
    Calls Try.prog 31 #[v, .int .u8 (m.toNat : Int), .func (.func 32) #[] #[]] w fun e w' => (∃ x : ByteArray, x.data.toList = jn m (fs.map putL) ∧ e = .returned (.string x)) ∧ Below w.heap.size w w' := by
  have eg : ∀ args w, (callFunc 32 args).run Try.prog w = .ok (.enter 32 args) w := enters_of Try.func32 (by kernel_rfl) rfl
  obtain ⟨A, b, off, c, rfl, h1, h2, h3, h4⟩ := h
  obtain ⟨n, hn⟩ : ∃ n, fs.length = n := ⟨_, rfl⟩
  have hput : ∀ (k : Nat) (l : List Row), fs[k]? = some l → (putL l).length ≤ 140737488355328 := fun k l hl => by have := jn_mem_le m putL fs k l hl; omega
  have hnext : ∀ (k : Nat) (l : List Row), fs[k]? = some l → (if k = 0 then [] else jn m ((fs.take k).map putL) ++ [m]) ++ putL l = jn m ((fs.take (k + 1)).map putL) ∧ (if k = 0 then [] else jn m ((fs.take k).map putL) ++ [m]).length + (putL l).length ≤ 140737488355328 := fun k l hl => by
    have e1 := jn_take m putL fs k l hl
    have e2 := jn_take_le m putL fs (k + 1)
    rw [e1, List.length_append] at e2
    exact ⟨e1.symm, by omega⟩
  have hall : jn m ((fs.take n).map putL) = jn m (fs.map putL) := by rw [List.take_of_length_le (by omega)]
  rw [hn] at h1 h3 ⊢
  unfold maxLen at h2
  have hn' := Lib.hid hn
  have h3' := Lib.hid h3
  have h4' := Lib.hid h4
  have hput' := Lib.hid hput
  have hnext' := Lib.hid hnext
  have hall' := Lib.hid hall
  clear hn h3 h4 hput hnext hall hlen
  go_enter Try.func31, Try.ntmps31
  go_wp2
  go_loopw [12] (fun s12 wr => ∃ k : Nat, s12 = .int .i64 (k : Int) ∧ k ≤ n ∧ Bd w.heap.size w.heap.size (jn m ((fs.take k).map putL)) wr ∧ Below w.heap.size w wr) (fun s12 wr => n - (RowKit.intOf s12).toNat)
  case atStart => exact ⟨0, rfl, Nat.zero_le _, fresh w, (Below.refl _ _).alloc (Nat.le_refl _) _⟩
  case round =>
    obtain ⟨k, rfl, hk, hbd, hbw⟩ := hrel
    have hBr := hbw.size
    by_cases hlt : k < n
    · have hl : fs[k]? = some (fs[k]'(by have := hn'.out; omega)) := List.getElem?_eq_getElem _
      obtain ⟨l, hle⟩ : ∃ l, fs[k]'(by have := hn'.out; omega) = l := ⟨_, rfl⟩
      rw [hle] at hl
      obtain ⟨rfl, hg⟩ := h3'.out (by omega)
      obtain ⟨u, hu, hs⟩ := h4'.out k l hl
      rw [← hbw.cell (p := ⟨b, off + k, none⟩) hg] at hu
      obtain ⟨e1, e2⟩ := hnext'.out k l hl
      have hpl := hput'.out k l hl
      have cP := fun W (hW : Below w.heap.size w W) => putClos_any l u W (hs.kept hW) hpl
      obtain ⟨A2, b2, o2, c2, rfl, _⟩ := hs
      generalize l.length = nl at hu cP
      have cP' := Lib.hid cP
      clear hle hl hpl cP
      by_cases hk0 : k = 0
      · rw [if_pos hk0] at e1 e2
        have hbd0 : Bd w.heap.size w.heap.size [] wr := by rw [hk0] at hbd; exact hbd
        have hk1 : k ≤ 0 := by omega
        have e1' := Lib.hid e1
        clear e1 hbd hk0
        go_wp2_with fail
        go_at_fn 32
        refine (cP'.out _ hbw).mono ?_
        rintro e w2 ⟨⟨y, hy, rfl⟩, hb2⟩
        go_wp2_with fail
        have cW := write_any w.heap.size w.heap.size _ y w2 (hbd0.kept hb2) (by rw [Lib.size_eq, hy]; exact e2) (by have := hb2.size; omega)
        rw [hy, e1'.out] at cW
        have hbw2 := below_then hbw hb2
        clear hy hb2
        go_at_call 23
        refine cW.mono ?_
        rintro e w3 ⟨rfl, hbd3, hb3⟩
        go_wp2
        go_roundw
        case rel => exact ⟨k + 1, by go_num, by omega, hbd3, hbw2.trans hb3⟩
        case measure => simp [RowKit.intOf]; omega
      · rw [if_neg hk0] at e1 e2
        have hk1 : 0 < k := by omega
        have cB := byte_any w.heap.size w.heap.size _ m wr hbd (by rw [List.length_append, List.length_singleton] at e2; omega) hBr
        have e1' := Lib.hid e1
        have e2' := Lib.hid e2
        clear e1 e2 hk0 hbd
        go_wp2_with fail
        go_at_call 26
        refine cB.mono ?_
        rintro e w1 ⟨rfl, hbd1, hb1⟩
        go_wp2_with fail
        have hbw1 := hbw.trans hb1
        rw [← hb1.cell (p := ⟨b, off + k, none⟩) hg] at hu
        go_at_fn 32
        refine (cP'.out _ hbw1).mono ?_
        rintro e w2 ⟨⟨y, hy, rfl⟩, hb2⟩
        have cW := write_any w.heap.size w.heap.size _ y w2 (hbd1.kept hb2) (by rw [Lib.size_eq, hy]; exact e2'.out) (by have := hb2.size; have := hbw1.size; omega)
        rw [hy, e1'.out] at cW
        have hbw2 := below_then hbw1 hb2
        clear hy hb2 hbd1 cB hb1 hbw1
        go_wp2_with fail
        go_at_call 23
        refine cW.mono ?_
        rintro e w3 ⟨rfl, hbd3, hb3⟩
        go_wp2
        go_roundw
        case rel => exact ⟨k + 1, by go_num, by omega, hbd3, hbw2.trans hb3⟩
        case measure => simp [RowKit.intOf]; omega
    · obtain rfl : k = n := by omega
      rw [hall'.out] at hbd
      go_wp2_with (go_at_call 24; refine (Bu.text_any w.heap.size w.heap.size _ _ hbd hBr).mono ?_; rintro e w2 ⟨rfl, _, hb2⟩)
      go_ret
      exact ⟨⟨_, by simp, rfl⟩, hbw.trans hb2⟩
theorem putFields_any (fs : List (List Row)) (v : Value) (w : World) (h : ListsAt w v fs) (hlen : (putF fs).length ≤ 140737488355328) :
    Calls Try.prog 21 #[v] w fun e w' => (∃ x : ByteArray, x.data.toList = putF fs ∧ e = .returned (.string x)) ∧ Below w.heap.size w w' := by
  have cJ := join2_any 59 fs v w h hlen
  rw [show (((59 : UInt8).toNat : Nat) : Int) = 59 from rfl] at cJ
  have hJ : jn 59 (fs.map putL) = putF fs := rfl
  rw [hJ] at cJ
  obtain ⟨A, b, off, c, rfl, _⟩ := h
  generalize putF fs = L at cJ ⊢
  clear hJ hlen
  go_enter Try.func21, Try.ntmps21
  go_wp2_with (go_at_call 31; refine cJ.mono ?_; rintro e w1 ⟨⟨x, hx, rfl⟩, hb⟩)
  go_ret
  exact ⟨⟨x, hx, rfl⟩, hb⟩
end Go.Proofs.Ytjdockjkioomiaa.Va
