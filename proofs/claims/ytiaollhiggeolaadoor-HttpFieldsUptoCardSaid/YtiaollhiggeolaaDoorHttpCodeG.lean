/-
  THE WALK OF THE PROGRAM's LAYER http: read, at whatever function takes the first row.
-/
import Derived.Test.YtiaollhiggeolaaDoorHttpCodeF
set_option linter.unusedVariables false
namespace Go.Proofs.YtiaollhiggeolaaDoor.Ht
open Go.Lib Go.RowKit Go.Shelf

/-! ### all but one block is left -/
structure But (k0 : Nat) (w w' : World) : Prop where
  os : w'.os = w.os
  tape : w'.tape = w.tape
  output : w'.output = w.output
  size : w.heap.size ≤ w'.heap.size
  block : ∀ k, k < w.heap.size → k ≠ k0 → w'.heap[k]? = w.heap[k]?
theorem but_of {w w' : World} (h : Below w.heap.size w w') (k0 : Nat) : But k0 w w' := ⟨h.os, h.tape, h.output, h.size, fun k hk _ => h.block k hk⟩
theorem But.trans {k0 : Nat} {a b c : World} (h : But k0 a b) (k : But k0 b c) : But k0 a c :=
  ⟨k.os.trans h.os, k.tape.trans h.tape, k.output.trans h.output, Nat.le_trans h.size k.size, fun i hi hn => (k.block i (Nat.lt_of_lt_of_le hi h.size) hn).trans (h.block i hi hn)⟩
theorem But.below {k0 B : Nat} {w w' : World} (h : But k0 w w') (hB : B ≤ k0) (hs : B ≤ w.heap.size) : Below B w w' := ⟨h.os, h.tape, h.output, h.size, fun k hk => h.block k (by omega) (by omega)⟩
theorem But.setCell {k0 : Nat} {w w' : World} (h : But k0 w w') {p : Addr} (hp : w.heap.size ≤ p.block) (u : Value) : But k0 w (w'.setCell p u) := by
  have hb : Below w.heap.size w' (w'.setCell p u) := (Below.refl _ _).setCell hp u
  exact ⟨hb.os.trans h.os, hb.tape.trans h.tape, hb.output.trans h.output, Nat.le_trans h.size hb.size, fun k hk hn => (hb.block k hk).trans (h.block k hk hn)⟩
theorem But.kept0 {k0 : Nat} {w w' : World} (h : Below w.heap.size w w') (hk : k0 < w.heap.size) : w'.heap[k0]? = w.heap[k0]? := h.block k0 hk

/-! ### rows of a text -/
theorem spl_bytes (t : ByteArray) : (Lib.splitB ⟨#[13, 10]⟩ 0 (Lib.countB t ⟨#[13, 10]⟩) t).map (·.data.toList) = spl t.data.toList := by
  rw [Lib.splitB_data]
  exact split_spl _ t.data.toList (Nat.lt_succ_self _)
theorem spl_len : ∀ (n : Nat) (t : Row), t.length < n → ∀ r ∈ spl t, r.length ≤ t.length
  | 0, _, h, _, _ => by omega
  | n + 1, t, h, r, hr => by
    cases hc : cutR t with
    | none =>
      rw [spl_none hc] at hr
      rw [List.mem_singleton.1 hr]
      exact Nat.le_refl _
    | some p =>
      obtain ⟨a, q⟩ := p
      have e := congrArg List.length (cutR_some hc)
      simp at e
      rw [spl_some hc] at hr
      rcases List.mem_cons.1 hr with rfl | hr
      · omega
      · have := spl_len n q (by omega) r hr
        omega
theorem ss_tail (w : World) (L : List ByteArray) (ty : TypeId) (hL : L.length ≤ 140737488351232) : SsAt (w.alloc (.cells (L.map Value.string).toArray ty)) (.slice (some ⟨w.heap.size, 1, none⟩) (L.length - 1) (L.length - 1)) (L.map (·.data.toList)).tail := by
  refine ⟨_, w.heap.size, 1, L.length - 1, by simp, by simp, by unfold maxLen; omega, fun _ => ⟨rfl, by rw [show (w.alloc (.cells (L.map Value.string).toArray ty)).heap.size = w.heap.size + 1 from Array.size_push _]; omega⟩, fun j l hj => ?_⟩
  rw [Lib.cell_of_heap (heap_alloc_new w _)]
  rw [List.getElem?_tail, List.getElem?_map] at hj
  cases hx : L[j + 1]? with
  | none => rw [hx] at hj; cases hj
  | some x =>
    rw [hx] at hj
    have hj : some x.data.toList = some l := hj
    rw [List.getElem?_toArray, List.getElem?_map, Nat.add_comm 1 j, hx, ← Option.some.inj hj, sv_data]; rfl
theorem ss_head (w : World) (L : List ByteArray) (ty : TypeId) (x : ByteArray) (h : L.head? = some x) : (w.alloc (.cells (L.map Value.string).toArray ty)).cell? ⟨w.heap.size, 0, none⟩ = some (.string x) := by
  rw [Lib.cell_of_heap (heap_alloc_new w _)]
  cases L with
  | nil => cases h
  | cons y r =>
    obtain rfl := Option.some.inj h
    rfl
theorem res3 {W : World} {b : Nat} {x0 x1 x2 : Value} {t : TypeId} (hk : W.heap[b]? = some (.cells #[x0, x1, x2] t (0, 0))) :
    W.cell? ⟨b, 0, none⟩ = some x0 ∧ W.cell? ⟨b, 1, none⟩ = some x1 ∧ W.cell? ⟨b, 2, none⟩ = some x2 ∧ W.frozen? ⟨b, 0, none⟩ = false ∧ W.frozen? ⟨b, 1, none⟩ = false ∧ W.frozen? ⟨b, 2, none⟩ = false := by
  refine ⟨?_, ?_, ?_, Lib.frozen_of_heap hk 0, Lib.frozen_of_heap hk 1, Lib.frozen_of_heap hk 2⟩
  all_goals rw [Lib.cell_of_heap hk]; rfl
theorem fs_set {w : World} {B : Nat} {v : Value} {ps : List Fd} (h : FsOwn B v ps w) {a : Addr} (ha : a.block < B) (u : Value) : FsOwn B v ps (w.setCell a u) := by
  refine ⟨h.1, ?_⟩
  rcases h.2 with h | ⟨g, cap, cur, e1, e2, e3, e4⟩
  · exact .inl h
  · refine .inr ⟨g, cap, cur, e1, e2, ?_, e4⟩
    rw [Below.heap_setCell w a u g (by omega)]; exact e3

theorem ss_but {w w' : World} {v : Value} {ls : List Row} {k0 : Nat} (h : SsAt w v ls) (hb : But k0 w w') (hv : v.ownBlock ≠ some k0) : SsAt w' v ls := by
  obtain ⟨A, b, off, c, h1, h2, h3, h4, h5⟩ := h
  refine ⟨A, b, off, c, h1, h2, h3, fun hl => ⟨(h4 hl).1, Nat.lt_of_lt_of_le (h4 hl).2 hb.size⟩, fun j l hj => ?_⟩
  obtain ⟨hA, hlt⟩ := h4 (by have := (List.getElem?_eq_some_iff.1 hj).1; omega)
  have hne : b ≠ k0 := fun e => hv (by rw [h1, hA, e]; rfl)
  have e : w'.cell? ⟨b, off + j, none⟩ = w.cell? ⟨b, off + j, none⟩ := World.cell?_of_block (w := w) (hb.block b hlt hne)
  rw [e]
  exact h5 j l hj
theorem set3 {W : World} {Z k : Nat} (h : k ≠ Z) (x0 x1 x2 : Value) : (((W.setCell ⟨Z, 0, none⟩ x0).setCell ⟨Z, 1, none⟩ x1).setCell ⟨Z, 2, none⟩ x2).heap[k]? = W.heap[k]? := by
  rw [Below.heap_setCell _ _ _ k h, Below.heap_setCell _ _ _ k h, Below.heap_setCell _ _ _ k h]
/-- a function that takes the first row, and writes into block k0 -/
def FirstC (g : Nat) (lb : Array Value) (k0 : Nat) (o0 : Obj) (Q : Row → Bool → Option Obj → Prop) : Prop :=
  ∀ (r : ByteArray) (W : World), r.size ≤ 8192 → W.heap[k0]? = some o0 → Calls Tryd.prog g (#[.string r] ++ lb) W fun e w' => ∃ ok : Bool, e = .returned (.bool ok) ∧ Q r.data.toList ok w'.heap[k0]? ∧ But k0 W w'
theorem fs_less {w : World} {B B' : Nat} {v : Value} {ps : List Fd} (h : FsOwn B v ps w) (hb : B' ≤ B) : FsOwn B' v ps w := by
  refine ⟨h.1, ?_⟩
  rcases h.2 with h | ⟨g, cap, cur, e1, e2, e3, e4⟩
  · exact .inl h
  · exact .inr ⟨g, cap, cur, e1, Nat.le_trans hb e2, e3, e4⟩
/-- what read answers -/
def errM (c : Int) : Ending := .returned (.tuple #[.agg #[.slice none 0 0, .string ⟨#[]⟩, .int .i64 0], .int .i64 c])
def ReadP (B k0 : Nat) (Q : Row → Bool → Option Obj → Prop) (b : Row) (e : Ending) (w' : World) : Prop := match hdA true (b.take 8192) with
  | none => e = errM (if b.length < 8192 then 91 else 80)
  | some ([], _) => False
  | some (r :: rs, k) => ∃ ok : Bool, Q r ok w'.heap[k0]? ∧ ((ok = false ∧ e = errM 80) ∨ (ok = true ∧ match fields rs with
    | none => e = errM 80
    | some (fs, n) => (b.length - k < n ∧ e = errM 91) ∨ (¬ b.length - k < n ∧ ∃ fv : Value, e = .returned (.tuple #[.agg #[fv, sv ((b.drop k).take n), .int .i64 ((k + n : Nat) : Int)], .int .i64 0]) ∧ FsOwn B fv fs w')))
set_option maxHeartbeats 8000000 in
set_option maxRecDepth 100000 in
theorem read_any (g : Nat) (lb : Array Value) (k0 : Nat) (o0 : Obj) (Q : Row → Bool → Option Obj → Prop) (eg : ∀ args w, (callFunc g args).run Tryd.prog w = .ok (.enter g args) w) (hF : FirstC g lb k0 o0 Q)
    (s : ByteArray) (w : World) (hG : Gw w) (hs : s.size ≤ 140737488355328) (hk0 : w.heap[k0]? = some o0) :
    Calls Tryd.prog 27 #[.string s, .func (.func g) #[] lb] w fun e w' => ReadP w.heap.size k0 Q s.data.toList e w' ∧ But k0 w w' := by
  have hlt0 : k0 < w.heap.size := (Array.getElem?_eq_some_iff.1 hk0).1
  have hO1 : (w.alloc (.cells #[.slice none 0 0, .string ⟨#[]⟩, .int .i64 0] 60)).heap[w.heap.size]? = some (.cells #[.slice none 0 0, .string ⟨#[]⟩, .int .i64 0] 60 (0, 0)) := heap_alloc_new w _
  have hb1 : Below w.heap.size w (w.alloc (.cells #[.slice none 0 0, .string ⟨#[]⟩, .int .i64 0] 60)) := (Below.refl _ _).alloc (Nat.le_refl _) _
  have cH := headEnd_any s (w.alloc (.cells #[.slice none 0 0, .string ⟨#[]⟩, .int .i64 0] 60)) (gw_keeps w _ hG hb1) hs
  have hb1' := Lib.hid hb1
  have hO1' := Lib.hid hO1
  clear hb1 hO1
  go_enter Tryd.func27, Tryd.ntmps27
  go_wp2_with fail
  go_at_call 42
  with_reducible refine cH.mono ?_
  rintro e w1 ⟨hH, hb2⟩
  have hB2 := Lib.hid (below_then hb1'.out hb2)
  have hO2 := Lib.hid ((hb2.block _ (Array.getElem?_eq_some_iff.1 hO1'.out).1).trans hO1'.out)
  clear cH hb2 hb1' hO1'
  have hN2 := Lib.hid (but_of hB2.out k0)
  have hk2 : w1.heap[k0]? = some o0 := (hB2.out.block _ hlt0).trans hk0
  rcases hH with ⟨k, h1, h2, h3, rfl⟩ | ⟨h1, h2, rfl⟩ | ⟨h1, h2, rfl⟩
  rotate_left
  · have hX : Hid (∀ W, ReadP w.heap.size k0 Q s.data.toList (errM 91) W) := Lib.hid fun W => by unfold ReadP; rw [h1]; simp only; rw [if_pos h2]
    clear h1 h2 hk2
    obtain ⟨c0, c1, c2, f0, f1, f2⟩ := res3 hO2.out
    go_wp2
    exact bodyPost_ret (v := .tuple #[.agg #[.slice none 0 0, .string ⟨#[]⟩, .int .i64 0], .int .i64 91]) (by simp [results, Tryd.results27, go_sem, c0, c1, c2]) rfl ⟨hX.out _, ((hN2.out.setCell (p := ⟨w.heap.size, 0, none⟩) (Nat.le_refl _) _).setCell (p := ⟨w.heap.size, 1, none⟩) (Nat.le_refl _) _).setCell (p := ⟨w.heap.size, 2, none⟩) (Nat.le_refl _) _⟩
  · have hX : Hid (∀ W, ReadP w.heap.size k0 Q s.data.toList (errM 80) W) := Lib.hid fun W => by unfold ReadP; rw [h1]; simp only; rw [if_neg h2]
    clear h1 h2 hk2
    obtain ⟨c0, c1, c2, f0, f1, f2⟩ := res3 hO2.out
    go_wp2
    exact bodyPost_ret (v := .tuple #[.agg #[.slice none 0 0, .string ⟨#[]⟩, .int .i64 0], .int .i64 80]) (by simp [results, Tryd.results27, go_sem, c0, c1, c2]) rfl ⟨hX.out _, ((hN2.out.setCell (p := ⟨w.heap.size, 0, none⟩) (Nat.le_refl _) _).setCell (p := ⟨w.heap.size, 1, none⟩) (Nat.le_refl _) _).setCell (p := ⟨w.heap.size, 2, none⟩) (Nat.le_refl _) _⟩
  obtain ⟨M, hM⟩ : ∃ M, k + 4 = M := ⟨_, rfl⟩
  rw [hM] at h1 h2 h3 ⊢
  have hM4 : (M : Int) - 4 = (k : Int) := by omega
  have hM' := Lib.hid hM
  have hsz : s.size = s.data.toList.length := Lib.size_eq s
  have ht : (s.extract 0 k).data.toList = s.data.toList.take k := by rw [Lib.extract_data]; rfl
  have htz : (s.extract 0 k).size = k := by rw [ByteArray.size_extract]; omega
  obtain ⟨m, hm⟩ := (gw_keeps w w1 hG hB2.out).most
  have cS := Tryd.strings_Split (s.extract 0 k) ⟨#[13, 10]⟩ m w1 (by rw [htz]; omega) hm (by decide)
  obtain ⟨L, hL⟩ : ∃ L, Lib.splitB ⟨#[13, 10]⟩ 0 (Lib.countB (s.extract 0 k) ⟨#[13, 10]⟩) (s.extract 0 k) = L := ⟨_, rfl⟩
  have hLl : L.length = Lib.countB (s.extract 0 k) ⟨#[13, 10]⟩ + 1 := by rw [← hL]; exact Lib.splitB_all _ (by decide) 0 _ _ rfl
  have hLs : L.map (·.data.toList) = spl (s.data.toList.take k) := by rw [← hL, spl_bytes, ht]
  rw [hL, ← hLl] at cS
  have hLb : L.length ≤ 8193 := by
    have := Lib.countB_le (⟨#[13, 10]⟩ : ByteArray) (by decide) _ (s.extract 0 k) (Nat.le_refl _)
    rw [htz] at this
    omega
  obtain ⟨x, L', hLx⟩ : ∃ x L', L = x :: L' := by
    cases L with
    | nil => simp at hLl
    | cons x L' => exact ⟨x, L', rfl⟩
  have hxr : spl (s.data.toList.take k) = x.data.toList :: L'.map (·.data.toList) := by rw [← hLs, hLx]; rfl
  have hlen : ∀ r ∈ x.data.toList :: L'.map (·.data.toList), r.length ≤ 8192 := fun r hr => by
    rw [← hxr] at hr
    have := spl_len _ _ (Nat.lt_succ_self _) r hr
    rw [List.length_take] at this
    omega
  have hxz : x.size ≤ 8192 := by rw [Lib.size_eq]; exact hlen _ (by simp)
  rw [hxr] at h1
  obtain ⟨N, hN⟩ : ∃ N, L.length = N := ⟨_, rfl⟩
  have hN1 : 1 ≤ N := by rw [← hN, hLx]; simp
  rw [hN] at cS hLb
  have hs0 := ss_head w1 L 9 x (by rw [hLx]; rfl)
  have hst := ss_tail w1 L 9 (by rw [hN]; omega)
  rw [hN, hLx] at hst
  have hst : SsAt _ (.slice (some ⟨w1.heap.size, 1, none⟩) (N - 1) (N - 1)) (L'.map (·.data.toList)) := hst
  rw [← hLx] at hst
  have hz1 : w1.heap.size < (w1.alloc (.cells (L.map Value.string).toArray 9)).heap.size := by rw [show (w1.alloc (.cells (L.map Value.string).toArray 9)).heap.size = w1.heap.size + 1 from Array.size_push _]; omega
  have hB3 : Below w1.heap.size w1 (w1.alloc (.cells (L.map Value.string).toArray 9)) := (Below.refl _ _).alloc (Nat.le_refl _) _
  have hks : k ≤ s.size := by omega
  have hks4 : M ≤ s.size := by omega
  have hlen' := Lib.hid hlen
  have hsz' := Lib.hid hsz
  have h1' := Lib.hid h1
  have hlz : w.heap.size < w1.heap.size := (Array.getElem?_eq_some_iff.1 hO2.out).1
  clear hM hL hLl hLs hLx hxr hlen hsz h1 ht htz hN hm
  have e4 : IntKind.i64.wrap ((M : Int) - 4) = (k : Int) := by rw [hM4]; exact IntWalk.i64_in _ (by omega)
  go_wp2_with fail
  go_at_call 43
  with_reducible refine cS.mono ?_
  rintro e w2 ⟨rfl, hw2⟩
  rw [← hw2] at hs0 hst hz1 hB3
  have hO3 := (hB3.block _ (Array.getElem?_eq_some_iff.1 hO2.out).1).trans hO2.out
  have hN3 := Lib.hid (but_of (below_then hB2.out hB3) k0)
  have hk3 : w2.heap[k0]? = some o0 := (hB3.block _ (by omega)).trans hk2
  have hz3 : w.heap.size < w2.heap.size := Nat.lt_of_lt_of_le hlz hB3.size
  have cF := hF x w2 hxz hk3
  have hkz : Hid (k0 ≠ w.heap.size) := Lib.hid (by omega)
  clear hw2 cS hB3 hB2 hN2 hk2 hk3 hF hk0 hO2
  have hO3' := Lib.hid hO3
  have hst' := Lib.hid hst
  clear hO3 hst
  go_wp2_with fail
  go_at_fn g
  refine cF.mono ?_
  rintro e w3 ⟨ok, rfl, hQ, hb3⟩
  have hO4 := Lib.hid ((hb3.block _ hz3 (Ne.symm hkz.out)).trans hO3'.out)
  have hN4 := Lib.hid (hN3.out.trans hb3)
  have hst4 := ss_but hst'.out hb3 (fun e => by
    have e : w1.heap.size = k0 := by simpa [Value.ownBlock] using e
    omega)
  have hz4 : w.heap.size < w3.heap.size := Nat.lt_of_lt_of_le hz3 hb3.size
  clear cF hb3 hst' hO3' hN3 hs0 hz1
  cases ok with
  | false =>
    have hX : Hid (∀ W : World, W.heap[k0]? = w3.heap[k0]? → ReadP w.heap.size k0 Q s.data.toList (errM 80) W) := Lib.hid fun W hW => by
      unfold ReadP; rw [h1'.out]
      exact ⟨false, by rw [hW]; exact hQ, .inl ⟨rfl, rfl⟩⟩
    clear hQ hst4
    obtain ⟨c0, c1, c2, f0, f1, f2⟩ := res3 hO4.out
    go_wp2
    exact bodyPost_ret (v := .tuple #[.agg #[.slice none 0 0, .string ⟨#[]⟩, .int .i64 0], .int .i64 80]) (by simp [results, Tryd.results27, go_sem, c0, c1, c2]) rfl ⟨hX.out _ (set3 hkz.out _ _ _), ((hN4.out.setCell (p := ⟨w.heap.size, 0, none⟩) (Nat.le_refl _) _).setCell (p := ⟨w.heap.size, 1, none⟩) (Nat.le_refl _) _).setCell (p := ⟨w.heap.size, 2, none⟩) (Nat.le_refl _) _⟩
  | true =>
    have hst0 : Hid (N = 1 → SsAt w3 (.slice (some ⟨w1.heap.size, 0, none⟩) 0 0) (L'.map (·.data.toList))) := Lib.hid fun e => by
      have hnil : L'.map (·.data.toList) = [] := by
        obtain ⟨_, _, _, _, h1, _⟩ := hst4
        injection h1 with _ h1 _
        exact List.eq_nil_of_length_eq_zero (by omega)
      rw [hnil]
      exact ⟨_, 0, 0, 0, rfl, Nat.le_refl _, Nat.zero_le _, (fun h => absurd h (by simp)), fun j l h => by simp at h⟩
    have hr8 : Hid (∀ r ∈ L'.map (·.data.toList), r.length ≤ 65536) := Lib.hid fun r hr => by have := hlen'.out r (by simp at hr ⊢; exact .inr hr); omega
    have cR := readFields_any _ _ w3 hst4 hr8.out
    have cR0 : Hid (N = 1 → Calls Tryd.prog 44 #[.slice (some ⟨w1.heap.size, 0, none⟩) 0 0] w3 fun e w' => FldsP w3.heap.size (L'.map (·.data.toList)) e w' ∧ Below w3.heap.size w3 w') := Lib.hid fun e => readFields_any _ _ w3 (hst0.out e) hr8.out
    have hQ' := Lib.hid hQ
    clear hst4 hQ
    go_wp2_with fail
    all_goals
      go_at_call 44
      first
        | (with_reducible refine cR.mono ?_)
        | (with_reducible refine (cR0.out (by omega)).mono ?_)
      rintro e w4 ⟨hR, hb4⟩
      have hO5 := Lib.hid ((hb4.block _ (Array.getElem?_eq_some_iff.1 hO4.out).1).trans hO4.out)
      have hN5 := Lib.hid (hN4.out.trans (but_of hb4 k0))
      have hk5 : w4.heap[k0]? = w3.heap[k0]? := hb4.block _ (by omega)
      have hk5' := Lib.hid hk5
      clear cR hb4 hO4 hN4 hk5
      rcases hR with ⟨hf, rfl⟩ | ⟨fs, n, fv, hf, hn, rfl, hown⟩
      · have hX : Hid (∀ W : World, W.heap[k0]? = w4.heap[k0]? → ReadP w.heap.size k0 Q s.data.toList (errM 80) W) := Lib.hid fun W hW => by
          unfold ReadP; rw [h1'.out]
          refine ⟨true, by rw [hW, hk5'.out]; exact hQ'.out, .inr ⟨rfl, ?_⟩⟩
          rw [hf]
        clear hf
        obtain ⟨c0, c1, c2, f0, f1, f2⟩ := res3 hO5.out
        go_wp2
        exact bodyPost_ret (v := .tuple #[.agg #[.slice none 0 0, .string ⟨#[]⟩, .int .i64 0], .int .i64 80]) (by simp [results, Tryd.results27, go_sem, c0, c1, c2]) rfl ⟨hX.out _ (set3 hkz.out _ _ _), ((hN5.out.setCell (p := ⟨w.heap.size, 0, none⟩) (Nat.le_refl _) _).setCell (p := ⟨w.heap.size, 1, none⟩) (Nat.le_refl _) _).setCell (p := ⟨w.heap.size, 2, none⟩) (Nat.le_refl _) _⟩
      · have e5 : IntKind.i64.wrap ((s.size : Int) - (M : Int)) = (s.size : Int) - (M : Int) := IntWalk.i64_in _ (by omega)
        by_cases hlt : s.size - M < n
        · have hX : Hid (∀ W : World, W.heap[k0]? = w4.heap[k0]? → ReadP w.heap.size k0 Q s.data.toList (errM 91) W) := Lib.hid fun W hW => by
            unfold ReadP; rw [h1'.out]
            refine ⟨true, by rw [hW, hk5'.out]; exact hQ'.out, .inr ⟨rfl, ?_⟩⟩
            rw [hf]
            exact .inl ⟨by rw [← hsz'.out]; exact hlt, rfl⟩
          have q1 : (s.size : Int) - (M : Int) < (n : Int) := by omega
          have q2 : (s.size : Int) - (M : Int) < (n : Int) := by omega
          clear hf hown
          obtain ⟨c0, c1, c2, f0, f1, f2⟩ := res3 hO5.out
          go_wp2
          exact bodyPost_ret (v := .tuple #[.agg #[.slice none 0 0, .string ⟨#[]⟩, .int .i64 0], .int .i64 91]) (by simp [results, Tryd.results27, go_sem, c0, c1, c2]) rfl ⟨hX.out _ (set3 hkz.out _ _ _), ((hN5.out.setCell (p := ⟨w.heap.size, 0, none⟩) (Nat.le_refl _) _).setCell (p := ⟨w.heap.size, 1, none⟩) (Nat.le_refl _) _).setCell (p := ⟨w.heap.size, 2, none⟩) (Nat.le_refl _) _⟩
        · obtain ⟨ao, cp, rfl⟩ := hown.form
          obtain ⟨E, hE⟩ : ∃ E, M + n = E := ⟨_, rfl⟩
          have hEz : (M : Int) + (n : Int) = (E : Int) := by omega
          obtain ⟨nf, hnf⟩ : ∃ nf, fs.length = nf := ⟨_, rfl⟩
          rw [hnf] at hown ⊢
          have hown' := Lib.hid hown
          have hX : Hid (∀ W : World, W.heap[k0]? = w4.heap[k0]? → FsOwn w.heap.size (.slice ao nf cp) fs W → ReadP w.heap.size k0 Q s.data.toList (.returned (.tuple #[.agg #[.slice ao nf cp, .string (s.extract M E), .int .i64 (E : Int)], .int .i64 0])) W) := Lib.hid fun W hW hfs => by
            unfold ReadP; rw [h1'.out]
            refine ⟨true, by rw [hW, hk5'.out]; exact hQ'.out, .inr ⟨rfl, ?_⟩⟩
            rw [hf]
            refine .inr ⟨by rw [← hsz'.out]; exact hlt, .slice ao nf cp, ?_, hfs⟩
            rw [show ((M + n : Nat) : Int) = (E : Int) by omega, ← sv_data (s.extract M E), Lib.extract_data, show E - M = n by omega]
          have q1 : ¬ (s.size : Int) - (M : Int) < (n : Int) := by omega
          have q2 : ¬ (s.size : Int) - (M : Int) < (n : Int) := by omega
          have q3 : E ≤ s.size := by omega
          have q5 : (0 : Int) ≤ (M : Int) := by omega
          have q6 : (M : Int) ≤ (E : Int) := by omega
          have q7 : (E : Int) ≤ (s.size : Int) := by omega
          have q8 : M ≤ E := by omega
          clear hE
          clear hf hown
          obtain ⟨c0, c1, c2, f0, f1, f2⟩ := res3 hO5.out
          go_wp2
          exact bodyPost_ret (v := .tuple #[.agg #[.slice ao nf cp, .string (s.extract M E), .int .i64 (E : Int)], .int .i64 0]) (by simp [results, Tryd.results27, go_sem, c0, c1, c2]) rfl
            ⟨hX.out _ (set3 hkz.out _ _ _) (fs_less (fs_set (fs_set (fs_set hown'.out hz4 _) hz4 _) hz4 _) (Nat.le_of_lt hz4)), ((hN5.out.setCell (p := ⟨w.heap.size, 0, none⟩) (Nat.le_refl _) _).setCell (p := ⟨w.heap.size, 1, none⟩) (Nat.le_refl _) _).setCell (p := ⟨w.heap.size, 2, none⟩) (Nat.le_refl _) _⟩
end Go.Proofs.YtiaollhiggeolaaDoor.Ht
