import Derived.Test.YtjeagjleolmibaaGreatDoorMg13
import Derived.Test.YtjeagjleolmibaaGreatDoorMg8
import Derived.Laws.StructEq
import Derived.ChangeKeysEq

/-
  WALKS OF THE PROGRAM's READER OF LAYER xml: an element.
-/
set_option linter.unusedVariables false
namespace Go.Proofs.YtjeagjleolmibaaGreatDoor.Xm
open Go.Lib Go.RowKit

/-- what a reader knows of a beginning that it goes through: x1 behind <, the names p, n, x2 behind them, x3 behind the declarations -/
structure Beg (σ : St) (r x1 x2 x3 : Row) (p n : Row) (own : Env) : Prop where
  at0 : σ.rest = 60 :: x1
  step : step σ = opens σ x1
  low : σ.stack.length < 16
  name : written x1 = some (p, n, x2)
  decl : declsA x2 [] = some (x3, own) ∨ (declsA x2 [] = none ∧ x3.head? ≠ some 47 ∧ x3.head? ≠ some 62)
theorem ans_opens {σ : St} {t : Row} (h : σ.rest = 60 :: t) (hs : Xm.step σ = opens σ t) : ans σ = (opens σ t).bind ans := by
  cases hx : opens σ t with
  | none => rw [hx] at hs; exact ans_none (by rw [h]; simp) hs
  | some τ => rw [hx] at hs; exact ans_some hs
theorem Beg.nospace {σ : St} {r x1 x2 x3 p n : Row} {own : Env} (h : Beg σ r x1 x2 x3 p n own) (hs : spOf p (own ++ σ.env) = none) : ans σ = none := by
  rw [ans_opens h.at0 h.step]
  rcases h.decl with hd | ⟨hd, _⟩
  · rw [opens_nospace h.name hd hs]; rfl
  · rw [opens_nodecl h.name hd]; rfl
theorem Beg.noend {σ : St} {r x1 x2 x3 p n : Row} {own : Env} (h : Beg σ r x1 x2 x3 p n own) (h1 : ([47, 62] : Row).isPrefixOf x3 = false) (h2 : ([62] : Row).isPrefixOf x3 = false) : ans σ = none := by
  rw [ans_opens h.at0 h.step]
  rcases h.decl with hd | ⟨hd, _⟩
  · rw [opens_noend h.name hd h1 (head_not h2)]; rfl
  · rw [opens_nodecl h.name hd]; rfl
theorem Beg.both {σ : St} {r x1 x2 x3 p n v : Row} {own : Env} {sp : Int} (h : Beg σ r x1 x2 x3 p n own) (hs : spOf p (own ++ σ.env) = some sp) (hv : x3 = 47 :: 62 :: v) :
    ans σ = ans { σ with rest := v, pcs := flushed σ.pcs σ.txt ++ [⟨1, sp, n, []⟩, ⟨2, sp, n, []⟩], txt := [], had := true } := by
  rw [ans_opens h.at0 h.step]
  rcases h.decl with hd | ⟨_, hd, _⟩
  · rw [hv] at hd
    rw [opens_both h.low h.name hd hs]; rfl
  · rw [hv] at hd; exact absurd rfl hd
theorem Beg.one {σ : St} {r x1 x2 x3 p n v : Row} {own : Env} {sp : Int} (h : Beg σ r x1 x2 x3 p n own) (hs : spOf p (own ++ σ.env) = some sp) (hv : x3 = 62 :: v) :
    ans σ = ans { σ with rest := v, stack := ⟨p, n, sp, σ.env⟩ :: σ.stack, env := own ++ σ.env, pcs := flushed σ.pcs σ.txt ++ [⟨1, sp, n, []⟩], txt := [], had := true } := by
  rw [ans_opens h.at0 h.step]
  rcases h.decl with hd | ⟨_, _, hd⟩
  · rw [hv] at hd
    rw [opens_one h.low h.name hd hs]; rfl
  · rw [hv] at hd; exact absurd rfl hd
theorem flushed_len (ps : List Pc) (t : Row) : (flushed ps t).length ≤ ps.length + 1 := by
  unfold flushed
  split
  · omega
  · simp
theorem el_deep {σ : St} {r : Row} (hr : σ.rest = r) (h : 16 ≤ σ.stack.length) (hop : ∀ t, σ.rest = 60 :: t → Xm.step σ = opens σ t) (hno : σ.rest.head? ≠ some 60 → ans σ = none) : ans σ = none := by
  by_cases h60 : σ.rest.head? = some 60
  · cases hx : σ.rest with
    | nil => rw [hx] at h60; cases h60
    | cons c t =>
      rw [hx] at h60
      simp at h60
      subst h60
      rw [ans_opens hx (hop t hx), opens_deep h]; rfl
  · exact hno h60
theorem Chain.form {w : World} : ∀ {E : List Env} {v : Value}, Chain w v E → ∃ o, v = .pointer o
  | [], v, h => ⟨none, h⟩
  | own :: E, v, ⟨s, m, v', h1, _⟩ => ⟨_, h1⟩
theorem pre_self {a x : Row} (h : (60 :: 47 :: a : Row).isPrefixOf (60 :: 47 :: (a ++ x)) = false) : False := by
  have : (60 :: 47 :: a : Row).isPrefixOf (60 :: 47 :: (a ++ x)) = true := List.isPrefixOf_iff_prefix.2 ⟨x, rfl⟩
  rw [this] at h; cases h
set_option maxHeartbeats 4000000 in
set_option maxRecDepth 100000 in
theorem elem_zero : ElemC 0 := fun w0 w b σ r q E v d hm hG hS hO => by
  obtain ⟨hr1, hr2, hr3⟩ := hS.small
  obtain ⟨o, rfl⟩ := hO.chain.form
  have hS' := Lib.hid hS
  have hO' := Lib.hid hO
  have cN := need_any hS.bef ⟨#[60]⟩
  by_cases hd : 16 < d
  · have hfin := Lib.hid (show ElemP w0 w b q σ r gone w from .inr ⟨el_deep rfl (by have := hO.deep; omega) hO.opens hO.no, rfl, hS.bef.bel, q, KeptW.refl q w⟩)
    have cG := giveUp_any w
    unfold gone at hfin cG
    clear cN hS hO
    go_enter Tryz.func44, Tryz.ntmps44
    go_wp2_with fail
    go_at_call 45
    with_reducible refine cG.mono ?_
    rintro e w2 ⟨rfl, rfl⟩
    go_wp2
    exact ⟨rfl, hfin.out⟩
  · clear hS hO
    go_enter Tryz.func44, Tryz.ntmps44
    go_wp2_with fail
    go_at_call 57
    with_reducible refine cN.mono ?_
    rintro e w2 ⟨hq, hk2⟩
    clear cN
    rcases hq with ⟨x1, hy, rfl, h2⟩ | ⟨hn, rfl, h2⟩
    · have hsz1 := pre_size hy
      have hsz1' : r.size = 1 + x1.size := hsz1
      omega
    · have hfin := Lib.hid (show ElemP w0 w b q σ r gone w2 from .inr ⟨hO'.out.no (by rw [hS'.out.rest]; exact head_not hn), rfl, h2, q, hk2.W⟩)
      clear hn h2
      unfold gone at hfin ⊢
      go_wp2
      exact ⟨rfl, hfin.out⟩
set_option maxHeartbeats 4000000 in
set_option maxRecDepth 100000 in
theorem elem_step (m : Nat) (hE : ElemC m) : ElemC (m + 1) := fun w0 w b σ r q E v d hm hG hS hO => by
  obtain ⟨hr1, hr2, hr3⟩ := hS.small
  obtain ⟨o, rfl⟩ := hO.chain.form
  have hS' := Lib.hid hS
  have hO' := Lib.hid hO
  have cN := need_any hS.bef ⟨#[60]⟩
  by_cases hd : 16 < d
  · have hfin := Lib.hid (show ElemP w0 w b q σ r gone w from .inr ⟨el_deep rfl (by have := hO.deep; omega) hO.opens hO.no, rfl, hS.bef.bel, q, KeptW.refl q w⟩)
    have cG := giveUp_any w
    unfold gone at hfin cG
    clear cN hS hO
    go_enter Tryz.func44, Tryz.ntmps44
    go_wp2_with fail
    go_at_call 45
    with_reducible refine cG.mono ?_
    rintro e w2 ⟨rfl, rfl⟩
    go_wp2
    exact ⟨rfl, hfin.out⟩
  · clear hS hO
    go_enter Tryz.func44, Tryz.ntmps44
    go_wp2_with fail
    go_at_call 57
    with_reducible refine cN.mono ?_
    rintro e w2 ⟨hq, hk2⟩
    clear cN
    have hk2' := Lib.hid (KeptR.W (q := q) hk2)
    clear hk2
    rcases hq with ⟨x1, hy, rfl, h2⟩ | ⟨hn, rfl, h2⟩
    rotate_left
    · have hfin := Lib.hid (show ElemP w0 w b q σ r gone w2 from .inr ⟨hO'.out.no (by rw [hS'.out.rest]; exact head_not hn), rfl, h2, q, hk2'.out⟩)
      clear hn h2
      unfold gone at hfin ⊢
      go_wp2
      exact ⟨rfl, hfin.out⟩
    have hsz1 := pre_size hy
    have hsz1' : r.size = 1 + x1.size := hsz1
    have hat0 : Hid (σ.rest = 60 :: x1.data.toList) := Lib.hid (by rw [hS'.out.rest]; exact hy)
    obtain ⟨c0, f0⟩ := h2.cell
    have cF := fullName_any h2 (by omega)
    clear hy h2 hsz1
    go_wp2_with fail
    go_at_call 58
    with_reducible refine cF.mono ?_
    rintro e w3 ⟨hq, hk3⟩
    clear cF
    have hk3' := Lib.hid (hk2'.out.trans hk3.W)
    clear hk3 hk2'
    rcases hq with ⟨p, nm, x2, hw, rfl, h3⟩ | ⟨hw, rfl, h3⟩
    rotate_left
    · have hfin := Lib.hid (show ElemP w0 w b q σ r gone w3 from .inr ⟨by rw [ans_opens hat0.out (hO'.out.opens _ hat0.out), opens_no hw]; rfl, rfl, h3, q, hk3'.out⟩)
      clear hw h3
      unfold gone at hfin ⊢
      go_wp2
      exact ⟨rfl, hfin.out⟩
    have hw' := Lib.hid hw
    have hsz2 : x2.size < x1.size := by
      have := written_len hw
      rw [← Lib.size_eq, ← Lib.size_eq] at this
      exact this
    obtain ⟨c3, f3⟩ := h3.cell
    have cD := declarations_any hG h3 (by omega)
    clear hw h3
    have m1 : (0 : Int) ≤ (x1.size : Int) - (x2.size : Int) := by omega
    have m2 : (x1.size : Int) - (x2.size : Int) ≤ (x1.size : Int) := by omega
    obtain ⟨L, hL⟩ : ∃ L, x1.size - x2.size = L := ⟨_, rfl⟩
    have m3 : (x1.size : Int) - (x2.size : Int) = (L : Int) := by omega
    have m4 : IntKind.i64.wrap ((x1.size : Int) - (x2.size : Int)) = (L : Int) := by rw [m3]; exact IntWalk.i64_in _ (by omega)
    have m5 : IntKind.i64.wrap (L : Int) = (L : Int) := IntWalk.i64_in _ (by omega)
    have m6 : (L : Int) ≤ (x1.size : Int) := by omega
    obtain ⟨full, hfull⟩ : ∃ full, x1.extract 0 L = full := ⟨_, rfl⟩
    have hfr : Hid (x1.data.toList = full.data.toList ++ x2.data.toList ∧ full.data.toList = fullT p.data.toList nm.data.toList ∧ nameB nm.data.toList = true ∧ (p.data.toList = [] ∨ nameB p.data.toList = true)) := Lib.hid (by
      obtain ⟨e1, e2, e3⟩ := written_form hw'.out
      have e4 : full.data.toList = x1.data.toList.take L := by rw [← hfull, Lib.extract_data]; rfl
      have e5 : L = (fullT p.data.toList nm.data.toList).length := by
        have := congrArg List.length e1
        rw [List.length_append, ← Lib.size_eq, ← Lib.size_eq] at this
        omega
      have e6 : full.data.toList = fullT p.data.toList nm.data.toList := by rw [e4, e1, e5, List.take_left]
      exact ⟨by rw [e6]; exact e1, e6, e2, e3⟩)
    have hps : p.size ≤ 65536 ∧ nm.size ≤ 65536 ∧ full.size ≤ 65536 := by
      have h1 := congrArg List.length hfr.out.1
      have h2 := congrArg List.length hfr.out.2.1
      rw [List.length_append, ← Lib.size_eq, ← Lib.size_eq, ← Lib.size_eq] at h1
      rw [← Lib.size_eq] at h2
      have h3 : p.size ≤ (fullT p.data.toList nm.data.toList).length ∧ nm.size ≤ (fullT p.data.toList nm.data.toList).length := by
        unfold fullT
        split
        · rename_i hp
          rw [Lib.size_eq, Lib.size_eq, hp]; simp
        · rw [List.length_append, List.length_cons, ← Lib.size_eq, ← Lib.size_eq]; omega
      omega
    clear hL m1 m2 m3
    go_wp2_with fail
    go_at_call 59
    with_reducible refine cD.mono ?_
    rintro e w4 ⟨hq, hk4⟩
    clear cD
    have hk4' := Lib.hid (hk3'.out.trans hk4.W)
    clear hk4 hk3'
    rcases hq with ⟨mm, own, x3, h4, hmp4, rfl, hsz3, hdec⟩ | ⟨hdec, rfl, h4⟩
    rotate_left
    · have hfin := Lib.hid (show ElemP w0 w b q σ r gone w4 from .inr ⟨by rw [ans_opens hat0.out (hO'.out.opens _ hat0.out), opens_nodecl hw'.out hdec]; rfl, rfl, h4, q, hk4'.out⟩)
      clear hdec h4
      unfold gone at hfin ⊢
      go_wp2
      exact ⟨rfl, hfin.out⟩
    have hlow : σ.stack.length < 16 := by have := hO'.out.deep; omega
    have hbeg : Hid (Beg σ r.data.toList x1.data.toList x2.data.toList x3.data.toList p.data.toList nm.data.toList own) := Lib.hid ⟨hat0.out, hO'.out.opens _ hat0.out, hlow, hw'.out, hdec⟩
    obtain ⟨S, hSz⟩ : ∃ S, w4.heap.size = S := ⟨_, rfl⟩
    have hal : Below w4.heap.size w4 (w4.alloc (.cells #[.map (some mm), .pointer o] 94)) := (Below.refl _ _).alloc (Nat.le_refl _) _
    have hsc : (w4.alloc (.cells #[.map (some mm), .pointer o] 94)).heap[S]? = some (.cells #[.map (some mm), .pointer o] 94 (0, 0)) := by rw [← hSz]; exact heap_alloc_new w4 _
    have hch5 : Hid (Chain (w4.alloc (.cells #[.map (some mm), .pointer o] 94)) (.pointer (some ⟨S, 0, none⟩)) (own :: E)) := Lib.hid ⟨S, mm, .pointer o, rfl, hsc, hmp4.kept (KeptR.of_below hal), (hO'.out.chain.kept (hk4'.out.old hS'.out.own)).kept (KeptR.of_below hal).old⟩
    have h5 := Lib.hid (h4.kept hal)
    have hk5' := Lib.hid (hk4'.out.trans (KeptR.of_below hal).W)
    have cS := space_any p hps.1 (own :: E) (.pointer (some ⟨S, 0, none⟩)) _ hch5.out
    obtain ⟨w5, hw5⟩ : ∃ w5, w4.alloc (.cells #[.map (some mm), .pointer o] 94) = w5 := ⟨_, rfl⟩
    rw [hw5] at hch5 h5 hk5' cS
    clear hdec h4 hmp4 hal hsc hw' hk4'
    go_wp2_with fail
    go_at_call 60
    with_reducible refine cS.mono ?_
    rintro e w6 ⟨hq, hb6⟩
    clear cS
    have hch6 := Lib.hid (Chain.kept (KeptR.of_below hb6).old _ _ hch5.out)
    have h6 := Lib.hid (h5.out.kept hb6)
    have hk6' := Lib.hid (hk5'.out.trans (KeptR.of_below hb6).W)
    have henv : Hid ((own :: E).flatten = own ++ σ.env) := Lib.hid (by rw [List.flatten_cons, hO'.out.env])
    rcases hq with ⟨sp, hsp, rfl⟩ | ⟨hsp, rfl⟩
    rotate_left
    · have hfin := Lib.hid (show ElemP w0 w b q σ r gone w6 from .inr ⟨hbeg.out.nospace (by rw [← henv.out]; exact hsp), rfl, h6.out.bel, q, hk6'.out⟩)
      clear hsp hb6 hw5
      unfold gone at hfin ⊢
      go_wp2
      exact ⟨rfl, hfin.out⟩
    have hsp' : Hid (spOf p.data.toList (own ++ σ.env) = some sp) := Lib.hid (by rw [← henv.out]; exact hsp)
    obtain ⟨Z, hZ⟩ : ∃ Z, w6.heap.size = Z := ⟨_, rfl⟩
    have hal : Below w6.heap.size w6 (w6.alloc (.cells #[.int .i64 1, .int .i64 sp, .string nm, .string ⟨#[]⟩] 37)) := (Below.refl _ _).alloc (Nat.le_refl _) _
    have hz7 : (w6.alloc (.cells #[.int .i64 1, .int .i64 sp, .string nm, .string ⟨#[]⟩] 37)).heap[Z]? = some (.cells #[.int .i64 1, .int .i64 sp, .string nm, .string ⟨#[]⟩] 37 (0, 0)) := by rw [← hZ]; exact heap_alloc_new w6 _
    have hch7 := Lib.hid (Chain.kept (KeptR.of_below hal).old _ _ hch6.out)
    have h7 := h6.out.kept hal
    have hk7' := Lib.hid (hk6'.out.trans (KeptR.of_below hal).W)
    clear hsp hb6 hw5
    have hqZ : Hid (q.ownBlock ≠ some Z) := Lib.hid fun e => by
      obtain ⟨p', v', hv'⟩ := h6.out.rd
      have := (World.ownsRow.lt hv'.pcs Z e).2
      omega
    have cP := put_any h7 (by omega) (by omega) 1 sp nm ⟨#[]⟩
    have hz7' := Lib.hid hz7
    have hown7 : Hid (PsOwn w0.heap.size q σ.pcs (w6.alloc (.cells #[.int .i64 1, .int .i64 sp, .string nm, .string ⟨#[]⟩] 37))) := Lib.hid (by
      obtain ⟨p', v', hv'⟩ := h7.rd
      exact hv'.pcs)
    clear hal h7 hz7
    go_wp2_with fail
    obtain ⟨w7, hw7⟩ : ∃ w7, w6.alloc (.cells #[.int .i64 1, .int .i64 sp, .string nm, .string ⟨#[]⟩] 37) = w7 := ⟨_, rfl⟩
    rw [hw7] at hz7' hch7 hk7' cP hown7
    rw [hw7]
    go_at_call 61
    with_reducible refine cP.mono ?_
    rintro e w8 ⟨rfl, q8, h8, hK8⟩
    clear cP hw7
    obtain ⟨P1, hP1⟩ : ∃ P1, flushed σ.pcs σ.txt ++ [(⟨1, sp, nm.data.toList, []⟩ : Pc)] = P1 := ⟨_, rfl⟩
    rw [hP1] at h8
    have hP1l : P1.length ≤ σ.pcs.length + 2 := by
      have := flushed_len σ.pcs σ.txt
      rw [← hP1, List.length_append, List.length_singleton]; omega
    have hP1' := Lib.hid hP1
    have hK8' := Lib.hid hK8
    have h8' := Lib.hid h8
    have cT := take_any h8 ⟨#[47, 62]⟩
    clear h8 hK8 hP1
    go_wp2_with fail
    go_at_call 41
    with_reducible refine cT.mono ?_
    rintro e w9 ⟨hq, hk9⟩
    clear cT
    have hK9 := Lib.hid (hK8'.out.trans hk9.W)
    clear hk9 hK8'
    rcases hq with ⟨x4, hy, rfl, h9⟩ | ⟨hn, rfl, h9⟩
    · have hsz4 := pre_size hy
      have hsz4' : x3.size = 2 + x4.size := hsz4
      have hans := Lib.hid (hbeg.out.both hsp'.out (v := x4.data.toList) hy)
      have hzW := hK9.out.blocks Z _ hz7'.out (by rintro ⟨cs, ty, fr, e, he⟩; injection e with _ e2 _; subst e2; revert he; decide) hqZ.out
      have y0 : w9.cell? ⟨Z, 0, none⟩ = some (.int .i64 1) := by rw [Lib.cell_of_heap hzW]; rfl
      have y1 : w9.cell? ⟨Z, 1, none⟩ = some (.int .i64 sp) := by rw [Lib.cell_of_heap hzW]; rfl
      have y2 : w9.cell? ⟨Z, 2, none⟩ = some (.string nm) := by rw [Lib.cell_of_heap hzW]; rfl
      have y3 : w9.cell? ⟨Z, 3, none⟩ = some (.string ⟨#[]⟩) := by rw [Lib.cell_of_heap hzW]; rfl
      have cC := closing_any 1 sp nm ⟨#[]⟩ w9
      have h9' := Lib.hid h9
      clear hy hsz4 h9 hzW
      go_wp2_with fail
      go_at_call 20
      with_reducible refine cC.mono ?_
      rintro e w10 ⟨rfl, hb10⟩
      clear cC
      have h10 := h9'.out.kept hb10
      have hK10 := Lib.hid (hK9.out.trans (KeptR.of_below hb10).W)
      have cP := put_any h10 (by simp) (by omega) 2 sp nm ⟨#[]⟩
      clear h10 hb10 y0 y1 y2 y3
      go_wp2_with fail
      go_at_call 61
      with_reducible refine cP.mono ?_
      rintro e w11 ⟨rfl, q11, h11, hK11⟩
      clear cP
      have hfin := Lib.hid (show ElemP w0 w b q σ r (.returned (.tuple #[])) w11 from .inl ⟨{ σ with rest := x4.data.toList, pcs := flushed σ.pcs σ.txt ++ [⟨1, sp, nm.data.toList, []⟩, ⟨2, sp, nm.data.toList, []⟩], txt := [], had := true }, x4, q11, hans.out, rfl, rfl, rfl, rfl, ⟨rfl, by
          have e1 : flushed P1 [] ++ [(⟨2, sp, nm.data.toList, (⟨#[]⟩ : ByteArray).data.toList⟩ : Pc)] = flushed σ.pcs σ.txt ++ [⟨1, sp, nm.data.toList, []⟩, ⟨2, sp, nm.data.toList, []⟩] := by
            rw [flushed_nil, ← hP1'.out, List.append_assoc]; rfl
          rw [e1] at h11
          exact h11, by
          have h1 := flushed_len σ.pcs σ.txt
          unfold Room
          simp only [List.length_append, List.length_cons, List.length_nil]
          rw [← Lib.size_eq]
          omega⟩, by omega, hk7'.out.trans (hK10.out.trans hK11), rfl⟩)
      clear h11 hK11
      go_wp2
      go_end0
      exact hfin.out
    · have hn9 := Lib.hid hn
      have cN2 := need_any h9 ⟨#[62]⟩
      clear hn h9
      go_wp2_with fail
      go_at_call 57
      with_reducible refine cN2.mono ?_
      rintro e w10 ⟨hq, hk10⟩
      clear cN2
      have hK10 := Lib.hid (hK9.out.trans hk10.W)
      clear hk10 hK9
      rcases hq with ⟨x4, hy, rfl, h10⟩ | ⟨hn, rfl, h10⟩
      rotate_left
      · have hfin := Lib.hid (show ElemP w0 w b q σ r gone w10 from .inr ⟨hbeg.out.noend hn9.out hn, rfl, h10, q8, hk7'.out.trans hK10.out⟩)
        clear hn h10
        unfold gone at hfin ⊢
        go_wp2
        exact ⟨rfl, hfin.out⟩
      have hsz4 := pre_size hy
      have hsz4' : x3.size = 1 + x4.size := hsz4
      obtain ⟨σ1, hσ1⟩ : ∃ σ1 : St, { σ with rest := x4.data.toList, stack := ⟨p.data.toList, nm.data.toList, sp, σ.env⟩ :: σ.stack, env := own ++ σ.env, pcs := P1, txt := [], had := true } = σ1 := ⟨_, rfl⟩
      have hans : Hid (ans σ = ans σ1) := Lib.hid (by
        rw [hbeg.out.one hsp'.out (v := x4.data.toList) hy, ← hσ1, ← hP1'.out])
      have hσf : Hid (σ1.stack = ⟨p.data.toList, nm.data.toList, sp, σ.env⟩ :: σ.stack ∧ σ1.env = own ++ σ.env ∧ σ1.had = true) := Lib.hid (by rw [← hσ1]; exact ⟨rfl, rfl, rfl⟩)
      have hS10 : Sits w0 b σ1 x4 q8 w10 := by
        rw [← hσ1]
        refine ⟨rfl, h10, ?_⟩
        unfold Room
        simp only [List.length_nil]
        rw [← Lib.size_eq]
        omega
      have cC := content_any m hE hG (E := own :: E) d (by omega) hS10 (Chain.kept (hK10.out.old hown7.out) _ _ hch7.out) (by rw [hσf.out.2.1]; exact henv.out.symm) (by rw [hσf.out.1]; simp) hσf.out.2.2 (by rw [hσf.out.1, List.length_cons]; exact hO'.out.deep) (by omega)
      clear hy h10 hσ1 hsz4 hS10 hn9
      go_wp2_with fail
      go_at_call 62
      with_reducible refine cC.mono ?_
      rintro e w11 hq
      clear cC
      rcases hq with ⟨τ1, x5, q11, hlk, hS11, hcl, hsz5, hK11, rfl⟩ | ⟨hq, rfl, h11, q11, hK11⟩
      rotate_left
      · have hfin := Lib.hid (show ElemP w0 w b q σ r gone w11 from .inr ⟨by rw [hans.out, hq], rfl, h11, q11, hk7'.out.trans (hK10.out.trans hK11)⟩)
        clear hq h11 hK11
        unfold gone at hfin ⊢
        go_wp2
        exact ⟨rfl, hfin.out⟩
      obtain ⟨t5, ht5⟩ := hcl
      have hS11' := Lib.hid hS11
      have hlk' := Lib.hid hlk
      have hx5 : Hid (x5.data.toList = 60 :: 47 :: t5) := Lib.hid (by rw [← hS11.rest]; exact ht5)
      have hst11 : Hid (τ1.stack = ⟨p.data.toList, nm.data.toList, sp, σ.env⟩ :: σ.stack) := Lib.hid (by rw [hlk.2.1]; exact hσf.out.1)
      have hac : Hid (ans σ = (closes τ1 t5).bind ans) := Lib.hid (by rw [hans.out, hlk.1, ans_close ht5])
      have hK11' := Lib.hid (hK10.out.trans hK11)
      obtain ⟨ef, hef⟩ : ∃ ef, (⟨#[60, 47]⟩ : ByteArray) ++ full = ef := ⟨_, rfl⟩
      have hefr : Hid (ef.data.toList = 60 :: 47 :: full.data.toList) := Lib.hid (by rw [← hef, ByteArray.data_append, Array.toList_append]; rfl)
      have n1 : ¬ 9223372036854775807 < (⟨#[60, 47]⟩ : ByteArray).size + full.size := by rw [show (⟨#[60, 47]⟩ : ByteArray).size = 2 from rfl]; omega
      have n2 : ¬ 9223372036854775807 < 2 + full.size := by omega
      have cN3 := need_any hS11.bef ef
      obtain ⟨hr51, hr52, hr53⟩ := hS11.small
      clear ht5 hS11 hlk hK11 hK10
      go_wp2_with fail
      go_at_call 57
      with_reducible refine cN3.mono ?_
      rintro e w12 ⟨hq, hk12⟩
      clear cN3
      have hK12 := Lib.hid (hK11'.out.trans hk12.W)
      clear hk12 hK11'
      rcases hq with ⟨x6, hy, rfl, h12⟩ | ⟨hn, rfl, h12⟩
      rotate_left
      · have hfin := Lib.hid (show ElemP w0 w b q σ r gone w12 from .inr ⟨by
          rw [hac.out, closes_no hst11.out (fun x hx => ?_)]; rfl
          exfalso
          rw [hefr.out, hx5.out, hx] at hn
          have e1 : full.data.toList = fullT p.data.toList nm.data.toList := hfr.out.2.1
          rw [e1] at hn
          exact pre_self hn, rfl, h12, _, hk7'.out.trans hK12.out⟩)
        clear hn h12
        unfold gone at hfin ⊢
        go_wp2
        exact ⟨rfl, hfin.out⟩
      have hsz6 := pre_size hy
      have hsz6' : x5.size = ef.size + x6.size := hsz6
      have hefs : 2 ≤ ef.size := by
        have := congrArg List.length hefr.out
        rw [← Lib.size_eq, List.length_cons, List.length_cons] at this
        omega
      have ht6 : Hid (t5 = fullT p.data.toList nm.data.toList ++ x6.data.toList) := Lib.hid (by
        rw [hx5.out, hefr.out, hfr.out.2.1] at hy
        simpa using hy)
      have cB := blanks_any h12
      clear hy h12 hsz6
      go_wp2_with fail
      go_at_call 55
      with_reducible refine cB.mono ?_
      rintro e w13 ⟨⟨x7, hx7, rfl, h13⟩, hk13⟩
      clear cB
      have hK13 := Lib.hid (hK12.out.trans hk13.W)
      have hx7' := Lib.hid hx7
      have hsz7 : x7.size ≤ x6.size := by
        have := dropWhile_len blk x6.data.toList
        rw [← hx7, ← Lib.size_eq, ← Lib.size_eq] at this
        exact this
      have cN4 := need_any h13 ⟨#[62]⟩
      clear hk13 hK12 hx7 h13
      go_wp2_with fail
      go_at_call 57
      with_reducible refine cN4.mono ?_
      rintro e w14 ⟨hq, hk14⟩
      clear cN4
      have hK14 := Lib.hid (hK13.out.trans hk14.W)
      clear hk14 hK13
      rcases hq with ⟨x8, hy, rfl, h14⟩ | ⟨hn, rfl, h14⟩
      rotate_left
      · have hfin := Lib.hid (show ElemP w0 w b q σ r gone w14 from .inr ⟨by
          rw [hac.out, closes_no hst11.out (fun x hx => ?_)]; rfl
          rw [ht6.out] at hx
          have hx := List.append_cancel_left hx
          rw [← hx, ← hx7'.out]
          exact head_not hn, rfl, h14, _, hk7'.out.trans hK14.out⟩)
        clear hn h14
        unfold gone at hfin ⊢
        go_wp2
        exact ⟨rfl, hfin.out⟩
      have hsz8 := pre_size hy
      have hsz8' : x7.size = 1 + x8.size := hsz8
      have hfa : Hid (ans σ = ans { τ1 with rest := x8.data.toList, stack := σ.stack, env := σ.env, pcs := flushed τ1.pcs τ1.txt ++ [⟨2, sp, nm.data.toList, []⟩], txt := [] }) := Lib.hid (by
        rw [hac.out, ht6.out]
        have := closes_yes (σ := τ1) hst11.out hfr.out.2.2.1 hfr.out.2.2.2 (x := x6.data.toList) (v := x8.data.toList) (by rw [← hx7'.out]; exact hy)
        rw [show fullT p.data.toList nm.data.toList ++ x6.data.toList = fullT (⟨p.data.toList, nm.data.toList, sp, σ.env⟩ : El).pre (⟨p.data.toList, nm.data.toList, sp, σ.env⟩ : El).name ++ x6.data.toList from rfl, this]
        rfl)
      have hzW := hK14.out.blocks Z _ hz7'.out (by rintro ⟨cs, ty, fr, e, he⟩; injection e with _ e2 _; subst e2; revert he; decide) hqZ.out
      have y0 : w14.cell? ⟨Z, 0, none⟩ = some (.int .i64 1) := by rw [Lib.cell_of_heap hzW]; rfl
      have y1 : w14.cell? ⟨Z, 1, none⟩ = some (.int .i64 sp) := by rw [Lib.cell_of_heap hzW]; rfl
      have y2 : w14.cell? ⟨Z, 2, none⟩ = some (.string nm) := by rw [Lib.cell_of_heap hzW]; rfl
      have y3 : w14.cell? ⟨Z, 3, none⟩ = some (.string ⟨#[]⟩) := by rw [Lib.cell_of_heap hzW]; rfl
      have cC2 := closing_any 1 sp nm ⟨#[]⟩ w14
      have h14' := Lib.hid h14
      clear hy hsz8 h14 hzW
      go_wp2_with fail
      go_at_call 20
      with_reducible refine cC2.mono ?_
      rintro e w15 ⟨rfl, hb15⟩
      clear cC2
      have h15 := h14'.out.kept hb15
      have hK15 := Lib.hid (hK14.out.trans (KeptR.of_below hb15).W)
      have cP := put_any h15 (by omega) (by omega) 2 sp nm ⟨#[]⟩
      clear h15 hb15 y0 y1 y2 y3
      go_wp2_with fail
      go_at_call 61
      with_reducible refine cP.mono ?_
      rintro e w16 ⟨rfl, q16, h16, hK16⟩
      clear cP
      have hfin := Lib.hid (show ElemP w0 w b q σ r (.returned (.tuple #[])) w16 from .inl ⟨{ τ1 with rest := x8.data.toList, stack := σ.stack, env := σ.env, pcs := flushed τ1.pcs τ1.txt ++ [⟨2, sp, nm.data.toList, []⟩], txt := [] }, x8, q16, hfa.out, rfl, rfl, by
          show τ1.had = true
          rw [hlk'.out.2.2.2]; exact hσf.out.2.2, rfl, ⟨rfl, h16, by
          have h1 := flushed_len τ1.pcs τ1.txt
          unfold Room
          simp only [List.length_append, List.length_cons, List.length_nil]
          rw [← Lib.size_eq]
          omega⟩, by omega, hk7'.out.trans (hK15.out.trans hK16), rfl⟩)
      clear h16 hK16
      go_wp2
      go_end0
      exact hfin.out
theorem elem_any : ∀ n, ElemC n
  | 0 => elem_zero
  | n + 1 => elem_step n (elem_any n)
end Go.Proofs.YtjeagjleolmibaaGreatDoor.Xm

/-
  WALKS OF THE PROGRAM's READER OF LAYER xml: document. (wip/tools/genxmln.py)
-/
set_option linter.unusedVariables false
namespace Go.Proofs.YtjeagjleolmibaaGreatDoor.Xm
open Go.Lib Go.RowKit

theorem front_blk {t u : Row} {c : UInt8} (h : t.dropWhile blk = t) (ht : t = c :: u) : blk c = false := by
  subst ht
  cases hb : blk c with
  | false => rfl
  | true =>
    rw [List.dropWhile_cons, if_pos hb] at h
    have := congrArg List.length h
    have h2 := dropWhile_len blk u
    rw [List.length_cons] at this
    omega
theorem front_remark {t u : Row} (h : remarkS.isPrefixOf t = false) (ht : t = 60 :: u) : ([33, 45, 45] : Row).isPrefixOf u = false := by
  subst ht
  exact h
/-- the first element's beginning -/
theorem opens_first {x : Row} {w : World} (h1 : x.dropWhile blk = x) (h2 : remarkS.isPrefixOf x = false) : Opens { init x with rest := x } [] (.pointer none) 1 w := by
  refine ⟨rfl, rfl, rfl, fun t ht => step_top ht rfl rfl (front_remark h2 ht), fun hh => ?_⟩
  cases hx : x with
  | nil => exact ans_over rfl (.inr rfl)
  | cons c t => exact ans_out rfl (fun e => hh (by show x.head? = _; rw [hx, e]; rfl)) (front_blk h1 hx) rfl
/-- what is left behind the element -/
theorem ans_left {σ : St} {x : Row} (hr : σ.rest = x) (hs : σ.stack = []) (hh : σ.had = true) (h1 : x.dropWhile blk = x) (h2 : remarkS.isPrefixOf x = false) (hx : x ≠ []) : ans σ = none := by
  cases hx' : x with
  | nil => exact absurd hx' hx
  | cons c t =>
    by_cases hc : c = 60
    · subst hc
      exact ans_behind (hr.trans hx') hs hh (front_remark h2 hx')
    · exact ans_out (hr.trans hx') hc (front_blk h1 hx') hs
theorem docP_of {s x : Row} (h : prolog s = some x) : docP s = ans (init x) := by
  unfold docP; rw [h]; rfl
/-- a document read, or given up -/
def DocR (w0 w : World) (b : Nat) (q : Value) (s : ByteArray) (e : Ending) (w' : World) : Prop :=
  (∃ (ps : List Pc) (q' : Value), docP s.data.toList = some ps ∧ e = .returned (.tuple #[]) ∧ Bef w0 b ⟨#[]⟩ [] (ps, q') w' ∧ KeptW q w q' w') ∨ (docP s.data.toList = none ∧ e = gone ∧ Below w0.heap.size w0 w' ∧ ∃ q' : Value, KeptW q w q' w')
theorem DocR.left {w0 w w' : World} {b : Nat} {s x : ByteArray} {τ : St} {q q' : Value} (hp : docP s.data.toList = ans τ) (hr : τ.rest = x.data.toList) (hs : τ.stack = []) (hh : τ.had = true) (h1 : x.data.toList.dropWhile blk = x.data.toList) (h2 : remarkS.isPrefixOf x.data.toList = false) (hx : ¬ x = ⟨#[]⟩) (hb : Bef w0 b x [] (τ.pcs, q') w') (hk : KeptW q w q' w') : DocR w0 w b q s gone w' :=
  .inr ⟨by rw [hp]; exact ans_left hr hs hh h1 h2 (fun e => hx (ByteArray.ext (Array.toList_inj.1 e))), rfl, hb.bel, q', hk⟩
theorem DocR.done {w0 w w' : World} {b : Nat} {s x : ByteArray} {τ : St} {q q' : Value} (hp : docP s.data.toList = ans τ) (hr : τ.rest = x.data.toList) (hs : τ.stack = []) (hh : τ.had = true) (hx : x = ⟨#[]⟩) (hb : Bef w0 b x [] (τ.pcs, q') w') (hk : KeptW q w q' w') : DocR w0 w b q s (.returned (.tuple #[])) w' :=
  .inl ⟨τ.pcs, q', by rw [hp]; exact ans_done (by rw [hr, hx]) hs hh, rfl, hx ▸ hb, hk⟩
set_option maxHeartbeats 4000000 in
set_option maxRecDepth 100000 in
theorem document_any {w0 w : World} (hG : Gw w0) {b : Nat} {s : ByteArray} {q : Value} (h : Bef w0 b s [] ([], q) w) (hs : s.size ≤ 65536) :
    Calls Tryz.prog 29 #[.pointer (some ⟨b, 0, none⟩)] w fun e w' => DocR w0 w b q s e w' := by
  have cT := take_any h ⟨#[60, 63, 120, 109, 108]⟩
  clear h
  go_enter Tryz.func29, Tryz.ntmps29
  go_wp2_with fail
  go_at_call 41
  with_reducible refine cT.mono ?_
  rintro e w1 ⟨hq, hk1⟩
  clear cT
  have hk1' := Lib.hid (KeptR.W (q := q) hk1)
  clear hk1
  rcases hq with ⟨x1, hy, rfl, h1⟩ | ⟨hn, rfl, h1⟩
  · have hsz1 := pre_size hy
    have hsz1' : s.size = 5 + x1.size := hsz1
    have hpro : Hid (prolog s.data.toList = (find [63, 62] x1.data.toList).map fun p => p.2) := Lib.hid (by
      have hy2 : s.data.toList = xmlS ++ x1.data.toList := hy
      unfold prolog
      rw [hy2, if_pos (List.isPrefixOf_iff_prefix.2 ⟨_, rfl⟩)]; rfl)
    have cU := until_any hG h1 ⟨#[63, 62]⟩ (by simp) (by omega)
    clear hy h1 hsz1
    go_wp2_with fail
    go_at_call 42
    with_reducible refine cU.mono ?_
    rintro e w2 ⟨hq, hk2⟩
    clear cU
    have hk2' := Lib.hid (hk1'.out.trans hk2.W)
    clear hk2 hk1'
    rcases hq with ⟨a, x2, hf, rfl, h2⟩ | ⟨hf, rfl, h2⟩
    rotate_left
    · have hfin := Lib.hid (show DocR w0 w b q s gone w2 from .inr ⟨by
        have e : find [63, 62] x1.data.toList = none := hf
        unfold docP; rw [hpro.out, e]; rfl, rfl, h2, q, hk2'.out⟩)
      clear hf h2
      unfold gone at hfin ⊢
      go_wp2
      exact ⟨rfl, hfin.out⟩
    have hdoc : Hid (docP s.data.toList = ans (init x2.data.toList)) := Lib.hid (docP_of (by
      have e : find [63, 62] x1.data.toList = some (a.data.toList, x2.data.toList) := hf
      rw [hpro.out, e]; rfl))
    have hsz2 : x2.size ≤ 65536 := by
      have := (find_sizes (by simp) hf).2
      rw [← Lib.size_eq] at this
      omega
    clear hf hpro
    have cA := aside_any hG h2 (σ := init x2.data.toList) (by omega) rfl rfl
    clear h2
    go_wp2_with fail
    go_at_call 43
    with_reducible refine cA.mono ?_
    rintro e w3 ⟨hq, hk3⟩
    clear cA
    have hk3' := Lib.hid (hk2'.out.trans hk3.W)
    clear hk3 hk2'
    rcases hq with ⟨x3, ha, hb3, hm3, hsz3, rfl, h3⟩ | ⟨ha, rfl, h3⟩
    rotate_left
    · have hfin := Lib.hid (show DocR w0 w b q s gone w3 from .inr ⟨by rw [hdoc.out]; exact ha, rfl, h3, q, hk3'.out⟩)
      clear ha h3
      unfold gone at hfin ⊢
      go_wp2
      exact ⟨rfl, hfin.out⟩
    have hdoc3 : Hid (docP s.data.toList = ans { init x2.data.toList with rest := x3.data.toList }) := Lib.hid (by rw [hdoc.out]; exact ha)
    have hS3 : Sits w0 b { init x2.data.toList with rest := x3.data.toList } x3 q w3 := ⟨rfl, h3, by
      unfold Room
      show x3.data.toList.length ≤ 65536 ∧ 0 + 4 * x3.data.toList.length ≤ 262144 ∧ 0 + 4 * x3.data.toList.length ≤ 262144
      rw [← Lib.size_eq]
      omega⟩
    have cE : Calls Tryz.prog 44 #[.pointer (some ⟨b, 0, none⟩), .pointer none, .int .i64 1] w3 fun e w' => ElemP w0 w3 b q { init x2.data.toList with rest := x3.data.toList } x3 e w' :=
      elem_any x3.size w0 w3 b _ x3 q [] (.pointer none) 1 (Nat.le_refl _) hG hS3 (opens_first hb3 hm3)
    clear ha hS3 h3 hb3 hm3 hdoc
    go_wp2_with fail
    go_at_call 44
    with_reducible refine cE.mono ?_
    rintro e w4 hq
    clear cE
    rcases hq with ⟨τ, x4, q4, ha, hst, henv, hhad, htx, hS4, hsz4, hk4, rfl⟩ | ⟨ha, rfl, h4, q4, hk4⟩
    rotate_left
    · have hfin := Lib.hid (show DocR w0 w b q s gone w4 from .inr ⟨by rw [hdoc3.out, ha], rfl, h4, q4, hk3'.out.trans hk4⟩)
      clear ha h4 hk4
      unfold gone at hfin ⊢
      go_wp2
      exact ⟨rfl, hfin.out⟩
    have hst' : τ.stack = [] := hst
    have hdoc4 : Hid (docP s.data.toList = ans τ) := Lib.hid (by rw [hdoc3.out, ha])
    have hB4 := hS4.bef
    rw [htx] at hB4
    have hh4 := Lib.hid hhad
    have hk4' := Lib.hid (hk3'.out.trans hk4)
    clear hk3'
    have cA := aside_any hG hB4 (σ := τ) (by omega) hst' hS4.rest
    clear ha hst henv hhad htx hS4 hk4 hB4 hdoc3
    have hst4 := Lib.hid hst'
    clear hst'
    go_wp2_with fail
    go_at_call 43
    with_reducible refine cA.mono ?_
    rintro e w5 ⟨hq, hk5⟩
    clear cA
    have hk5' := Lib.hid (hk4'.out.trans hk5.W)
    clear hk5 hk4'
    rcases hq with ⟨x5, ha, hb5, hm5, hsz5, rfl, h5⟩ | ⟨ha, rfl, h5⟩
    rotate_left
    · have hfin := Lib.hid (show DocR w0 w b q s gone w5 from .inr ⟨by rw [hdoc4.out, ha], rfl, h5, _, hk5'.out⟩)
      clear ha h5
      unfold gone at hfin ⊢
      go_wp2
      exact ⟨rfl, hfin.out⟩
    have hdoc5 : Hid (docP s.data.toList = ans { τ with rest := x5.data.toList }) := Lib.hid (by rw [hdoc4.out, ha])
    have hl5 := Lib.hid fun hx => DocR.left (τ := { τ with rest := x5.data.toList }) hdoc5.out rfl hst4.out hh4.out hb5 hm5 hx h5 hk5'.out
    have hd5 := Lib.hid fun hx => DocR.done (τ := { τ with rest := x5.data.toList }) hdoc5.out rfl hst4.out hh4.out hx h5 hk5'.out
    obtain ⟨c5, f5⟩ := h5.cell
    clear ha hb5 hm5 h5 hdoc4
    by_cases hx : x5 = ⟨#[]⟩
    · have hfin := Lib.hid (hd5.out hx)
      clear hl5 hd5
      subst hx
      go_wp2
      go_end0
      exact hfin.out
    · have hfin := Lib.hid (hl5.out hx)
      have cG := giveUp_any w5
      clear hl5 hd5
      unfold gone at hfin cG
      have hne : x5.toList.isEmpty = false := by
        rw [Lib.toList_data]
        cases hx6 : x5.data.toList with
        | nil => exact absurd (ByteArray.ext (Array.toList_inj.1 hx6)) hx
        | cons _ _ => rfl
      go_wp2_with fail
      go_at_call 45
      with_reducible refine cG.mono ?_
      rintro e w6 ⟨rfl, rfl⟩
      go_wp2
      exact ⟨rfl, hfin.out⟩
  · have hdoc : Hid (docP s.data.toList = ans (init s.data.toList)) := Lib.hid (docP_of (by
      unfold prolog
      rw [if_neg (by intro e; rw [show xmlS.isPrefixOf s.data.toList = false from hn] at e; cases e)]))
    clear hn
    have cA := aside_any hG h1 (σ := init s.data.toList) (by omega) rfl rfl
    clear h1
    go_wp2_with fail
    go_at_call 43
    with_reducible refine cA.mono ?_
    rintro e w3 ⟨hq, hk3⟩
    clear cA
    have hk3' := Lib.hid (hk1'.out.trans hk3.W)
    clear hk3 hk1'
    rcases hq with ⟨x3, ha, hb3, hm3, hsz3, rfl, h3⟩ | ⟨ha, rfl, h3⟩
    rotate_left
    · have hfin := Lib.hid (show DocR w0 w b q s gone w3 from .inr ⟨by rw [hdoc.out]; exact ha, rfl, h3, q, hk3'.out⟩)
      clear ha h3
      unfold gone at hfin ⊢
      go_wp2
      exact ⟨rfl, hfin.out⟩
    have hdoc3 : Hid (docP s.data.toList = ans { init s.data.toList with rest := x3.data.toList }) := Lib.hid (by rw [hdoc.out]; exact ha)
    have hS3 : Sits w0 b { init s.data.toList with rest := x3.data.toList } x3 q w3 := ⟨rfl, h3, by
      unfold Room
      show x3.data.toList.length ≤ 65536 ∧ 0 + 4 * x3.data.toList.length ≤ 262144 ∧ 0 + 4 * x3.data.toList.length ≤ 262144
      rw [← Lib.size_eq]
      omega⟩
    have cE : Calls Tryz.prog 44 #[.pointer (some ⟨b, 0, none⟩), .pointer none, .int .i64 1] w3 fun e w' => ElemP w0 w3 b q { init s.data.toList with rest := x3.data.toList } x3 e w' :=
      elem_any x3.size w0 w3 b _ x3 q [] (.pointer none) 1 (Nat.le_refl _) hG hS3 (opens_first hb3 hm3)
    clear ha hS3 h3 hb3 hm3 hdoc
    go_wp2_with fail
    go_at_call 44
    with_reducible refine cE.mono ?_
    rintro e w4 hq
    clear cE
    rcases hq with ⟨τ, x4, q4, ha, hst, henv, hhad, htx, hS4, hsz4, hk4, rfl⟩ | ⟨ha, rfl, h4, q4, hk4⟩
    rotate_left
    · have hfin := Lib.hid (show DocR w0 w b q s gone w4 from .inr ⟨by rw [hdoc3.out, ha], rfl, h4, q4, hk3'.out.trans hk4⟩)
      clear ha h4 hk4
      unfold gone at hfin ⊢
      go_wp2
      exact ⟨rfl, hfin.out⟩
    have hst' : τ.stack = [] := hst
    have hdoc4 : Hid (docP s.data.toList = ans τ) := Lib.hid (by rw [hdoc3.out, ha])
    have hB4 := hS4.bef
    rw [htx] at hB4
    have hh4 := Lib.hid hhad
    have hk4' := Lib.hid (hk3'.out.trans hk4)
    clear hk3'
    have cA := aside_any hG hB4 (σ := τ) (by omega) hst' hS4.rest
    clear ha hst henv hhad htx hS4 hk4 hB4 hdoc3
    have hst4 := Lib.hid hst'
    clear hst'
    go_wp2_with fail
    go_at_call 43
    with_reducible refine cA.mono ?_
    rintro e w5 ⟨hq, hk5⟩
    clear cA
    have hk5' := Lib.hid (hk4'.out.trans hk5.W)
    clear hk5 hk4'
    rcases hq with ⟨x5, ha, hb5, hm5, hsz5, rfl, h5⟩ | ⟨ha, rfl, h5⟩
    rotate_left
    · have hfin := Lib.hid (show DocR w0 w b q s gone w5 from .inr ⟨by rw [hdoc4.out, ha], rfl, h5, _, hk5'.out⟩)
      clear ha h5
      unfold gone at hfin ⊢
      go_wp2
      exact ⟨rfl, hfin.out⟩
    have hdoc5 : Hid (docP s.data.toList = ans { τ with rest := x5.data.toList }) := Lib.hid (by rw [hdoc4.out, ha])
    have hl5 := Lib.hid fun hx => DocR.left (τ := { τ with rest := x5.data.toList }) hdoc5.out rfl hst4.out hh4.out hb5 hm5 hx h5 hk5'.out
    have hd5 := Lib.hid fun hx => DocR.done (τ := { τ with rest := x5.data.toList }) hdoc5.out rfl hst4.out hh4.out hx h5 hk5'.out
    obtain ⟨c5, f5⟩ := h5.cell
    clear ha hb5 hm5 h5 hdoc4
    by_cases hx : x5 = ⟨#[]⟩
    · have hfin := Lib.hid (hd5.out hx)
      clear hl5 hd5
      subst hx
      go_wp2
      go_end0
      exact hfin.out
    · have hfin := Lib.hid (hl5.out hx)
      have cG := giveUp_any w5
      clear hl5 hd5
      unfold gone at hfin cG
      have hne : x5.toList.isEmpty = false := by
        rw [Lib.toList_data]
        cases hx6 : x5.data.toList with
        | nil => exact absurd (ByteArray.ext (Array.toList_inj.1 hx6)) hx
        | cons _ _ => rfl
      go_wp2_with fail
      go_at_call 45
      with_reducible refine cG.mono ?_
      rintro e w6 ⟨rfl, rfl⟩
      go_wp2
      exact ⟨rfl, hfin.out⟩
end Go.Proofs.YtjeagjleolmibaaGreatDoor.Xm

/-
  THE WALK OF THE REFERENCE's Same: pieces compared.
-/
set_option linter.unusedVariables false
namespace Go.Proofs.YtjeagjleolmibaaGreatDoor.Xm
open Go.Lib Go.RowKit

def fieldG (f : Field) : Bool × TypeId × Nat := (decide (f.name ≠ "_"), f.type, f.offset)
theorem fields_pc : (Tryz.prog.fieldsOf 37).toList.map fieldG = [(true, 34, 0), (true, 35, 1), (true, 9, 2), (true, 9, 3)] := by kernel_rfl
theorem four_of {L : List Field} {a b c d : Bool × TypeId × Nat} (h : L.map fieldG = [a, b, c, d]) : ∃ f0 f1 f2 f3, L = [f0, f1, f2, f3] ∧ fieldG f0 = a ∧ fieldG f1 = b ∧ fieldG f2 = c ∧ fieldG f3 = d := by
  rcases L with _ | ⟨f0, _ | ⟨f1, _ | ⟨f2, _ | ⟨f3, _ | ⟨f4, L⟩⟩⟩⟩⟩ <;> simp at h
  exact ⟨f0, f1, f2, f3, rfl, h.1, h.2.1, h.2.2.1, h.2.2.2⟩
theorem field_run {f : Field} {t : TypeId} {o : Nat} (h : fieldG f = (true, t, o)) (d : Nat) (xs ys : Array Value) (fs : List Field) (W : World) (hk : Tryz.prog.plainKey t = true) (u v : Value) (b : Bool) (hx : xs[o]? = some u) (hy : ys[o]? = some v) (hE : (Op.equalIn d t u v).run Tryz.prog W = .ok b W) :
    (Op.eqFields d xs ys (f :: fs)).run Tryz.prog W = if b = true then (Op.eqFields d xs ys fs).run Tryz.prog W else .ok false W := by
  unfold fieldG at h
  simp only [Prod.mk.injEq, decide_eq_true_eq] at h
  obtain ⟨h1, rfl, rfl⟩ := h
  simp only [Op.eqFields, if_pos h1, Sem.run_bind]
  rw [run_part_plain W hk hx]
  simp only [Result.andThen_ok]
  rw [run_part_plain W hk hy]
  simp only [Result.andThen_ok]
  rw [hE]
  cases b <;> simp
set_option maxRecDepth 100000 in
theorem eq_pc (k1 s1 k2 s2 : Int) (n1 t1 n2 t2 : ByteArray) (W : World) : (Op.equalIn 10000 37 (.agg #[.int .i64 k1, .int .i64 s1, .string n1, .string t1]) (.agg #[.int .i64 k2, .int .i64 s2, .string n2, .string t2])).run Tryz.prog W = .ok (k1 == k2 && s1 == s2 && n1.toList == n2.toList && t1.toList == t2.toList) W := by
  rw [run_equalIn_struct W 9999 37 _ _ (by kernel_rfl) (by kernel_rfl)]
  obtain ⟨f0, f1, f2, f3, e, h0, h1, h2, h3⟩ := four_of fields_pc
  rw [e]
  rw [field_run h0 9999 _ _ _ W (by kernel_rfl) (.int .i64 k1) (.int .i64 k2) (k1 == k2) rfl rfl (run_equalIn_int W 9998 _ .i64 .i64 k1 k2 Tryz.underlying34)]
  rw [field_run h1 9999 _ _ _ W (by kernel_rfl) (.int .i64 s1) (.int .i64 s2) (s1 == s2) rfl rfl (run_equalIn_int W 9998 _ .i64 .i64 s1 s2 Tryz.underlying35)]
  rw [field_run h2 9999 _ _ _ W (by kernel_rfl) (.string n1) (.string n2) (n1.toList == n2.toList) rfl rfl (run_equalIn_string W 9998 _ n1 n2 Tryz.underlying9)]
  rw [field_run h3 9999 _ _ _ W (by kernel_rfl) (.string t1) (.string t2) (t1.toList == t2.toList) rfl rfl (run_equalIn_string W 9998 _ t1 t2 Tryz.underlying9)]
  cases k1 == k2 <;> cases s1 == s2 <;> cases n1.toList == n2.toList <;> cases t1.toList == t2.toList <;> simp [Op.eqFields]
theorem sv_str {l : Row} {x : ByteArray} (h : sv l = .string x) : x.data.toList = l := by
  unfold sv at h
  injection h with h
  rw [← h]
/-- one piece of a row, as it is loaded -/
theorem PcsAt.piece {w : World} {b off : Nat} {ps : List Pc} (h : ∀ (j : Nat) (p : Pc), ps[j]? = some p → PcCells w b (off + j * 4) p) (hlt : b < w.heap.size) {wr : World} (hb : Below w.heap.size w wr) {j : Nat} {p : Pc} (hj : ps[j]? = some p) :
    ∃ a1 a2 : ByteArray, a1.data.toList = p.name ∧ a2.data.toList = p.text ∧ wr.cell? ⟨b, off + j * 4, none⟩ = some (.int .i64 p.kind) ∧ wr.cell? ⟨b, off + j * 4 + 1, none⟩ = some (.int .i64 p.space) ∧ wr.cell? ⟨b, off + j * 4 + 2, none⟩ = some (.string a1) ∧ wr.cell? ⟨b, off + j * 4 + 3, none⟩ = some (.string a2) := by
  obtain ⟨g0, g1, g2, g3⟩ := (h j p hj).kept hlt hb
  obtain ⟨a1, e1, d1⟩ := sv_some p.name
  obtain ⟨a2, e2, d2⟩ := sv_some p.text
  rw [e1] at g2
  rw [e2] at g3
  exact ⟨a1, a2, d1, d2, g0, g1, g2, g3⟩
theorem pc_eq {p q : Pc} {a1 a2 b1 b2 : ByteArray} (h1 : a1.data.toList = p.name) (h2 : a2.data.toList = p.text) (g1 : b1.data.toList = q.name) (g2 : b2.data.toList = q.text) : (p.kind == q.kind && p.space == q.space && a1.toList == b1.toList && a2.toList == b2.toList) = decide (p = q) := by
  rw [Lib.toList_data, Lib.toList_data, Lib.toList_data, Lib.toList_data, h1, h2, g1, g2, Bool.eq_iff_iff, decide_eq_true_iff]
  simp only [Bool.and_eq_true, beq_iff_eq]
  constructor
  · rintro ⟨⟨⟨e1, e2⟩, e3⟩, e4⟩
    cases p; cases q
    simp_all
  · rintro rfl
    simp
theorem take_next {α : Type} {xs ys : List α} {k : Nat} {x : α} (h : xs.take k = ys.take k) (hx : xs[k]? = some x) (hy : ys[k]? = some x) : xs.take (k + 1) = ys.take (k + 1) := by
  obtain ⟨h1, e1⟩ := List.getElem?_eq_some_iff.1 hx
  obtain ⟨h2, e2⟩ := List.getElem?_eq_some_iff.1 hy
  rw [List.take_succ_eq_append_getElem h1, List.take_succ_eq_append_getElem h2, h, e1, e2]
set_option maxHeartbeats 4000000 in
set_option maxRecDepth 100000 in
theorem refSame_any (v1 v2 : Value) (ps qs : List Pc) (w : World) (h1 : PcsAt w v1 ps) (h2 : PcsAt w v2 qs) :
    Calls Tryz.prog 11 #[v1, v2] w fun e w' => e = .returned (.bool (decide (ps = qs))) ∧ Below w.heap.size w w' := by
  obtain ⟨A, b, off, c, rfl, hc1, hc2, hA, hP⟩ := h1
  obtain ⟨B, b', off', c', rfl, hd1, hd2, hB, hQ⟩ := h2
  unfold maxLen at hc2 hd2
  obtain ⟨R, hR⟩ : ∃ R, decide (ps = qs) = R := ⟨_, rfl⟩
  rw [hR]
  by_cases gn : ps.length = qs.length
  · obtain ⟨n, hn⟩ : ∃ n, ps.length = n := ⟨_, rfl⟩
    have hm : qs.length = n := by omega
    have hno : Hid (∀ (k : Nat) (p q : Pc), ps[k]? = some p → qs[k]? = some q → p ≠ q → R = false) := Lib.hid fun k p q hp hq hne => by
      rw [← hR]
      refine decide_eq_false fun e => ?_
      rw [e, hq] at hp
      exact hne (Option.some.inj hp).symm
    have hyes : Hid (ps.take n = qs.take n → R = true) := Lib.hid fun h => by
      rw [List.take_of_length_le (by omega), List.take_of_length_le (by omega)] at h
      rw [← hR]; exact decide_eq_true h
    rw [hn] at hc1 hA ⊢
    rw [hm] at hd1 hB ⊢
    have hn' := Lib.hid hn
    have hm' := Lib.hid hm
    have hP' := Lib.hid hP
    have hQ' := Lib.hid hQ
    have hA' := Lib.hid hA
    have hB' := Lib.hid hB
    clear gn hn hm hP hQ hA hB hR
    go_enter Tryz.func11, Tryz.ntmps11
    go_wp2
    go_loopw [13] (fun s13 wr => ∃ k : Nat, s13 = .int .i64 (k : Int) ∧ k ≤ n ∧ ps.take k = qs.take k ∧ Below w.heap.size w wr) (fun s13 wr => n - (RowKit.intOf s13).toNat)
    case atStart => exact ⟨0, rfl, Nat.zero_le _, rfl, Below.refl _ _⟩
    case round =>
      obtain ⟨k, rfl, hk, heq, hbr⟩ := hrel
      by_cases hlt : k < n
      · have hp : ps[k]? = some (ps[k]'(by have := hn'.out; omega)) := List.getElem?_eq_getElem _
        have hq : qs[k]? = some (qs[k]'(by have := hm'.out; omega)) := List.getElem?_eq_getElem _
        obtain ⟨P, hPe⟩ : ∃ P, ps[k]'(by have := hn'.out; omega) = P := ⟨_, rfl⟩
        obtain ⟨Q, hQe⟩ : ∃ Q, qs[k]'(by have := hm'.out; omega) = Q := ⟨_, rfl⟩
        rw [hPe] at hp
        rw [hQe] at hq
        clear hPe hQe
        obtain ⟨rfl, hAb⟩ := hA'.out (by omega)
        obtain ⟨rfl, hBb⟩ := hB'.out (by omega)
        obtain ⟨a1, a2, d1, d2, p0, p1, p2, p3⟩ := PcsAt.piece hP'.out hAb hbr hp
        obtain ⟨b1, b2, g1, g2, q0, q1, q2, q3⟩ := PcsAt.piece hQ'.out hBb hbr hq
        have hE := eq_pc P.kind P.space Q.kind Q.space a1 a2 b1 b2
        rw [pc_eq d1 d2 g1 g2] at hE
        have hno2 := hno.out k P Q hp hq
        have hbr' := Lib.hid hbr
        by_cases hpq : P = Q
        · have hnx := Lib.hid (take_next heq (by rw [hp, hpq]) hq)
          rw [decide_eq_true hpq] at hE
          clear d1 d2 g1 g2 hp hq hpq hno2 heq hbr
          go_wp2
          go_quiet (fail)
          go_wp2
          go_roundw
          case rel => exact ⟨k + 1, by go_num, by omega, hnx.out, below_drewN _ hbr'.out⟩
          case measure => simp [RowKit.intOf]; omega
        · have hRf := hno2 hpq
          rw [decide_eq_false hpq] at hE
          subst hRf
          clear d1 d2 g1 g2 hp hq hpq hno2 heq hbr
          go_wp2
          go_quiet (fail)
          go_wp2
          go_ret
          exact ⟨rfl, below_drewN _ hbr'.out⟩
      · have hRt := hyes.out (by rw [show n = k by omega]; exact heq)
        subst hRt
        clear heq
        go_wp2
        go_ret
        exact ⟨rfl, by assumption⟩
  · have hRf : R = false := by
      rw [← hR]
      exact decide_eq_false fun e => gn (by rw [e])
    subst hRf
    have g1 : ¬ (ps.length : Int) = (qs.length : Int) := by omega
    clear hR hP hQ hA hB
    go_enter Tryz.func11, Tryz.ntmps11
    go_wp2
    go_ret
    exact ⟨rfl, Below.refl _ _⟩
end Go.Proofs.YtjeagjleolmibaaGreatDoor.Xm
