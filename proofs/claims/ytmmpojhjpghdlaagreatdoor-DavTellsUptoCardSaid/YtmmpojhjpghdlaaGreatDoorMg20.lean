import Derived.Test.YtmmpojhjpghdlaaGreatDoorMg19
import Derived.Test.YtmmpojhjpghdlaaGreatDoorMg7
import Derived.Defers
import Derived.Recover
import Derived.Test.YtmmpojhjpghdlaaGreatDoorMg18
import Derived.Test.YtmmpojhjpghdlaaGreatDoorMg5

/-
  WALKS OF THE PROGRAM's READER OF LAYER xml: an element.
-/
set_option linter.unusedVariables false
namespace Go.Proofs.YtmmpojhjpghdlaaGreatDoor.Xm
open Go.Lib Go.RowKit

/-- what a reader knows of a beginning that it goes through: x1 behind <, the names p, n, x2 behind them, x3 behind the declarations -/
structure Beg (σ : St) (r x1 x2 x3 : Row) (p n : Row) (own : Env) : Prop where
  at0 : σ.rest = 60 :: x1
  step : step σ = opens σ x1
  low : σ.stack.length < 16
  name : written x1 = some (p, n, x2)
  decl : declsA x2 [] = some (x3, own) ∨ (declsA x2 [] = none ∧ x3.head? ≠ some 47 ∧ x3.head? ≠ some 62)
theorem ans_opens {σ : St} {t : Row} (h : σ.rest = 60 :: t) (hs : Xm.step σ = opens σ t) : ans σ = (opens σ t).bind ans := by
  cases hx : opens σ t with
  | none => rw [hx] at hs; exact ans_none (by rw [h]; simp) hs
  | some τ => rw [hx] at hs; exact ans_some hs
theorem Beg.nospace {σ : St} {r x1 x2 x3 p n : Row} {own : Env} (h : Beg σ r x1 x2 x3 p n own) (hs : spOf p (own ++ σ.env) = none) : ans σ = none := by
  rw [ans_opens h.at0 h.step]
  rcases h.decl with hd | ⟨hd, _⟩
  · rw [opens_nospace h.name hd hs]; rfl
  · rw [opens_nodecl h.name hd]; rfl
theorem Beg.noend {σ : St} {r x1 x2 x3 p n : Row} {own : Env} (h : Beg σ r x1 x2 x3 p n own) (h1 : ([47, 62] : Row).isPrefixOf x3 = false) (h2 : ([62] : Row).isPrefixOf x3 = false) : ans σ = none := by
  rw [ans_opens h.at0 h.step]
  rcases h.decl with hd | ⟨hd, _⟩
  · rw [opens_noend h.name hd h1 (head_not h2)]; rfl
  · rw [opens_nodecl h.name hd]; rfl
theorem Beg.both {σ : St} {r x1 x2 x3 p n v : Row} {own : Env} {sp : Int} (h : Beg σ r x1 x2 x3 p n own) (hs : spOf p (own ++ σ.env) = some sp) (hv : x3 = 47 :: 62 :: v) :
    ans σ = ans { σ with rest := v, pcs := flushed σ.pcs σ.txt ++ [⟨1, sp, n, []⟩, ⟨2, sp, n, []⟩], txt := [], had := true } := by
  rw [ans_opens h.at0 h.step]
  rcases h.decl with hd | ⟨_, hd, _⟩
  · rw [hv] at hd
    rw [opens_both h.low h.name hd hs]; rfl
  · rw [hv] at hd; exact absurd rfl hd
theorem Beg.one {σ : St} {r x1 x2 x3 p n v : Row} {own : Env} {sp : Int} (h : Beg σ r x1 x2 x3 p n own) (hs : spOf p (own ++ σ.env) = some sp) (hv : x3 = 62 :: v) :
    ans σ = ans { σ with rest := v, stack := ⟨p, n, sp, σ.env⟩ :: σ.stack, env := own ++ σ.env, pcs := flushed σ.pcs σ.txt ++ [⟨1, sp, n, []⟩], txt := [], had := true } := by
  rw [ans_opens h.at0 h.step]
  rcases h.decl with hd | ⟨_, _, hd⟩
  · rw [hv] at hd
    rw [opens_one h.low h.name hd hs]; rfl
  · rw [hv] at hd; exact absurd rfl hd
theorem flushed_len (ps : List Pc) (t : Row) : (flushed ps t).length ≤ ps.length + 1 := by
  unfold flushed
  split
  · omega
  · simp
theorem el_deep {σ : St} {r : Row} (hr : σ.rest = r) (h : 16 ≤ σ.stack.length) (hop : ∀ t, σ.rest = 60 :: t → Xm.step σ = opens σ t) (hno : σ.rest.head? ≠ some 60 → ans σ = none) : ans σ = none := by
  by_cases h60 : σ.rest.head? = some 60
  · cases hx : σ.rest with
    | nil => rw [hx] at h60; cases h60
    | cons c t =>
      rw [hx] at h60
      simp at h60
      subst h60
      rw [ans_opens hx (hop t hx), opens_deep h]; rfl
  · exact hno h60
theorem Chain.form {w : World} : ∀ {E : List Env} {v : Value}, Chain w v E → ∃ o, v = .pointer o
  | [], v, h => ⟨none, h⟩
  | own :: E, v, ⟨s, m, v', h1, _⟩ => ⟨_, h1⟩
theorem pre_self {a x : Row} (h : (60 :: 47 :: a : Row).isPrefixOf (60 :: 47 :: (a ++ x)) = false) : False := by
  have : (60 :: 47 :: a : Row).isPrefixOf (60 :: 47 :: (a ++ x)) = true := List.isPrefixOf_iff_prefix.2 ⟨x, rfl⟩
  rw [this] at h; cases h
set_option maxHeartbeats 4000000 in
set_option maxRecDepth 100000 in
theorem elem_zero : ElemC 0 := fun w0 w b σ r q E v d hm hG hS hO => by
  obtain ⟨hr1, hr2, hr3⟩ := hS.small
  obtain ⟨o, rfl⟩ := hO.chain.form
  have hS' := Lib.hid hS
  have hO' := Lib.hid hO
  have cN := need_any hS.bef ⟨#[60]⟩
  by_cases hd : 16 < d
  · have hfin := Lib.hid (show ElemP w0 w b q σ r gone w from .inr ⟨el_deep rfl (by have := hO.deep; omega) hO.opens hO.no, rfl, hS.bef.bel, q, KeptW.refl q w⟩)
    have cG := giveUp_any w
    unfold gone at hfin cG
    clear cN hS hO
    go_enter Tryz.func71, Tryz.ntmps71
    go_wp2_with fail
    go_at_call 72
    with_reducible refine cG.mono ?_
    rintro e w2 ⟨rfl, rfl⟩
    go_wp2
    exact ⟨rfl, hfin.out⟩
  · clear hS hO
    go_enter Tryz.func71, Tryz.ntmps71
    go_wp2_with fail
    go_at_call 99
    with_reducible refine cN.mono ?_
    rintro e w2 ⟨hq, hk2⟩
    clear cN
    rcases hq with ⟨x1, hy, rfl, h2⟩ | ⟨hn, rfl, h2⟩
    · have hsz1 := pre_size hy
      have hsz1' : r.size = 1 + x1.size := hsz1
      omega
    · have hfin := Lib.hid (show ElemP w0 w b q σ r gone w2 from .inr ⟨hO'.out.no (by rw [hS'.out.rest]; exact head_not hn), rfl, h2, q, hk2.W⟩)
      clear hn h2
      unfold gone at hfin ⊢
      go_wp2
      exact ⟨rfl, hfin.out⟩
set_option maxHeartbeats 4000000 in
set_option maxRecDepth 100000 in
theorem elem_step (m : Nat) (hE : ElemC m) : ElemC (m + 1) := fun w0 w b σ r q E v d hm hG hS hO => by
  obtain ⟨hr1, hr2, hr3⟩ := hS.small
  obtain ⟨o, rfl⟩ := hO.chain.form
  have hS' := Lib.hid hS
  have hO' := Lib.hid hO
  have cN := need_any hS.bef ⟨#[60]⟩
  by_cases hd : 16 < d
  · have hfin := Lib.hid (show ElemP w0 w b q σ r gone w from .inr ⟨el_deep rfl (by have := hO.deep; omega) hO.opens hO.no, rfl, hS.bef.bel, q, KeptW.refl q w⟩)
    have cG := giveUp_any w
    unfold gone at hfin cG
    clear cN hS hO
    go_enter Tryz.func71, Tryz.ntmps71
    go_wp2_with fail
    go_at_call 72
    with_reducible refine cG.mono ?_
    rintro e w2 ⟨rfl, rfl⟩
    go_wp2
    exact ⟨rfl, hfin.out⟩
  · clear hS hO
    go_enter Tryz.func71, Tryz.ntmps71
    go_wp2_with fail
    go_at_call 99
    with_reducible refine cN.mono ?_
    rintro e w2 ⟨hq, hk2⟩
    clear cN
    have hk2' := Lib.hid (KeptR.W (q := q) hk2)
    clear hk2
    rcases hq with ⟨x1, hy, rfl, h2⟩ | ⟨hn, rfl, h2⟩
    rotate_left
    · have hfin := Lib.hid (show ElemP w0 w b q σ r gone w2 from .inr ⟨hO'.out.no (by rw [hS'.out.rest]; exact head_not hn), rfl, h2, q, hk2'.out⟩)
      clear hn h2
      unfold gone at hfin ⊢
      go_wp2
      exact ⟨rfl, hfin.out⟩
    have hsz1 := pre_size hy
    have hsz1' : r.size = 1 + x1.size := hsz1
    have hat0 : Hid (σ.rest = 60 :: x1.data.toList) := Lib.hid (by rw [hS'.out.rest]; exact hy)
    obtain ⟨c0, f0⟩ := h2.cell
    have cF := fullName_any h2 (by omega)
    clear hy h2 hsz1
    go_wp2_with fail
    go_at_call 100
    with_reducible refine cF.mono ?_
    rintro e w3 ⟨hq, hk3⟩
    clear cF
    have hk3' := Lib.hid (hk2'.out.trans hk3.W)
    clear hk3 hk2'
    rcases hq with ⟨p, nm, x2, hw, rfl, h3⟩ | ⟨hw, rfl, h3⟩
    rotate_left
    · have hfin := Lib.hid (show ElemP w0 w b q σ r gone w3 from .inr ⟨by rw [ans_opens hat0.out (hO'.out.opens _ hat0.out), opens_no hw]; rfl, rfl, h3, q, hk3'.out⟩)
      clear hw h3
      unfold gone at hfin ⊢
      go_wp2
      exact ⟨rfl, hfin.out⟩
    have hw' := Lib.hid hw
    have hsz2 : x2.size < x1.size := by
      have := written_len hw
      rw [← Lib.size_eq, ← Lib.size_eq] at this
      exact this
    obtain ⟨c3, f3⟩ := h3.cell
    have cD := declarations_any hG h3 (by omega)
    clear hw h3
    have m1 : (0 : Int) ≤ (x1.size : Int) - (x2.size : Int) := by omega
    have m2 : (x1.size : Int) - (x2.size : Int) ≤ (x1.size : Int) := by omega
    obtain ⟨L, hL⟩ : ∃ L, x1.size - x2.size = L := ⟨_, rfl⟩
    have m3 : (x1.size : Int) - (x2.size : Int) = (L : Int) := by omega
    have m4 : IntKind.i64.wrap ((x1.size : Int) - (x2.size : Int)) = (L : Int) := by rw [m3]; exact IntWalk.i64_in _ (by omega)
    have m5 : IntKind.i64.wrap (L : Int) = (L : Int) := IntWalk.i64_in _ (by omega)
    have m6 : (L : Int) ≤ (x1.size : Int) := by omega
    obtain ⟨full, hfull⟩ : ∃ full, x1.extract 0 L = full := ⟨_, rfl⟩
    have hfr : Hid (x1.data.toList = full.data.toList ++ x2.data.toList ∧ full.data.toList = fullT p.data.toList nm.data.toList ∧ nameB nm.data.toList = true ∧ (p.data.toList = [] ∨ nameB p.data.toList = true)) := Lib.hid (by
      obtain ⟨e1, e2, e3⟩ := written_form hw'.out
      have e4 : full.data.toList = x1.data.toList.take L := by rw [← hfull, Lib.extract_data]; rfl
      have e5 : L = (fullT p.data.toList nm.data.toList).length := by
        have := congrArg List.length e1
        rw [List.length_append, ← Lib.size_eq, ← Lib.size_eq] at this
        omega
      have e6 : full.data.toList = fullT p.data.toList nm.data.toList := by rw [e4, e1, e5, List.take_left]
      exact ⟨by rw [e6]; exact e1, e6, e2, e3⟩)
    have hps : p.size ≤ 65536 ∧ nm.size ≤ 65536 ∧ full.size ≤ 65536 := by
      have h1 := congrArg List.length hfr.out.1
      have h2 := congrArg List.length hfr.out.2.1
      rw [List.length_append, ← Lib.size_eq, ← Lib.size_eq, ← Lib.size_eq] at h1
      rw [← Lib.size_eq] at h2
      have h3 : p.size ≤ (fullT p.data.toList nm.data.toList).length ∧ nm.size ≤ (fullT p.data.toList nm.data.toList).length := by
        unfold fullT
        split
        · rename_i hp
          rw [Lib.size_eq, Lib.size_eq, hp]; simp
        · rw [List.length_append, List.length_cons, ← Lib.size_eq, ← Lib.size_eq]; omega
      omega
    clear hL m1 m2 m3
    go_wp2_with fail
    go_at_call 101
    with_reducible refine cD.mono ?_
    rintro e w4 ⟨hq, hk4⟩
    clear cD
    have hk4' := Lib.hid (hk3'.out.trans hk4.W)
    clear hk4 hk3'
    rcases hq with ⟨mm, own, x3, h4, hmp4, rfl, hsz3, hdec⟩ | ⟨hdec, rfl, h4⟩
    rotate_left
    · have hfin := Lib.hid (show ElemP w0 w b q σ r gone w4 from .inr ⟨by rw [ans_opens hat0.out (hO'.out.opens _ hat0.out), opens_nodecl hw'.out hdec]; rfl, rfl, h4, q, hk4'.out⟩)
      clear hdec h4
      unfold gone at hfin ⊢
      go_wp2
      exact ⟨rfl, hfin.out⟩
    have hlow : σ.stack.length < 16 := by have := hO'.out.deep; omega
    have hbeg : Hid (Beg σ r.data.toList x1.data.toList x2.data.toList x3.data.toList p.data.toList nm.data.toList own) := Lib.hid ⟨hat0.out, hO'.out.opens _ hat0.out, hlow, hw'.out, hdec⟩
    obtain ⟨S, hSz⟩ : ∃ S, w4.heap.size = S := ⟨_, rfl⟩
    have hal : Below w4.heap.size w4 (w4.alloc (.cells #[.map (some mm), .pointer o] 158)) := (Below.refl _ _).alloc (Nat.le_refl _) _
    have hsc : (w4.alloc (.cells #[.map (some mm), .pointer o] 158)).heap[S]? = some (.cells #[.map (some mm), .pointer o] 158 (0, 0)) := by rw [← hSz]; exact heap_alloc_new w4 _
    have hch5 : Hid (Chain (w4.alloc (.cells #[.map (some mm), .pointer o] 158)) (.pointer (some ⟨S, 0, none⟩)) (own :: E)) := Lib.hid ⟨S, mm, .pointer o, rfl, hsc, hmp4.kept (KeptR.of_below hal), (hO'.out.chain.kept (hk4'.out.old hS'.out.own)).kept (KeptR.of_below hal).old⟩
    have h5 := Lib.hid (h4.kept hal)
    have hk5' := Lib.hid (hk4'.out.trans (KeptR.of_below hal).W)
    have cS := space_any p hps.1 (own :: E) (.pointer (some ⟨S, 0, none⟩)) _ hch5.out
    obtain ⟨w5, hw5⟩ : ∃ w5, w4.alloc (.cells #[.map (some mm), .pointer o] 158) = w5 := ⟨_, rfl⟩
    rw [hw5] at hch5 h5 hk5' cS
    clear hdec h4 hmp4 hal hsc hw' hk4'
    go_wp2_with fail
    go_at_call 102
    with_reducible refine cS.mono ?_
    rintro e w6 ⟨hq, hb6⟩
    clear cS
    have hch6 := Lib.hid (Chain.kept (KeptR.of_below hb6).old _ _ hch5.out)
    have h6 := Lib.hid (h5.out.kept hb6)
    have hk6' := Lib.hid (hk5'.out.trans (KeptR.of_below hb6).W)
    have henv : Hid ((own :: E).flatten = own ++ σ.env) := Lib.hid (by rw [List.flatten_cons, hO'.out.env])
    rcases hq with ⟨sp, hsp, rfl⟩ | ⟨hsp, rfl⟩
    rotate_left
    · have hfin := Lib.hid (show ElemP w0 w b q σ r gone w6 from .inr ⟨hbeg.out.nospace (by rw [← henv.out]; exact hsp), rfl, h6.out.bel, q, hk6'.out⟩)
      clear hsp hb6 hw5
      unfold gone at hfin ⊢
      go_wp2
      exact ⟨rfl, hfin.out⟩
    have hsp' : Hid (spOf p.data.toList (own ++ σ.env) = some sp) := Lib.hid (by rw [← henv.out]; exact hsp)
    obtain ⟨Z, hZ⟩ : ∃ Z, w6.heap.size = Z := ⟨_, rfl⟩
    have hal : Below w6.heap.size w6 (w6.alloc (.cells #[.int .i64 1, .int .i64 sp, .string nm, .string ⟨#[]⟩] 75)) := (Below.refl _ _).alloc (Nat.le_refl _) _
    have hz7 : (w6.alloc (.cells #[.int .i64 1, .int .i64 sp, .string nm, .string ⟨#[]⟩] 75)).heap[Z]? = some (.cells #[.int .i64 1, .int .i64 sp, .string nm, .string ⟨#[]⟩] 75 (0, 0)) := by rw [← hZ]; exact heap_alloc_new w6 _
    have hch7 := Lib.hid (Chain.kept (KeptR.of_below hal).old _ _ hch6.out)
    have h7 := h6.out.kept hal
    have hk7' := Lib.hid (hk6'.out.trans (KeptR.of_below hal).W)
    clear hsp hb6 hw5
    have hqZ : Hid (q.ownBlock ≠ some Z) := Lib.hid fun e => by
      obtain ⟨p', v', hv'⟩ := h6.out.rd
      have := (World.ownsRow.lt hv'.pcs Z e).2
      omega
    have cP := put_any h7 (by omega) (by omega) 1 sp nm ⟨#[]⟩
    have hz7' := Lib.hid hz7
    have hown7 : Hid (PsOwn w0.heap.size q σ.pcs (w6.alloc (.cells #[.int .i64 1, .int .i64 sp, .string nm, .string ⟨#[]⟩] 75))) := Lib.hid (by
      obtain ⟨p', v', hv'⟩ := h7.rd
      exact hv'.pcs)
    clear hal h7 hz7
    go_wp2_with fail
    obtain ⟨w7, hw7⟩ : ∃ w7, w6.alloc (.cells #[.int .i64 1, .int .i64 sp, .string nm, .string ⟨#[]⟩] 75) = w7 := ⟨_, rfl⟩
    rw [hw7] at hz7' hch7 hk7' cP hown7
    rw [hw7]
    go_at_call 103
    with_reducible refine cP.mono ?_
    rintro e w8 ⟨rfl, q8, h8, hK8⟩
    clear cP hw7
    obtain ⟨P1, hP1⟩ : ∃ P1, flushed σ.pcs σ.txt ++ [(⟨1, sp, nm.data.toList, []⟩ : Pc)] = P1 := ⟨_, rfl⟩
    rw [hP1] at h8
    have hP1l : P1.length ≤ σ.pcs.length + 2 := by
      have := flushed_len σ.pcs σ.txt
      rw [← hP1, List.length_append, List.length_singleton]; omega
    have hP1' := Lib.hid hP1
    have hK8' := Lib.hid hK8
    have h8' := Lib.hid h8
    have cT := take_any h8 ⟨#[47, 62]⟩
    clear h8 hK8 hP1
    go_wp2_with fail
    go_at_call 68
    with_reducible refine cT.mono ?_
    rintro e w9 ⟨hq, hk9⟩
    clear cT
    have hK9 := Lib.hid (hK8'.out.trans hk9.W)
    clear hk9 hK8'
    rcases hq with ⟨x4, hy, rfl, h9⟩ | ⟨hn, rfl, h9⟩
    · have hsz4 := pre_size hy
      have hsz4' : x3.size = 2 + x4.size := hsz4
      have hans := Lib.hid (hbeg.out.both hsp'.out (v := x4.data.toList) hy)
      have hzW := hK9.out.blocks Z _ hz7'.out (by rintro ⟨cs, ty, fr, e, he⟩; injection e with _ e2 _; subst e2; revert he; decide) hqZ.out
      have y0 : w9.cell? ⟨Z, 0, none⟩ = some (.int .i64 1) := by rw [Lib.cell_of_heap hzW]; rfl
      have y1 : w9.cell? ⟨Z, 1, none⟩ = some (.int .i64 sp) := by rw [Lib.cell_of_heap hzW]; rfl
      have y2 : w9.cell? ⟨Z, 2, none⟩ = some (.string nm) := by rw [Lib.cell_of_heap hzW]; rfl
      have y3 : w9.cell? ⟨Z, 3, none⟩ = some (.string ⟨#[]⟩) := by rw [Lib.cell_of_heap hzW]; rfl
      have cC := closing_any 1 sp nm ⟨#[]⟩ w9
      have h9' := Lib.hid h9
      clear hy hsz4 h9 hzW
      go_wp2_with fail
      go_at_call 105
      with_reducible refine cC.mono ?_
      rintro e w10 ⟨rfl, hb10⟩
      clear cC
      have h10 := h9'.out.kept hb10
      have hK10 := Lib.hid (hK9.out.trans (KeptR.of_below hb10).W)
      have cP := put_any h10 (by simp) (by omega) 2 sp nm ⟨#[]⟩
      clear h10 hb10 y0 y1 y2 y3
      go_wp2_with fail
      go_at_call 103
      with_reducible refine cP.mono ?_
      rintro e w11 ⟨rfl, q11, h11, hK11⟩
      clear cP
      have hfin := Lib.hid (show ElemP w0 w b q σ r (.returned (.tuple #[])) w11 from .inl ⟨{ σ with rest := x4.data.toList, pcs := flushed σ.pcs σ.txt ++ [⟨1, sp, nm.data.toList, []⟩, ⟨2, sp, nm.data.toList, []⟩], txt := [], had := true }, x4, q11, hans.out, rfl, rfl, rfl, rfl, ⟨rfl, by
          have e1 : flushed P1 [] ++ [(⟨2, sp, nm.data.toList, (⟨#[]⟩ : ByteArray).data.toList⟩ : Pc)] = flushed σ.pcs σ.txt ++ [⟨1, sp, nm.data.toList, []⟩, ⟨2, sp, nm.data.toList, []⟩] := by
            rw [flushed_nil, ← hP1'.out, List.append_assoc]; rfl
          rw [e1] at h11
          exact h11, by
          have h1 := flushed_len σ.pcs σ.txt
          unfold Room
          simp only [List.length_append, List.length_cons, List.length_nil]
          rw [← Lib.size_eq]
          omega⟩, by omega, hk7'.out.trans (hK10.out.trans hK11), rfl⟩)
      clear h11 hK11
      go_wp2
      go_end0
      exact hfin.out
    · have hn9 := Lib.hid hn
      have cN2 := need_any h9 ⟨#[62]⟩
      clear hn h9
      go_wp2_with fail
      go_at_call 99
      with_reducible refine cN2.mono ?_
      rintro e w10 ⟨hq, hk10⟩
      clear cN2
      have hK10 := Lib.hid (hK9.out.trans hk10.W)
      clear hk10 hK9
      rcases hq with ⟨x4, hy, rfl, h10⟩ | ⟨hn, rfl, h10⟩
      rotate_left
      · have hfin := Lib.hid (show ElemP w0 w b q σ r gone w10 from .inr ⟨hbeg.out.noend hn9.out hn, rfl, h10, q8, hk7'.out.trans hK10.out⟩)
        clear hn h10
        unfold gone at hfin ⊢
        go_wp2
        exact ⟨rfl, hfin.out⟩
      have hsz4 := pre_size hy
      have hsz4' : x3.size = 1 + x4.size := hsz4
      obtain ⟨σ1, hσ1⟩ : ∃ σ1 : St, { σ with rest := x4.data.toList, stack := ⟨p.data.toList, nm.data.toList, sp, σ.env⟩ :: σ.stack, env := own ++ σ.env, pcs := P1, txt := [], had := true } = σ1 := ⟨_, rfl⟩
      have hans : Hid (ans σ = ans σ1) := Lib.hid (by
        rw [hbeg.out.one hsp'.out (v := x4.data.toList) hy, ← hσ1, ← hP1'.out])
      have hσf : Hid (σ1.stack = ⟨p.data.toList, nm.data.toList, sp, σ.env⟩ :: σ.stack ∧ σ1.env = own ++ σ.env ∧ σ1.had = true) := Lib.hid (by rw [← hσ1]; exact ⟨rfl, rfl, rfl⟩)
      have hS10 : Sits w0 b σ1 x4 q8 w10 := by
        rw [← hσ1]
        refine ⟨rfl, h10, ?_⟩
        unfold Room
        simp only [List.length_nil]
        rw [← Lib.size_eq]
        omega
      have cC := content_any m hE hG (E := own :: E) d (by omega) hS10 (Chain.kept (hK10.out.old hown7.out) _ _ hch7.out) (by rw [hσf.out.2.1]; exact henv.out.symm) (by rw [hσf.out.1]; simp) hσf.out.2.2 (by rw [hσf.out.1, List.length_cons]; exact hO'.out.deep) (by omega)
      clear hy h10 hσ1 hsz4 hS10 hn9
      go_wp2_with fail
      go_at_call 104
      with_reducible refine cC.mono ?_
      rintro e w11 hq
      clear cC
      rcases hq with ⟨τ1, x5, q11, hlk, hS11, hcl, hsz5, hK11, rfl⟩ | ⟨hq, rfl, h11, q11, hK11⟩
      rotate_left
      · have hfin := Lib.hid (show ElemP w0 w b q σ r gone w11 from .inr ⟨by rw [hans.out, hq], rfl, h11, q11, hk7'.out.trans (hK10.out.trans hK11)⟩)
        clear hq h11 hK11
        unfold gone at hfin ⊢
        go_wp2
        exact ⟨rfl, hfin.out⟩
      obtain ⟨t5, ht5⟩ := hcl
      have hS11' := Lib.hid hS11
      have hlk' := Lib.hid hlk
      have hx5 : Hid (x5.data.toList = 60 :: 47 :: t5) := Lib.hid (by rw [← hS11.rest]; exact ht5)
      have hst11 : Hid (τ1.stack = ⟨p.data.toList, nm.data.toList, sp, σ.env⟩ :: σ.stack) := Lib.hid (by rw [hlk.2.1]; exact hσf.out.1)
      have hac : Hid (ans σ = (closes τ1 t5).bind ans) := Lib.hid (by rw [hans.out, hlk.1, ans_close ht5])
      have hK11' := Lib.hid (hK10.out.trans hK11)
      obtain ⟨ef, hef⟩ : ∃ ef, (⟨#[60, 47]⟩ : ByteArray) ++ full = ef := ⟨_, rfl⟩
      have hefr : Hid (ef.data.toList = 60 :: 47 :: full.data.toList) := Lib.hid (by rw [← hef, ByteArray.data_append, Array.toList_append]; rfl)
      have n1 : ¬ 9223372036854775807 < (⟨#[60, 47]⟩ : ByteArray).size + full.size := by rw [show (⟨#[60, 47]⟩ : ByteArray).size = 2 from rfl]; omega
      have n2 : ¬ 9223372036854775807 < 2 + full.size := by omega
      have cN3 := need_any hS11.bef ef
      obtain ⟨hr51, hr52, hr53⟩ := hS11.small
      clear ht5 hS11 hlk hK11 hK10
      go_wp2_with fail
      go_at_call 99
      with_reducible refine cN3.mono ?_
      rintro e w12 ⟨hq, hk12⟩
      clear cN3
      have hK12 := Lib.hid (hK11'.out.trans hk12.W)
      clear hk12 hK11'
      rcases hq with ⟨x6, hy, rfl, h12⟩ | ⟨hn, rfl, h12⟩
      rotate_left
      · have hfin := Lib.hid (show ElemP w0 w b q σ r gone w12 from .inr ⟨by
          rw [hac.out, closes_no hst11.out (fun x hx => ?_)]; rfl
          exfalso
          rw [hefr.out, hx5.out, hx] at hn
          have e1 : full.data.toList = fullT p.data.toList nm.data.toList := hfr.out.2.1
          rw [e1] at hn
          exact pre_self hn, rfl, h12, _, hk7'.out.trans hK12.out⟩)
        clear hn h12
        unfold gone at hfin ⊢
        go_wp2
        exact ⟨rfl, hfin.out⟩
      have hsz6 := pre_size hy
      have hsz6' : x5.size = ef.size + x6.size := hsz6
      have hefs : 2 ≤ ef.size := by
        have := congrArg List.length hefr.out
        rw [← Lib.size_eq, List.length_cons, List.length_cons] at this
        omega
      have ht6 : Hid (t5 = fullT p.data.toList nm.data.toList ++ x6.data.toList) := Lib.hid (by
        rw [hx5.out, hefr.out, hfr.out.2.1] at hy
        simpa using hy)
      have cB := blanks_any h12
      clear hy h12 hsz6
      go_wp2_with fail
      go_at_call 97
      with_reducible refine cB.mono ?_
      rintro e w13 ⟨⟨x7, hx7, rfl, h13⟩, hk13⟩
      clear cB
      have hK13 := Lib.hid (hK12.out.trans hk13.W)
      have hx7' := Lib.hid hx7
      have hsz7 : x7.size ≤ x6.size := by
        have := dropWhile_len blk x6.data.toList
        rw [← hx7, ← Lib.size_eq, ← Lib.size_eq] at this
        exact this
      have cN4 := need_any h13 ⟨#[62]⟩
      clear hk13 hK12 hx7 h13
      go_wp2_with fail
      go_at_call 99
      with_reducible refine cN4.mono ?_
      rintro e w14 ⟨hq, hk14⟩
      clear cN4
      have hK14 := Lib.hid (hK13.out.trans hk14.W)
      clear hk14 hK13
      rcases hq with ⟨x8, hy, rfl, h14⟩ | ⟨hn, rfl, h14⟩
      rotate_left
      · have hfin := Lib.hid (show ElemP w0 w b q σ r gone w14 from .inr ⟨by
          rw [hac.out, closes_no hst11.out (fun x hx => ?_)]; rfl
          rw [ht6.out] at hx
          have hx := List.append_cancel_left hx
          rw [← hx, ← hx7'.out]
          exact head_not hn, rfl, h14, _, hk7'.out.trans hK14.out⟩)
        clear hn h14
        unfold gone at hfin ⊢
        go_wp2
        exact ⟨rfl, hfin.out⟩
      have hsz8 := pre_size hy
      have hsz8' : x7.size = 1 + x8.size := hsz8
      have hfa : Hid (ans σ = ans { τ1 with rest := x8.data.toList, stack := σ.stack, env := σ.env, pcs := flushed τ1.pcs τ1.txt ++ [⟨2, sp, nm.data.toList, []⟩], txt := [] }) := Lib.hid (by
        rw [hac.out, ht6.out]
        have := closes_yes (σ := τ1) hst11.out hfr.out.2.2.1 hfr.out.2.2.2 (x := x6.data.toList) (v := x8.data.toList) (by rw [← hx7'.out]; exact hy)
        rw [show fullT p.data.toList nm.data.toList ++ x6.data.toList = fullT (⟨p.data.toList, nm.data.toList, sp, σ.env⟩ : El).pre (⟨p.data.toList, nm.data.toList, sp, σ.env⟩ : El).name ++ x6.data.toList from rfl, this]
        rfl)
      have hzW := hK14.out.blocks Z _ hz7'.out (by rintro ⟨cs, ty, fr, e, he⟩; injection e with _ e2 _; subst e2; revert he; decide) hqZ.out
      have y0 : w14.cell? ⟨Z, 0, none⟩ = some (.int .i64 1) := by rw [Lib.cell_of_heap hzW]; rfl
      have y1 : w14.cell? ⟨Z, 1, none⟩ = some (.int .i64 sp) := by rw [Lib.cell_of_heap hzW]; rfl
      have y2 : w14.cell? ⟨Z, 2, none⟩ = some (.string nm) := by rw [Lib.cell_of_heap hzW]; rfl
      have y3 : w14.cell? ⟨Z, 3, none⟩ = some (.string ⟨#[]⟩) := by rw [Lib.cell_of_heap hzW]; rfl
      have cC2 := closing_any 1 sp nm ⟨#[]⟩ w14
      have h14' := Lib.hid h14
      clear hy hsz8 h14 hzW
      go_wp2_with fail
      go_at_call 105
      with_reducible refine cC2.mono ?_
      rintro e w15 ⟨rfl, hb15⟩
      clear cC2
      have h15 := h14'.out.kept hb15
      have hK15 := Lib.hid (hK14.out.trans (KeptR.of_below hb15).W)
      have cP := put_any h15 (by omega) (by omega) 2 sp nm ⟨#[]⟩
      clear h15 hb15 y0 y1 y2 y3
      go_wp2_with fail
      go_at_call 103
      with_reducible refine cP.mono ?_
      rintro e w16 ⟨rfl, q16, h16, hK16⟩
      clear cP
      have hfin := Lib.hid (show ElemP w0 w b q σ r (.returned (.tuple #[])) w16 from .inl ⟨{ τ1 with rest := x8.data.toList, stack := σ.stack, env := σ.env, pcs := flushed τ1.pcs τ1.txt ++ [⟨2, sp, nm.data.toList, []⟩], txt := [] }, x8, q16, hfa.out, rfl, rfl, by
          show τ1.had = true
          rw [hlk'.out.2.2.2]; exact hσf.out.2.2, rfl, ⟨rfl, h16, by
          have h1 := flushed_len τ1.pcs τ1.txt
          unfold Room
          simp only [List.length_append, List.length_cons, List.length_nil]
          rw [← Lib.size_eq]
          omega⟩, by omega, hk7'.out.trans (hK15.out.trans hK16), rfl⟩)
      clear h16 hK16
      go_wp2
      go_end0
      exact hfin.out
theorem elem_any : ∀ n, ElemC n
  | 0 => elem_zero
  | n + 1 => elem_step n (elem_any n)
end Go.Proofs.YtmmpojhjpghdlaaGreatDoor.Xm

/-
  WALKS OF THE PROGRAM's READER OF LAYER xml: document. (wip/tools/genxmln.py)
-/
set_option linter.unusedVariables false
namespace Go.Proofs.YtmmpojhjpghdlaaGreatDoor.Xm
open Go.Lib Go.RowKit

theorem front_blk {t u : Row} {c : UInt8} (h : t.dropWhile blk = t) (ht : t = c :: u) : blk c = false := by
  subst ht
  cases hb : blk c with
  | false => rfl
  | true =>
    rw [List.dropWhile_cons, if_pos hb] at h
    have := congrArg List.length h
    have h2 := dropWhile_len blk u
    rw [List.length_cons] at this
    omega
theorem front_remark {t u : Row} (h : remarkS.isPrefixOf t = false) (ht : t = 60 :: u) : ([33, 45, 45] : Row).isPrefixOf u = false := by
  subst ht
  exact h
/-- the first element's beginning -/
theorem opens_first {x : Row} {w : World} (h1 : x.dropWhile blk = x) (h2 : remarkS.isPrefixOf x = false) : Opens { init x with rest := x } [] (.pointer none) 1 w := by
  refine ⟨rfl, rfl, rfl, fun t ht => step_top ht rfl rfl (front_remark h2 ht), fun hh => ?_⟩
  cases hx : x with
  | nil => exact ans_over rfl (.inr rfl)
  | cons c t => exact ans_out rfl (fun e => hh (by show x.head? = _; rw [hx, e]; rfl)) (front_blk h1 hx) rfl
/-- what is left behind the element -/
theorem ans_left {σ : St} {x : Row} (hr : σ.rest = x) (hs : σ.stack = []) (hh : σ.had = true) (h1 : x.dropWhile blk = x) (h2 : remarkS.isPrefixOf x = false) (hx : x ≠ []) : ans σ = none := by
  cases hx' : x with
  | nil => exact absurd hx' hx
  | cons c t =>
    by_cases hc : c = 60
    · subst hc
      exact ans_behind (hr.trans hx') hs hh (front_remark h2 hx')
    · exact ans_out (hr.trans hx') hc (front_blk h1 hx') hs
theorem docP_of {s x : Row} (h : prolog s = some x) : docP s = ans (init x) := by
  unfold docP; rw [h]; rfl
/-- a document read, or given up -/
def DocR (w0 w : World) (b : Nat) (q : Value) (s : ByteArray) (e : Ending) (w' : World) : Prop :=
  (∃ (ps : List Pc) (q' : Value), docP s.data.toList = some ps ∧ e = .returned (.tuple #[]) ∧ Bef w0 b ⟨#[]⟩ [] (ps, q') w' ∧ KeptW q w q' w') ∨ (docP s.data.toList = none ∧ e = gone ∧ Below w0.heap.size w0 w' ∧ ∃ q' : Value, KeptW q w q' w')
theorem DocR.left {w0 w w' : World} {b : Nat} {s x : ByteArray} {τ : St} {q q' : Value} (hp : docP s.data.toList = ans τ) (hr : τ.rest = x.data.toList) (hs : τ.stack = []) (hh : τ.had = true) (h1 : x.data.toList.dropWhile blk = x.data.toList) (h2 : remarkS.isPrefixOf x.data.toList = false) (hx : ¬ x = ⟨#[]⟩) (hb : Bef w0 b x [] (τ.pcs, q') w') (hk : KeptW q w q' w') : DocR w0 w b q s gone w' :=
  .inr ⟨by rw [hp]; exact ans_left hr hs hh h1 h2 (fun e => hx (ByteArray.ext (Array.toList_inj.1 e))), rfl, hb.bel, q', hk⟩
theorem DocR.done {w0 w w' : World} {b : Nat} {s x : ByteArray} {τ : St} {q q' : Value} (hp : docP s.data.toList = ans τ) (hr : τ.rest = x.data.toList) (hs : τ.stack = []) (hh : τ.had = true) (hx : x = ⟨#[]⟩) (hb : Bef w0 b x [] (τ.pcs, q') w') (hk : KeptW q w q' w') : DocR w0 w b q s (.returned (.tuple #[])) w' :=
  .inl ⟨τ.pcs, q', by rw [hp]; exact ans_done (by rw [hr, hx]) hs hh, rfl, hx ▸ hb, hk⟩
set_option maxHeartbeats 4000000 in
set_option maxRecDepth 100000 in
theorem document_any {w0 w : World} (hG : Gw w0) {b : Nat} {s : ByteArray} {q : Value} (h : Bef w0 b s [] ([], q) w) (hs : s.size ≤ 65536) :
    Calls Tryz.prog 39 #[.pointer (some ⟨b, 0, none⟩)] w fun e w' => DocR w0 w b q s e w' := by
  have cT := take_any h ⟨#[60, 63, 120, 109, 108]⟩
  clear h
  go_enter Tryz.func39, Tryz.ntmps39
  go_wp2_with fail
  go_at_call 68
  with_reducible refine cT.mono ?_
  rintro e w1 ⟨hq, hk1⟩
  clear cT
  have hk1' := Lib.hid (KeptR.W (q := q) hk1)
  clear hk1
  rcases hq with ⟨x1, hy, rfl, h1⟩ | ⟨hn, rfl, h1⟩
  · have hsz1 := pre_size hy
    have hsz1' : s.size = 5 + x1.size := hsz1
    have hpro : Hid (prolog s.data.toList = (find [63, 62] x1.data.toList).map fun p => p.2) := Lib.hid (by
      have hy2 : s.data.toList = xmlS ++ x1.data.toList := hy
      unfold prolog
      rw [hy2, if_pos (List.isPrefixOf_iff_prefix.2 ⟨_, rfl⟩)]; rfl)
    have cU := until_any hG h1 ⟨#[63, 62]⟩ (by simp) (by omega)
    clear hy h1 hsz1
    go_wp2_with fail
    go_at_call 69
    with_reducible refine cU.mono ?_
    rintro e w2 ⟨hq, hk2⟩
    clear cU
    have hk2' := Lib.hid (hk1'.out.trans hk2.W)
    clear hk2 hk1'
    rcases hq with ⟨a, x2, hf, rfl, h2⟩ | ⟨hf, rfl, h2⟩
    rotate_left
    · have hfin := Lib.hid (show DocR w0 w b q s gone w2 from .inr ⟨by
        have e : find [63, 62] x1.data.toList = none := hf
        unfold docP; rw [hpro.out, e]; rfl, rfl, h2, q, hk2'.out⟩)
      clear hf h2
      unfold gone at hfin ⊢
      go_wp2
      exact ⟨rfl, hfin.out⟩
    have hdoc : Hid (docP s.data.toList = ans (init x2.data.toList)) := Lib.hid (docP_of (by
      have e : find [63, 62] x1.data.toList = some (a.data.toList, x2.data.toList) := hf
      rw [hpro.out, e]; rfl))
    have hsz2 : x2.size ≤ 65536 := by
      have := (find_sizes (by simp) hf).2
      rw [← Lib.size_eq] at this
      omega
    clear hf hpro
    have cA := aside_any hG h2 (σ := init x2.data.toList) (by omega) rfl rfl
    clear h2
    go_wp2_with fail
    go_at_call 70
    with_reducible refine cA.mono ?_
    rintro e w3 ⟨hq, hk3⟩
    clear cA
    have hk3' := Lib.hid (hk2'.out.trans hk3.W)
    clear hk3 hk2'
    rcases hq with ⟨x3, ha, hb3, hm3, hsz3, rfl, h3⟩ | ⟨ha, rfl, h3⟩
    rotate_left
    · have hfin := Lib.hid (show DocR w0 w b q s gone w3 from .inr ⟨by rw [hdoc.out]; exact ha, rfl, h3, q, hk3'.out⟩)
      clear ha h3
      unfold gone at hfin ⊢
      go_wp2
      exact ⟨rfl, hfin.out⟩
    have hdoc3 : Hid (docP s.data.toList = ans { init x2.data.toList with rest := x3.data.toList }) := Lib.hid (by rw [hdoc.out]; exact ha)
    have hS3 : Sits w0 b { init x2.data.toList with rest := x3.data.toList } x3 q w3 := ⟨rfl, h3, by
      unfold Room
      show x3.data.toList.length ≤ 65536 ∧ 0 + 4 * x3.data.toList.length ≤ 262144 ∧ 0 + 4 * x3.data.toList.length ≤ 262144
      rw [← Lib.size_eq]
      omega⟩
    have cE : Calls Tryz.prog 71 #[.pointer (some ⟨b, 0, none⟩), .pointer none, .int .i64 1] w3 fun e w' => ElemP w0 w3 b q { init x2.data.toList with rest := x3.data.toList } x3 e w' :=
      elem_any x3.size w0 w3 b _ x3 q [] (.pointer none) 1 (Nat.le_refl _) hG hS3 (opens_first hb3 hm3)
    clear ha hS3 h3 hb3 hm3 hdoc
    go_wp2_with fail
    go_at_call 71
    with_reducible refine cE.mono ?_
    rintro e w4 hq
    clear cE
    rcases hq with ⟨τ, x4, q4, ha, hst, henv, hhad, htx, hS4, hsz4, hk4, rfl⟩ | ⟨ha, rfl, h4, q4, hk4⟩
    rotate_left
    · have hfin := Lib.hid (show DocR w0 w b q s gone w4 from .inr ⟨by rw [hdoc3.out, ha], rfl, h4, q4, hk3'.out.trans hk4⟩)
      clear ha h4 hk4
      unfold gone at hfin ⊢
      go_wp2
      exact ⟨rfl, hfin.out⟩
    have hst' : τ.stack = [] := hst
    have hdoc4 : Hid (docP s.data.toList = ans τ) := Lib.hid (by rw [hdoc3.out, ha])
    have hB4 := hS4.bef
    rw [htx] at hB4
    have hh4 := Lib.hid hhad
    have hk4' := Lib.hid (hk3'.out.trans hk4)
    clear hk3'
    have cA := aside_any hG hB4 (σ := τ) (by omega) hst' hS4.rest
    clear ha hst henv hhad htx hS4 hk4 hB4 hdoc3
    have hst4 := Lib.hid hst'
    clear hst'
    go_wp2_with fail
    go_at_call 70
    with_reducible refine cA.mono ?_
    rintro e w5 ⟨hq, hk5⟩
    clear cA
    have hk5' := Lib.hid (hk4'.out.trans hk5.W)
    clear hk5 hk4'
    rcases hq with ⟨x5, ha, hb5, hm5, hsz5, rfl, h5⟩ | ⟨ha, rfl, h5⟩
    rotate_left
    · have hfin := Lib.hid (show DocR w0 w b q s gone w5 from .inr ⟨by rw [hdoc4.out, ha], rfl, h5, _, hk5'.out⟩)
      clear ha h5
      unfold gone at hfin ⊢
      go_wp2
      exact ⟨rfl, hfin.out⟩
    have hdoc5 : Hid (docP s.data.toList = ans { τ with rest := x5.data.toList }) := Lib.hid (by rw [hdoc4.out, ha])
    have hl5 := Lib.hid fun hx => DocR.left (τ := { τ with rest := x5.data.toList }) hdoc5.out rfl hst4.out hh4.out hb5 hm5 hx h5 hk5'.out
    have hd5 := Lib.hid fun hx => DocR.done (τ := { τ with rest := x5.data.toList }) hdoc5.out rfl hst4.out hh4.out hx h5 hk5'.out
    obtain ⟨c5, f5⟩ := h5.cell
    clear ha hb5 hm5 h5 hdoc4
    by_cases hx : x5 = ⟨#[]⟩
    · have hfin := Lib.hid (hd5.out hx)
      clear hl5 hd5
      subst hx
      go_wp2
      go_end0
      exact hfin.out
    · have hfin := Lib.hid (hl5.out hx)
      have cG := giveUp_any w5
      clear hl5 hd5
      unfold gone at hfin cG
      have hne : x5.toList.isEmpty = false := by
        rw [Lib.toList_data]
        cases hx6 : x5.data.toList with
        | nil => exact absurd (ByteArray.ext (Array.toList_inj.1 hx6)) hx
        | cons _ _ => rfl
      go_wp2_with fail
      go_at_call 72
      with_reducible refine cG.mono ?_
      rintro e w6 ⟨rfl, rfl⟩
      go_wp2
      exact ⟨rfl, hfin.out⟩
  · have hdoc : Hid (docP s.data.toList = ans (init s.data.toList)) := Lib.hid (docP_of (by
      unfold prolog
      rw [if_neg (by intro e; rw [show xmlS.isPrefixOf s.data.toList = false from hn] at e; cases e)]))
    clear hn
    have cA := aside_any hG h1 (σ := init s.data.toList) (by omega) rfl rfl
    clear h1
    go_wp2_with fail
    go_at_call 70
    with_reducible refine cA.mono ?_
    rintro e w3 ⟨hq, hk3⟩
    clear cA
    have hk3' := Lib.hid (hk1'.out.trans hk3.W)
    clear hk3 hk1'
    rcases hq with ⟨x3, ha, hb3, hm3, hsz3, rfl, h3⟩ | ⟨ha, rfl, h3⟩
    rotate_left
    · have hfin := Lib.hid (show DocR w0 w b q s gone w3 from .inr ⟨by rw [hdoc.out]; exact ha, rfl, h3, q, hk3'.out⟩)
      clear ha h3
      unfold gone at hfin ⊢
      go_wp2
      exact ⟨rfl, hfin.out⟩
    have hdoc3 : Hid (docP s.data.toList = ans { init s.data.toList with rest := x3.data.toList }) := Lib.hid (by rw [hdoc.out]; exact ha)
    have hS3 : Sits w0 b { init s.data.toList with rest := x3.data.toList } x3 q w3 := ⟨rfl, h3, by
      unfold Room
      show x3.data.toList.length ≤ 65536 ∧ 0 + 4 * x3.data.toList.length ≤ 262144 ∧ 0 + 4 * x3.data.toList.length ≤ 262144
      rw [← Lib.size_eq]
      omega⟩
    have cE : Calls Tryz.prog 71 #[.pointer (some ⟨b, 0, none⟩), .pointer none, .int .i64 1] w3 fun e w' => ElemP w0 w3 b q { init s.data.toList with rest := x3.data.toList } x3 e w' :=
      elem_any x3.size w0 w3 b _ x3 q [] (.pointer none) 1 (Nat.le_refl _) hG hS3 (opens_first hb3 hm3)
    clear ha hS3 h3 hb3 hm3 hdoc
    go_wp2_with fail
    go_at_call 71
    with_reducible refine cE.mono ?_
    rintro e w4 hq
    clear cE
    rcases hq with ⟨τ, x4, q4, ha, hst, henv, hhad, htx, hS4, hsz4, hk4, rfl⟩ | ⟨ha, rfl, h4, q4, hk4⟩
    rotate_left
    · have hfin := Lib.hid (show DocR w0 w b q s gone w4 from .inr ⟨by rw [hdoc3.out, ha], rfl, h4, q4, hk3'.out.trans hk4⟩)
      clear ha h4 hk4
      unfold gone at hfin ⊢
      go_wp2
      exact ⟨rfl, hfin.out⟩
    have hst' : τ.stack = [] := hst
    have hdoc4 : Hid (docP s.data.toList = ans τ) := Lib.hid (by rw [hdoc3.out, ha])
    have hB4 := hS4.bef
    rw [htx] at hB4
    have hh4 := Lib.hid hhad
    have hk4' := Lib.hid (hk3'.out.trans hk4)
    clear hk3'
    have cA := aside_any hG hB4 (σ := τ) (by omega) hst' hS4.rest
    clear ha hst henv hhad htx hS4 hk4 hB4 hdoc3
    have hst4 := Lib.hid hst'
    clear hst'
    go_wp2_with fail
    go_at_call 70
    with_reducible refine cA.mono ?_
    rintro e w5 ⟨hq, hk5⟩
    clear cA
    have hk5' := Lib.hid (hk4'.out.trans hk5.W)
    clear hk5 hk4'
    rcases hq with ⟨x5, ha, hb5, hm5, hsz5, rfl, h5⟩ | ⟨ha, rfl, h5⟩
    rotate_left
    · have hfin := Lib.hid (show DocR w0 w b q s gone w5 from .inr ⟨by rw [hdoc4.out, ha], rfl, h5, _, hk5'.out⟩)
      clear ha h5
      unfold gone at hfin ⊢
      go_wp2
      exact ⟨rfl, hfin.out⟩
    have hdoc5 : Hid (docP s.data.toList = ans { τ with rest := x5.data.toList }) := Lib.hid (by rw [hdoc4.out, ha])
    have hl5 := Lib.hid fun hx => DocR.left (τ := { τ with rest := x5.data.toList }) hdoc5.out rfl hst4.out hh4.out hb5 hm5 hx h5 hk5'.out
    have hd5 := Lib.hid fun hx => DocR.done (τ := { τ with rest := x5.data.toList }) hdoc5.out rfl hst4.out hh4.out hx h5 hk5'.out
    obtain ⟨c5, f5⟩ := h5.cell
    clear ha hb5 hm5 h5 hdoc4
    by_cases hx : x5 = ⟨#[]⟩
    · have hfin := Lib.hid (hd5.out hx)
      clear hl5 hd5
      subst hx
      go_wp2
      go_end0
      exact hfin.out
    · have hfin := Lib.hid (hl5.out hx)
      have cG := giveUp_any w5
      clear hl5 hd5
      unfold gone at hfin cG
      have hne : x5.toList.isEmpty = false := by
        rw [Lib.toList_data]
        cases hx6 : x5.data.toList with
        | nil => exact absurd (ByteArray.ext (Array.toList_inj.1 hx6)) hx
        | cons _ _ => rfl
      go_wp2_with fail
      go_at_call 72
      with_reducible refine cG.mono ?_
      rintro e w6 ⟨rfl, rfl⟩
      go_wp2
      exact ⟨rfl, hfin.out⟩
end Go.Proofs.YtmmpojhjpghdlaaGreatDoor.Xm

/-
  WALKS OF THE PROGRAM's READER OF LAYER xml: what gives up (recover), Parse.
-/
set_option linter.unusedVariables false
namespace Go.Proofs.YtmmpojhjpghdlaaGreatDoor.Xm
open Go.Lib Go.RowKit

theorem assert_fault (v : Value) (xT : TypeId) (w : World) : (Instr.typeAssert (.iface 119 v) xT 119 true).run Tryz.prog w = .ok (.tuple #[v, .bool true]) w := by
  simp [Instr.typeAssert, run_underlying Tryz.underlying119, go_sem]
set_option maxHeartbeats 2000000 in
set_option maxRecDepth 100000 in
theorem catch_gone (p : Addr) (x : Int) (w : World) (hc : w.cell? p = some (.int .i64 x)) (hz : w.frozen? p = false) :
    CallsD Tryz.prog 67 #[.pointer (some p)] (.panicking [{ v := .iface 119 (.int .i64 70), recovered := false }]) w fun e u' w' =>
      e = .returned (.tuple #[]) ∧ u' = .panicking [{ v := .iface 119 (.int .i64 70), recovered := true }] ∧ w' = w.setCell p (.int .i64 70) := by
  have hA := assert_fault (.int .i64 70)
  refine callsD_of_wpS Tryz.func67 rfl fun c₀ cs hu => ?_
  simp only [Tryz.ntmps67, List.size_toArray, List.length_cons, List.length_nil, Nat.reduceAdd, Nat.reduceSub, Array.replicate_succ, Array.replicate_zero, List.push_toArray, List.append_toArray, List.nil_append, List.cons_append]
  apply wpS_seq
  apply wpS_region
  simp [wpOpsS, go_sem, recoverD, hu, Exit.thenS]
  refine wpS_of_wp ?_
  clear hu
  generalize hQ : (fun (e : Exit) (a' : Act) (w' : World) => bodyPostS Tryz.prog _ c₀ cs _ e a' _ w') = Q
  go_wp2
  rw [← hQ]
  cases c₀
  simp [bodyPostS, results, Tryz.results67]

set_option maxHeartbeats 2000000 in
set_option maxRecDepth 100000 in
theorem catch_idle (p : Addr) (w : World) :
    CallsD Tryz.prog 67 #[.pointer (some p)] .returning w fun e u' w' => e = .returned (.tuple #[]) ∧ u' = .returning ∧ w' = w := by
  refine callsD_of_wpS Tryz.func67 rfl fun c₀ cs hu => ?_
  simp only [Tryz.ntmps67, List.size_toArray, List.length_cons, List.length_nil, Nat.reduceAdd, Nat.reduceSub, Array.replicate_succ, Array.replicate_zero, List.push_toArray, List.append_toArray, List.nil_append, List.cons_append]
  apply wpS_seq
  apply wpS_region
  simp [wpOpsS, go_sem, recoverD, hu, Exit.thenS]
  refine wpS_of_wp ?_
  generalize hQ : (fun (e : Exit) (a' : Act) (w' : World) => bodyPostS Tryz.prog _ c₀ cs _ e a' _ w') = Q
  go_wp2
  rw [← hQ]
  cases c₀
  simp_all [bodyPostS, results, Tryz.results67]
theorem Bef.other {w0 w : World} {b Z : Nat} {r : ByteArray} {l : Row} {ps : Pq} {o : Obj} (h : Bef w0 b r l ps w) (hz : w.heap[Z]? = some o) (ho : ¬ weak o) (hB : w0.heap.size ≤ Z) (i : Nat) (u : Value) : Bef w0 b r l ps (w.setCell ⟨Z, i, none⟩ u) := by
  have hk : ∀ (k : Nat) (x : Obj), w.heap[k]? = some x → weak x → (w.setCell ⟨Z, i, none⟩ u).heap[k]? = some x := fun k x hx hw => by
    rw [Below.heap_setCell w ⟨Z, i, none⟩ u k (fun e => ?_)]
    · exact hx
    · have e : k = Z := e
      subst e
      rw [hx] at hz
      injection hz with hz
      exact ho (hz ▸ hw)
  obtain ⟨hb, p, v, h⟩ := h
  refine ⟨hb.setCell (p := ⟨Z, i, none⟩) hB _, p, v, h.hB, hk _ _ h.at0 ⟨_, _, _, rfl, .inr (.inr rfl)⟩, h.ptr, ownsRowF_kept h.row (fun k x hx hq => hk k x hx ?_), h.nil, psOwn_kept h.pcs (fun k x hx hq => hk k x hx ?_)⟩
  · obtain ⟨cs, fr, hx'⟩ := rowB_type h.row hq
    rw [hx] at hx'
    injection hx' with hx'
    exact ⟨cs, _, fr, hx', .inl rfl⟩
  · obtain ⟨cs, fr, hx'⟩ := rowP_type h.pcs hq
    rw [hx] at hx'
    injection hx' with hx'
    exact ⟨cs, _, fr, hx', .inr (.inl rfl)⟩
/-- a document read, or the error -/
def FaultP (w0 : World) (b : Nat) (s : ByteArray) (e : Ending) (w' : World) : Prop :=
  (∃ (ps : List Pc) (q' : Value), docP s.data.toList = some ps ∧ e = .returned (.int .i64 0) ∧ Bef w0 b ⟨#[]⟩ [] (ps, q') w') ∨ (docP s.data.toList = none ∧ e = .returned (.int .i64 70) ∧ Below w0.heap.size w0 w')
theorem not_weak_errno (cs : Array Value) (fr : Nat × Nat) : ¬ weak (.cells cs 31 fr) := by
  rintro ⟨cs', t, fr', e, h⟩
  injection e with _ e _
  subst e
  revert h; decide
set_option maxHeartbeats 2000000 in
set_option maxRecDepth 100000 in
theorem fault_any {w0 w : World} (hG : Gw w0) {b : Nat} {s : ByteArray} {q : Value} (h : Bef w0 b s [] ([], q) w) (hs : s.size ≤ 65536) :
    Calls Tryz.prog 38 #[.func (.func 39) #[.pointer (some ⟨b, 0, none⟩)] #[]] w fun e w' => FaultP w0 b s e w' := by
  have hmf : ∀ (fn : Fn) (first cap : Array Value) (w : World), (Instr.makeFunc fn first cap).run Tryz.prog w = .ok (.func fn first cap) w := fun _ _ _ _ => rfl
  obtain ⟨Z, hZ⟩ : ∃ Z, w.heap.size = Z := ⟨_, rfl⟩
  have hal : Below w.heap.size w (w.alloc (.cells #[.int .i64 0] 31)) := (Below.refl _ _).alloc (Nat.le_refl _) _
  have hz1 : (w.alloc (.cells #[.int .i64 0] 31)).heap[Z]? = some (.cells #[.int .i64 0] 31 (0, 0)) := by rw [← hZ]; exact heap_alloc_new w _
  have h1 := h.kept hal
  have hB0 : w0.heap.size ≤ Z := by rw [← hZ]; exact h.bel.size
  have hown : Hid (PsOwn w0.heap.size q [] (w.alloc (.cells #[.int .i64 0] 31))) := Lib.hid (by
    obtain ⟨p', v', hv'⟩ := h1.rd
    exact hv'.pcs)
  have cD := document_any hG h1 hs
  clear h h1 hal
  go_enter_defers Tryz.func38, Tryz.ntmps38
  go_wp2_with fail
  go_at_call 39
  with_reducible refine cD.mono ?_
  rintro e w2 hq
  clear cD
  rcases hq with ⟨ps, q', hd, rfl, h2, hk⟩ | ⟨hd, rfl, h2, q', hk⟩
  · have hz2 := hk.old hown.out Z _ hz1 (not_weak_errno _ _)
    have y0 : w2.cell? ⟨Z, 0, none⟩ = some (.int .i64 0) := by rw [Lib.cell_of_heap hz2]; rfl
    have f0 : w2.frozen? ⟨Z, 0, none⟩ = false := Lib.frozen_of_heap hz2 0
    have hfin : Hid (FaultP w0 b s (.returned (.int .i64 0)) (w2.setCell ⟨Z, 0, none⟩ (.int .i64 0))) := Lib.hid (.inl ⟨ps, q', hd, rfl, h2.other hz2 (not_weak_errno _ _) hB0 0 _⟩)
    have hcI := catch_idle ⟨Z, 0, none⟩ (w2.setCell ⟨Z, 0, none⟩ (.int .i64 0))
    have y1 : (w2.setCell ⟨Z, 0, none⟩ (.int .i64 0)).cell? ⟨Z, 0, none⟩ = some (.int .i64 0) := by rw [World.cell?_setCell_same _ _ _ y0]
    clear hd h2 hk hz1 hown
    go_wp2
    refine leaves_cons (f := 67) (args := #[.pointer (some ⟨Z, 0, none⟩)]) (by simp) (by simp [go_sem]) ?_
    refine hcI.mono ?_
    rintro e u' w'' ⟨rfl, rfl, rfl⟩
    simp [Leaves, settle, results, Tryz.results38, go_sem, y1]
    exact hfin.out
  · have hz2 := hk.old hown.out Z _ hz1 (not_weak_errno _ _)
    have y0 : w2.cell? ⟨Z, 0, none⟩ = some (.int .i64 0) := by rw [Lib.cell_of_heap hz2]; rfl
    have f0 : w2.frozen? ⟨Z, 0, none⟩ = false := Lib.frozen_of_heap hz2 0
    have hfin : Hid (FaultP w0 b s (.returned (.int .i64 70)) (w2.setCell ⟨Z, 0, none⟩ (.int .i64 70))) := Lib.hid (.inr ⟨hd, rfl, h2.setCell (p := ⟨Z, 0, none⟩) hB0 _⟩)
    clear hd h2 hk hz1 hown
    have hcG := catch_gone ⟨Z, 0, none⟩ 0 w2 y0 f0
    have y1 : (w2.setCell ⟨Z, 0, none⟩ (.int .i64 70)).cell? ⟨Z, 0, none⟩ = some (.int .i64 70) := by rw [World.cell?_setCell_same _ _ _ y0]
    unfold gone
    go_wp2
    refine leaves_cons (f := 67) (args := #[.pointer (some ⟨Z, 0, none⟩)]) (by simp) (by simp [go_sem]) ?_
    refine hcG.mono ?_
    rintro e u' w'' ⟨rfl, rfl, rfl⟩
    simp [Leaves, settle, results, Tryz.results38, go_sem, y1]
    exact hfin.out
/-! ### Parse -/
theorem parseX_long {t : Row} (h : 65536 < t.length) : parseX t = ([], 11) := if_pos h
theorem parseX_bad {t : Row} (h : ¬ 65536 < t.length) (hv : Ch.valid t = false) : parseX t = ([], 10) := by
  unfold parseX; rw [if_neg h, if_pos hv]
theorem parseX_none {t : Row} (h : ¬ 65536 < t.length) (hv : Ch.valid t = true) (hd : docP t = none) : parseX t = ([], 70) := by
  unfold parseX; rw [if_neg h, if_neg (by rw [hv]; decide), hd]
theorem parseX_some {t : Row} {ps : List Pc} (h : ¬ 65536 < t.length) (hv : Ch.valid t = true) (hd : docP t = some ps) : parseX t = (ps, 0) := by
  unfold parseX; rw [if_neg h, if_neg (by rw [hv]; decide), hd]
def ParseP (w : World) (t : ByteArray) (e : Ending) (w' : World) : Prop := (∃ v, e = .returned (.tuple #[v, .int .i64 (parseX t.data.toList).2]) ∧ PcsAt w' v (parseX t.data.toList).1) ∧ Below w.heap.size w w'
theorem ParseP.of {w w' : World} {t : ByteArray} {v : Value} {ps : List Pc} {c : Int} (h : parseX t.data.toList = (ps, c)) (hp : PcsAt w' v ps) (hb : Below w.heap.size w w') : ParseP w t (.returned (.tuple #[v, .int .i64 c])) w' := ⟨⟨v, by rw [h], by rw [h]; exact hp⟩, hb⟩
theorem bef_new (w : World) (t : ByteArray) : Bef w w.heap.size t [] ([], .slice none 0 0) (w.alloc (.cells #[.string t, .pointer none, .slice none 0 0, .slice none 0 0] 96)) :=
  ⟨(Below.refl _ _).alloc (Nat.le_refl _) _, .pointer none, .slice none 0 0, Nat.le_refl _, heap_alloc_new w _, .inl rfl, ⟨rfl, .inl ⟨rfl, rfl⟩⟩, fun _ => rfl, PsOwn.nil _ _⟩
set_option maxHeartbeats 2000000 in
set_option maxRecDepth 100000 in
theorem parse_any : ParseC := fun t w ht hG => by
  have hmf : ∀ (fn : Fn) (first cap : Array Value) (w : World), (Instr.makeFunc fn first cap).run Tryz.prog w = .ok (.func fn first cap) w := fun _ _ _ _ => rfl
  show Calls Tryz.prog 17 #[.string t] w fun e w' => ParseP w t e w'
  have hsz := Lib.size_eq t
  by_cases h0 : 65536 < t.size
  · have hfin := Lib.hid (ParseP.of (v := .slice none 0 0) (parseX_long (by rw [← hsz]; exact h0)) (PcsAt.nil w none) (Below.refl _ _))
    clear hsz
    go_enter Tryz.func17, Tryz.ntmps17
    go_wp2
    go_ret2
    exact hfin.out
  · have cV := Ch.valid_any t w (by omega) hG.tabs
    have hl : ¬ 65536 < t.data.toList.length := by rw [← hsz]; exact h0
    clear hsz
    go_enter Tryz.func17, Tryz.ntmps17
    go_wp2_with fail
    go_at_call 37
    refine cV.mono ?_
    rintro e w1 ⟨rfl, hb⟩
    clear cV
    cases hv : Ch.valid t.data.toList with
    | false =>
      have hfin := Lib.hid (ParseP.of (v := .slice none 0 0) (parseX_bad hl hv) (PcsAt.nil w1 none) hb)
      clear hv hb
      go_wp2
      go_ret2
      exact hfin.out
    | true =>
      have cF := fault_any (gw_below hG hb) (bef_new w1 t) (by omega)
      have hv' := Lib.hid hv
      have hb' := Lib.hid hb
      clear hv hb
      go_wp2_with fail
      go_at_call 38
      refine cF.mono ?_
      rintro e w2 hq
      clear cF
      rcases hq with ⟨ps, q', hd, rfl, h2⟩ | ⟨hd, rfl, h2⟩
      · obtain ⟨p3, v3, h3⟩ := h2.rd
        have c3 := h3.cell.2.2.2
        have hfin := Lib.hid (ParseP.of (v := q') (parseX_some hl hv'.out hd) h3.pcs.at (hb'.out.trans (h2.bel.mono hb'.out.size)))
        clear hd h2 h3
        go_wp2
        go_ret2
        exact hfin.out
      · have hfin := Lib.hid (ParseP.of (v := .slice none 0 0) (parseX_none hl hv'.out hd) (PcsAt.nil w2 none) (hb'.out.trans (h2.mono hb'.out.size)))
        clear hd h2
        go_wp2
        go_ret2
        exact hfin.out
end Go.Proofs.YtmmpojhjpghdlaaGreatDoor.Xm

/-
  WALKS OF THE PROGRAM's CHECK OF LAYER xml: isOpen, isChars.
-/
set_option linter.unusedVariables false
namespace Go.Proofs.YtmmpojhjpghdlaaGreatDoor.Xm
open Go.Lib Go.RowKit

def openB (k sp : Int) (n t : ByteArray) : Bool := decide (k = 1) && okTag ⟨k, sp, n.data.toList, t.data.toList⟩
def charsB (k sp : Int) (n t : ByteArray) : Bool := decide (k = 3) && okTxt ⟨k, sp, n.data.toList, t.data.toList⟩
theorem open_of {k sp : Int} {n t : ByteArray} {K : Bool} (hs : 0 ≤ sp ∧ sp ≤ 2) (hn : nameB n.data.toList = true) (hK : (k == 1 && sp == sp && n.toList == n.toList && t.toList == (⟨#[]⟩ : ByteArray).toList) = K) : openB k sp n t = K := by
  rw [← hK, Lib.toList_data, Lib.toList_data, Lib.toList_data]
  unfold openB okTag
  rw [hn, decide_eq_true hs]
  cases hx : t.data.toList with
  | nil => by_cases h1 : k = 1 <;> simp [h1]
  | cons c r => by_cases h1 : k = 1 <;> simp [h1]
theorem open_name {k sp : Int} {n t : ByteArray} (hn : nameB n.data.toList = false) : openB k sp n t = false := by
  unfold openB okTag
  rw [hn, Bool.and_false, Bool.and_false]
theorem open_space {k sp : Int} {n t : ByteArray} (hs : ¬ (0 ≤ sp ∧ sp ≤ 2)) : openB k sp n t = false := by
  unfold openB okTag
  rw [decide_eq_false hs, Bool.and_false, Bool.false_and, Bool.and_false]
theorem chars_of {k sp : Int} {n t : ByteArray} {K : Bool} (hv : Ch.valid t.data.toList = true) (hb : blanks t.data.toList = false) (hK : (k == 3 && sp == 0 && n.toList == (⟨#[]⟩ : ByteArray).toList && t.toList == t.toList) = K) : charsB k sp n t = K := by
  rw [← hK, Lib.toList_data, Lib.toList_data, Lib.toList_data]
  unfold charsB okTxt
  rw [hv, hb]
  cases hx : n.data.toList with
  | nil => by_cases h1 : k = 3 <;> by_cases h2 : sp = 0 <;> simp [h1, h2]
  | cons c r => by_cases h1 : k = 3 <;> by_cases h2 : sp = 0 <;> simp [h1, h2]
theorem chars_bad {k sp : Int} {n t : ByteArray} (hv : Ch.valid t.data.toList = false) : charsB k sp n t = false := by
  unfold charsB okTxt
  rw [hv, Bool.false_and, Bool.and_false, Bool.and_false]
theorem chars_blank {k sp : Int} {n t : ByteArray} (hb : blanks t.data.toList = true) : charsB k sp n t = false := by
  unfold charsB okTxt
  rw [hb]
  simp
theorem alloc2 {w : World} (a b : Obj) : Below w.heap.size w ((w.alloc a).alloc b) := ((Below.refl _ _).alloc (Nat.le_refl _) _).alloc (by simp) _
set_option maxHeartbeats 4000000 in
set_option maxRecDepth 100000 in
theorem isOpen_any (k sp : Int) (n t : ByteArray) (w : World) (hn : n.size ≤ 140737488355328) : Calls Tryz.prog 107 #[.agg #[.int .i64 k, .int .i64 sp, .string n, .string t]] w fun e w' => e = .returned (.bool (openB k sp n t)) ∧ Below w.heap.size w w' := by
  obtain ⟨R, hR⟩ : ∃ R, openB k sp n t = R := ⟨_, rfl⟩
  rw [hR]
  have cN := fun W => isName_any n W (by omega)
  have hE := eq_pc k sp 1 sp n t n ⟨#[]⟩
  obtain ⟨K, hK⟩ : ∃ K, (k == 1 && sp == sp && n.toList == n.toList && t.toList == (⟨#[]⟩ : ByteArray).toList) = K := ⟨_, rfl⟩
  rw [hK] at hE
  by_cases hs : 0 ≤ sp ∧ sp ≤ 2
  · have hcase : sp = 0 ∨ sp = 1 ∨ sp = 2 := by omega
    cases hnm : nameB n.data.toList with
    | true =>
      rw [hnm] at cN
      have hRK : R = K := by rw [← hR]; exact open_of hs hnm hK
      subst hRK
      clear hK hR hnm hs
      rcases hcase with rfl | rfl | rfl
      all_goals
        go_enter Tryz.func107, Tryz.ntmps107
        go_wp2_with fail
        go_at_call 125
        refine (cN _).mono ?_
        rintro e w2 ⟨rfl, rfl⟩
        go_wp2
        go_ret
        exact ⟨rfl, alloc2 _ _⟩
    | false =>
      rw [hnm] at cN
      have hRK : R = false := by rw [← hR]; exact open_name hnm
      subst hRK
      clear hK hR hnm hs
      rcases hcase with rfl | rfl | rfl
      all_goals
        go_enter Tryz.func107, Tryz.ntmps107
        go_wp2_with fail
        go_at_call 125
        refine (cN _).mono ?_
        rintro e w2 ⟨rfl, rfl⟩
        go_wp2
        go_ret
        exact ⟨rfl, alloc2 _ _⟩
  · have hRK : R = false := by rw [← hR]; exact open_space hs
    subst hRK
    have h0 : (sp == 0) = false := beq_eq_false_iff_ne.2 (by omega)
    have h1 : (sp == 1) = false := beq_eq_false_iff_ne.2 (by omega)
    have h2 : (sp == 2) = false := beq_eq_false_iff_ne.2 (by omega)
    clear hK hR hs cN hE
    go_enter Tryz.func107, Tryz.ntmps107
    go_wp2
    go_ret
    exact ⟨rfl, alloc2 _ _⟩
theorem two_0 (w : World) (a b : Obj) : ((w.alloc a).alloc b).heap[w.heap.size]? = some a := by
  have h := heap_alloc_new w a
  exact (((Below.refl _ _).alloc (Nat.le_refl _) b).block _ (Array.getElem?_eq_some_iff.1 h).1).trans h
theorem two_1 (w : World) (a b : Obj) : ((w.alloc a).alloc b).heap[w.heap.size + 1]? = some b := by
  have h := heap_alloc_new (w.alloc a) b
  rw [show (w.alloc a).heap.size = w.heap.size + 1 by simp] at h
  exact h
theorem kept_block {w w' : World} {k : Nat} {o : Obj} (h : w.heap[k]? = some o) (hb : Below w.heap.size w w') : w'.heap[k]? = some o := (hb.block k (Array.getElem?_eq_some_iff.1 h).1).trans h
theorem pc_cells {w : World} {Z : Nat} {k sp : Int} {n t : ByteArray} {ty : TypeId} (h : w.heap[Z]? = some (.cells #[.int .i64 k, .int .i64 sp, .string n, .string t] ty (0, 0))) :
    w.cell? ⟨Z, 0, none⟩ = some (.int .i64 k) ∧ w.cell? ⟨Z, 1, none⟩ = some (.int .i64 sp) ∧ w.cell? ⟨Z, 2, none⟩ = some (.string n) ∧ w.cell? ⟨Z, 3, none⟩ = some (.string t) := by
  refine ⟨?_, ?_, ?_, ?_⟩ <;> (rw [Lib.cell_of_heap h]; rfl)
set_option maxHeartbeats 4000000 in
set_option maxRecDepth 100000 in
theorem isChars_any (k sp : Int) (n t : ByteArray) (w : World) (ht : t.size ≤ 140737488355328) (hT : Ch.Tabs w) : Calls Tryz.prog 108 #[.agg #[.int .i64 k, .int .i64 sp, .string n, .string t]] w fun e w' => e = .returned (.bool (charsB k sp n t)) ∧ Below w.heap.size w w' := by
  obtain ⟨R, hR⟩ : ∃ R, charsB k sp n t = R := ⟨_, rfl⟩
  rw [hR]
  have cV := fun (W : World) (h : Ch.Tabs W) => Ch.valid_any t W (by omega) h
  have cB := fun W => isBlank_any t W (by omega)
  have hE := eq_pc k sp 3 0 n t ⟨#[]⟩ t
  obtain ⟨K, hK⟩ : ∃ K, (k == 3 && sp == 0 && n.toList == (⟨#[]⟩ : ByteArray).toList && t.toList == t.toList) = K := ⟨_, rfl⟩
  rw [hK] at hE
  have hbad := fun hv => (hR.symm.trans (chars_bad (k := k) (sp := sp) (n := n) (t := t) hv))
  have hblank := fun hb => (hR.symm.trans (chars_blank (k := k) (sp := sp) (n := n) (t := t) hb))
  have hgood := fun hv hb => (hR.symm.trans (chars_of (k := k) (sp := sp) (n := n) (t := t) hv hb hK))
  clear hR hK
  obtain ⟨V, hV⟩ : ∃ V, Ch.valid t.data.toList = V := ⟨_, rfl⟩
  obtain ⟨B, hB⟩ : ∃ B, blanks t.data.toList = B := ⟨_, rfl⟩
  rw [hV] at cV hbad hgood
  rw [hB] at cB hblank hgood
  have hgood := Lib.hid hgood
  have hbad := Lib.hid hbad
  have hblank := Lib.hid hblank
  clear hV hB
  go_enter Tryz.func108, Tryz.ntmps108
  go_wp2_with fail
  go_at_call 37
  have a0 := two_0 w (.cells #[.int .i64 k, .int .i64 sp, .string n, .string t] 75) (.cells #[.int .i64 3, .int .i64 0, .string ⟨#[]⟩, .string t] 75)
  have a1 := two_1 w (.cells #[.int .i64 k, .int .i64 sp, .string n, .string t] 75) (.cells #[.int .i64 3, .int .i64 0, .string ⟨#[]⟩, .string t] 75)
  have hb1 : Below w.heap.size w ((w.alloc (.cells #[.int .i64 k, .int .i64 sp, .string n, .string t] 75)).alloc (.cells #[.int .i64 3, .int .i64 0, .string ⟨#[]⟩, .string t] 75)) := alloc2 _ _
  refine (cV _ (Ch.tabs_below hT hb1)).mono ?_
  rintro e w2 ⟨rfl, hb2⟩
  clear cV
  have a0 := kept_block a0 hb2
  have a1 := kept_block a1 hb2
  have hb2' := hb1.trans (hb2.mono hb1.size)
  clear hb2 hb1
  obtain ⟨p0, p1, p2, p3⟩ := pc_cells a0
  obtain ⟨q0, q1, q2, q3⟩ := pc_cells a1
  cases V with
  | false =>
    have hRf := hbad.out rfl
    subst hRf
    clear a0 a1 cB hE hbad hblank hgood
    go_wp2
    go_ret
    exact ⟨rfl, hb2'⟩
  | true =>
    go_wp2_with fail
    go_at_call 120
    refine (cB _).mono ?_
    rintro e w3 ⟨rfl, hb3⟩
    clear cB p0 p1 p2 p3 q0 q1 q2 q3
    have a0 := kept_block a0 hb3
    have a1 := kept_block a1 hb3
    have hb3' := hb2'.trans (hb3.mono hb2'.size)
    clear hb3 hb2'
    obtain ⟨p0, p1, p2, p3⟩ := pc_cells a0
    obtain ⟨q0, q1, q2, q3⟩ := pc_cells a1
    cases B with
    | true =>
      have hRf := hblank.out rfl
      subst hRf
      clear a0 a1 hE hbad hblank hgood
      go_wp2
      go_ret
      exact ⟨rfl, hb3'⟩
    | false =>
      have hRf := hgood.out (by trivial) (by trivial)
      subst hRf
      clear a0 a1 hbad hblank hgood
      go_wp2
      go_ret
      exact ⟨rfl, hb3'⟩
end Go.Proofs.YtmmpojhjpghdlaaGreatDoor.Xm
