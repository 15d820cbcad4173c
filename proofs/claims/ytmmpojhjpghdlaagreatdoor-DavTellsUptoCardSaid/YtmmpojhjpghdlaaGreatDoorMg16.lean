import Derived.Test.YtmmpojhjpghdlaaGreatDoorMg14
import Derived.Test.YtmmpojhjpghdlaaGreatDoorMg15
import Derived.Test.YtmmpojhjpghdlaaGreatDoorMg10
import Derived.Test.YtmmpojhjpghdlaaGreatDoorMg4
import Derived.Test.YtmmpojhjpghdlaaGreatDoorMg7
import Derived.Test.YtmmpojhjpghdlaaGreatDoorCards
import Derived.Test.YtmmpojhjpghdlaaGreatDoorTie
import Derived.PinnedBridge
import Derived.Lib.LaidIn
import Derived.Lib.LaidU8T
import Derived.Deep.DeepHandedRow
import Derived.Deep.DeepWitnessRowRef
import Derived.ProofKit
import Derived.OpenShut
import Derived.SizedLaws
import Derived.ChangeSame
import Derived.ChangeSlices
import Derived.Deep.Slices
import Derived.Deep.Fields
import Derived.Lib.SmallJoins
import Derived.Carry
import Derived.Test.YtmmpojhjpghdlaaGreatDoorProg
import Derived.Test.YtmmpojhjpghdlaaGreatDoorMg1
import Derived.WalkKit
import Derived.WalkMore
import Derived.Below
import Derived.LoopTactic
import Derived.Laws.IdiomStrings
import Derived.Laws.MakeOwn
import Derived.Laws.OwnMore
import Derived.Outline
import Derived.Lib.Hide
import Derived.Lib.ItoaMem
import Derived.Test.YtmmpojhjpghdlaaGreatDoorMg6
import Derived.Test.YtmmpojhjpghdlaaGreatDoorMg5

/-
  THE WALK OF dav.ParseTold, at a text that is told.
-/
set_option linter.unusedVariables false
namespace Go.Proofs.YtmmpojhjpghdlaaGreatDoor.Dv
open Go.Lib Go.RowKit
open Xm (Row Pc sv PsOwn PcsAt below_then sv_some sv_str ParseC Gw parseX mostS)
open T5 (tdB)

theorem toldV {cc : Nat} {w : World} {v : Value} {t : Td} (h : ToldAt cc w v t) : ∃ A n k tk, v = .agg #[.slice A n k, .string tk] := by
  obtain ⟨iv, rfl, hi⟩ := h
  obtain ⟨A, k, rfl⟩ := hi.form
  obtain ⟨x, ex, _⟩ := sv_some t.token
  exact ⟨A, _, k, x, by rw [ex]⟩
theorem toldKeep {cc : Nat} {w w' : World} {v : Value} {t : Td} (h : ToldAt cc w v t) (hb : Below w.heap.size w w') : ToldAt cc w' v t := by
  obtain ⟨iv, h1, hi⟩ := h
  exact ⟨iv, h1, hi.below hb⟩
set_option maxHeartbeats 8000000 in
set_option maxRecDepth 100000 in
theorem parseTold_at (cP : ParseC) (s : ByteArray) (t : Td) (w : World) (hp : parseX s.data.toList = (pcT t, 0)) (hg : goodT t = true) (hl : (pcT t).length ≤ 1099511627776) (hs : s.size ≤ mostS) (hT : Gw w) :
    Calls Tryz.prog 14 #[.string s] w fun e w' => (∃ v, e = .returned (.tuple #[v, .int .i64 0]) ∧ ToldAt w'.heap.size w' v t) ∧ Below w.heap.size w w' := by
  obtain ⟨Z, hZ⟩ : ∃ Z, w.heap.size = Z := ⟨_, rfl⟩
  obtain ⟨wB, hwB⟩ : ∃ wB, w.alloc (.cells #[.slice none 0 0, .string ⟨#[]⟩] 41) = wB := ⟨_, rfl⟩
  have hbB : Below w.heap.size w wB := by rw [← hwB]; exact (Below.refl _ _).alloc (Nat.le_refl _) _
  have hzB := Lib.hid (show wB.heap[Z]? = some (tdB (.slice none 0 0) ⟨#[]⟩) by rw [← hwB, ← hZ]; exact heap_alloc_new w _)
  have c1 := cP s wB hs (Xm.gw_below hT hbB)
  rw [hp] at c1
  have hbB' := Lib.hid hbB
  have hZ' := Lib.hid hZ
  have hpe := Lib.hid (pcE_T hg)
  have hft := Lib.hid (told_found hg)
  have hl' := Lib.hid hl
  clear hp hg hl hs hT hbB
  go_enter Tryz.func14, Tryz.ntmps14
  go_wp2_with fail
  go_at_call 17
  with_reducible refine c1.mono ?_
  rintro e w1 ⟨⟨v, rfl, hv⟩, hb1⟩
  have hv0 : PcsAt w1 v (pcE (trT t) ++ []) := by rw [List.append_nil, hpe.out]; exact hv
  have hv' := Lib.hid hv
  obtain ⟨A, c, ev⟩ := hv.form
  obtain ⟨n, hn⟩ : ∃ n, (pcT t).length = n := ⟨_, rfl⟩
  rw [hn] at ev
  subst ev
  have c2 := tree_any _ (trT t) (Nat.le_refl _) (.slice A n c) [] w1 w1 hv0 (by rw [List.append_nil, hpe.out]; exact hl'.out) (Below.refl _ _)
  have hb1' := Lib.hid (below_then hbB'.out hb1)
  have hz1 := Lib.hid (blk_at hzB.out hb1)
  clear c1 hb1 hv hv0 hn hzB hbB' hwB
  go_wp2_with fail
  go_at_call 18
  with_reducible refine c2.mono ?_
  rintro e w2 ⟨⟨xv, v', rfl, ⟨kv, rfl, hkv⟩, hv2⟩, hb2⟩
  obtain ⟨nb, e1, _⟩ := sv_some (trT t).n
  obtain ⟨tb, e2, _⟩ := sv_some (trT t).t
  obtain ⟨kA, kc, ek⟩ := hkv.form
  obtain ⟨kn, hkn⟩ : ∃ kn, (trT t).ks.length = kn := ⟨_, rfl⟩
  rw [hkn] at ek
  subst ek
  have hE : ElB w2 (trT t) nb tb kA kn kc := ⟨e1, e2, hkv.mono (fun _ _ _ => trivial), by unfold Sm; rw [hpe.out]; exact hl'.out⟩
  obtain ⟨A2, c2', ev2⟩ := hv2.form
  subst ev2
  rw [e1, e2]
  obtain ⟨xs, hxs⟩ : ∃ xs, (trT t).s = xs := ⟨_, rfl⟩
  obtain ⟨w3, hw3⟩ : ∃ w3, w2.alloc (.cells #[.int .i64 (trT t).s, .string nb, .string tb, .slice kA kn kc] 59) = w3 := ⟨_, rfl⟩
  have hb3 : Below w2.heap.size w2 w3 := by rw [← hw3]; exact (Below.refl _ _).alloc (Nat.le_refl _) _
  have hk3 : w3.heap[w2.heap.size]? = some (elB (trT t).s nb tb (.slice kA kn kc)) := by rw [← hw3]; exact heap_alloc_new w2 _
  have c4 := toldOf_any hE w3 hb3
  rw [hft.out] at c4
  rw [hxs] at c4 hk3 hw3 ⊢
  obtain ⟨x0, x1, x2, x3, _, _, _, _, xz⟩ := cellsE hk3
  have hb13 := below_then hb2 hb3
  have hv3 := Lib.hid (hv'.out.kept hb13)
  have hz3 := Lib.hid (blk_at hz1.out hb13)
  have hb3' := Lib.hid (below_then hb1'.out hb13)
  clear c2 hb2 hkv hv2 e1 e2 hkn hE hxs hb3 hk3 hb13 hv' hz1 hb1'
  go_wp2_with fail
  go_at_call 34
  with_reducible refine c4.mono ?_
  rintro e w4 ⟨⟨rv4, tt, rfl, ho4, dt⟩, hb4⟩
  obtain ⟨tA, tk, ev4⟩ := Xm.ownsRow_form ho4
  obtain ⟨tn, htn⟩ : ∃ tn, t.items.length = tn := ⟨_, rfl⟩
  rw [htn] at ev4
  subst ev4
  have ht : ToldAt w4.heap.size w4 (.agg #[.slice tA tn tk, .string tt]) t := ⟨_, by rw [← dt, Xm.sv_data], ho4.at⟩
  obtain ⟨w5, hw5⟩ : ∃ w5, w4.alloc (.cells #[.slice tA tn tk, .string tt] 41) = w5 := ⟨_, rfl⟩
  have hb5 : Below w4.heap.size w4 w5 := by rw [← hw5]; exact (Below.refl _ _).alloc (Nat.le_refl _) _
  have hk5 : w5.heap[w4.heap.size]? = some (tdB (.slice tA tn tk) tt) := by rw [← hw5]; exact heap_alloc_new w4 _
  obtain ⟨y0, y1, _, _, yz⟩ := toldC hk5
  have ht5 := toldKeep ht hb5
  have c6 := telling_any (cc := w4.heap.size) _ t w5 ht5
  have hb45 := below_then hb4 hb5
  have hv5 := Lib.hid (hv3.out.kept hb45)
  have hz5 := Lib.hid (blk_at hz3.out hb45)
  have hb5' := Lib.hid (below_then hb3'.out hb45)
  have ht5' := Lib.hid ht5
  have hk5' := Lib.hid hk5
  have hs5 : w4.heap.size ≤ w5.heap.size := hb5.size
  have ho5 := Lib.hid (ho4.kept hb5)
  have dt' := Lib.hid dt
  have hw3Z : Z < w3.heap.size := (Array.getElem?_eq_some_iff.1 hz3.out).1
  clear ho4 dt htn c4 hb4 ht hb5 ht5 hk5 hb45 hv3 hz3 hb3' x0 x1 x2 x3 xz hw3
  go_wp2_with fail
  go_at_call 33
  with_reducible refine c6.mono ?_
  rintro e w6 ⟨⟨fv, rfl, hm⟩, hb6⟩
  obtain ⟨f, caps, rfl, hf, hdo⟩ := hm
  have hd := hdo w6 w6.heap.size (.slice none 0 0) [] (KeptP.refl w6) (PsOwn.nil _ _) (Nat.le_refl _) (Nat.le_trans hs5 hb6.size) (by simpa using hl'.out)
  have hv6 := Lib.hid (hv5.out.kept hb6)
  have hz6 := Lib.hid (blk_at hz5.out hb6)
  have hb6' := Lib.hid (below_then hb5'.out hb6)
  have ho6 := Lib.hid (ho5.out.kept hb6)
  have hk6 := Lib.hid (blk_at hk5'.out hb6)
  clear c6 hdo hb6 hv5 hz5 hb5' ht5' ho5 hk5' y0 y1 yz hw5
  go_wp2_with fail
  go_at_fn f
  with_reducible refine hd.mono ?_
  rintro e w7 ⟨rv, rfl, hown, hb7, hkp⟩
  rw [List.nil_append] at hown
  have hv7 := hv6.out.kept hb7
  have c8 := equalP_any rv (.slice A n c) (pcT t) (pcT t) w7 hown.at hv7
  rw [decide_eq_true rfl] at c8
  obtain ⟨rA, rc, er⟩ := hown.at.form
  obtain ⟨rn, hrn⟩ : ∃ rn, (pcT t).length = rn := ⟨_, rfl⟩
  rw [hrn] at er
  subst er
  have hz7 := Lib.hid (blk_at hz6.out hb7)
  have hb7' := Lib.hid (below_then hb6'.out hb7)
  have ho7 := Lib.hid (ho6.out.kept hb7)
  have hk7 := Lib.hid (blk_at hk6.out hb7)
  clear hd hown hb7 hkp hv7 hrn hv6 hz6 hb6' ho6 hk6
  go_wp2_with fail
  go_at_call 35
  with_reducible refine c8.mono ?_
  rintro e w8 ⟨rfl, hb8⟩
  have hz8 := blk_at hz7.out hb8
  have hk8 := blk_at hk7.out hb8
  obtain ⟨y0, y1, _, _, yz⟩ := toldC hk8
  obtain ⟨z0, z1, zf0, zf1, zz⟩ := toldC hz8
  have hb8' := below_then hb7'.out hb8
  have ho8 := ho7.out.kept hb8
  obtain ⟨wf, hwf⟩ : ∃ wf, (w8.setCell ⟨Z, 0, none⟩ (.slice tA tn tk)).setCell ⟨Z, 1, none⟩ (.string tt) = wf := ⟨_, rfl⟩
  have hfc : wf.heap[Z]? = some (tdB (.slice tA tn tk) tt) := by rw [← hwf]; simp [World.setCell, Array.getElem?_modify, hz8, tdB]
  obtain ⟨u0, u1, _, _, _⟩ := toldC hfc
  have hfin := Lib.hid (show ToldAt wf.heap.size wf (.agg #[.slice tA tn tk, .string tt]) t ∧ Below w.heap.size w wf by
    constructor
    · refine ⟨_, by rw [← dt'.out, Xm.sv_data], ?_⟩
      refine IsOwn.at (B := w3.heap.size) ?_
      refine ⟨ho8.1, ?_⟩
      rcases ho8.2 with q | ⟨g', cap, cur, p1, p2, p3, p4⟩
      · exact .inl q
      · exact .inr ⟨g', cap, cur, p1, p2, by rw [← hwf, Below.heap_setCell _ _ _ _ (by show g' ≠ Z; omega), Below.heap_setCell _ _ _ _ (by show g' ≠ Z; omega)]; exact p3, p4⟩
    · rw [← hwf]
      exact (hb8'.setCell (p := ⟨Z, 0, none⟩) (by show w.heap.size ≤ Z; rw [hZ'.out]; exact Nat.le_refl _) _).setCell (p := ⟨Z, 1, none⟩) (by show w.heap.size ≤ Z; rw [hZ'.out]; exact Nat.le_refl _) _)
  clear c8 hb8 hz8 hk8 hb8' ho8 hfc
  go_wp2
  exact bodyPost_ret (v := .tuple #[.agg #[.slice tA tn tk, .string tt], .int .i64 0]) (by simp [results, Tryz.results14, go_sem, u0, u1]) rfl ⟨⟨_, rfl, hfin.out.1⟩, hfin.out.2⟩
end Go.Proofs.YtmmpojhjpghdlaaGreatDoor.Dv

/-
  dav.printed, dav.PrintTold: what is told is printed ('printT').
-/
set_option linter.unusedVariables false
namespace Go.Proofs.YtmmpojhjpghdlaaGreatDoor.Dv
open Go.Lib Go.RowKit
open Xm (Row Pc sv PsOwn PcsAt below_then sv_some prX right szs mostP Gw gw_below PrintC PrintP szs_len)

variable {cc : Nat}
/-- what printed answers -/
def prdP (ps : List Pc) : Row × Int := if right ps = false then ([], 90) else if 65536 < (prX ps).length then ([], 11) else (prX ps, 0)
set_option maxHeartbeats 4000000 in
set_option maxRecDepth 100000 in
theorem printed_any (cR : PrintC) (fv : Value) (ps : List Pc) (w : World) (hm : Mk cc w fv ps) (hcc : cc ≤ w.heap.size) (hsz : szs ps ≤ mostP) (hT : Gw w) :
    Calls Tryz.prog 32 #[fv] w fun e w' => e = .returned (.tuple #[sv (prdP ps).1, .int .i64 (prdP ps).2]) ∧ Below w.heap.size w w' := by
  have hlen : ps.length ≤ 1099511627776 := Nat.le_trans (szs_len ps) (Nat.le_trans hsz (by unfold mostP; omega))
  obtain ⟨f, caps, rfl, hf, hdo⟩ := hm
  have hd := hdo w w.heap.size (.slice none 0 0) [] (KeptP.refl w) (PsOwn.nil _ _) (Nat.le_refl _) hcc (by simpa using hlen)
  have cR' := Lib.hid cR
  have hT' := Lib.hid hT
  clear hdo cR hT hcc hlen
  obtain ⟨R, hRr⟩ : ∃ R, prdP ps = R := ⟨_, rfl⟩
  rw [hRr]
  have hRr' := Lib.hid hRr
  clear hRr
  go_enter Tryz.func32, Tryz.ntmps32
  go_wp2_with fail
  go_at_fn f
  with_reducible refine hd.mono ?_
  rintro e w1 ⟨rv, rfl, hown, hb1, hk1⟩
  have hat := hown.at
  obtain ⟨A, c, er⟩ := hat.form
  rw [List.nil_append] at hat er
  have hR := cR'.out rv ps w1 hat hsz (gw_below hT'.out hb1)
  obtain ⟨n, hn⟩ : ∃ n, ps.length = n := ⟨_, rfl⟩
  rw [hn] at er
  subst er
  clear hd hown hat hk1 hn
  have hb1' := Lib.hid hb1
  clear hb1
  go_wp2_with fail
  go_at_call 56
  with_reducible refine hR.mono ?_
  rintro e w2 ⟨hp, hb2⟩
  have hb2' := Lib.hid (below_then hb1'.out hb2)
  clear hR hb2
  rcases hp with ⟨h1, rfl⟩ | ⟨h1, h2, rfl⟩ | ⟨h1, h2, rfl⟩
  · have h1' := Lib.hid h1
    clear h1
    go_wp2
    go_ret2
    refine ⟨?_, hb2'.out⟩
    rw [← hRr'.out]
    unfold prdP
    rw [if_pos h1'.out]
    rfl
  · have h1' := Lib.hid h1
    have h2' := Lib.hid h2
    clear h1 h2
    go_wp2
    go_ret2
    refine ⟨?_, hb2'.out⟩
    rw [← hRr'.out]
    unfold prdP
    rw [if_neg (by rw [h1'.out]; decide), if_pos h2'.out]
    rfl
  · have h1' := Lib.hid h1
    have h2' := Lib.hid h2
    clear h1 h2
    go_wp2
    go_ret2
    refine ⟨?_, hb2'.out⟩
    rw [← hRr'.out]
    unfold prdP
    rw [if_neg (by rw [h1'.out]; decide), if_neg (by have := h2'.out; omega)]
    rfl
theorem printT_contra {t : Td} (h : t.items.any contraI = true) : printT t = ([], 90) := by
  unfold printT
  rw [if_pos (contra_bad h)]
theorem printT_is {t : Td} (h : t.items.any contraI = false) : printT t = prdP (pcT t) := by
  unfold printT prdP
  rw [good_is t h]
set_option maxHeartbeats 4000000 in
set_option maxRecDepth 100000 in
theorem printTold_any (cR : PrintC) (v : Value) (t : Td) (w : World) (ht : ToldAt cc w v t) (hcc : cc ≤ w.heap.size) (hsz : szs (pcT t) ≤ mostP) (hT : Gw w) :
    Calls Tryz.prog 12 #[v] w fun e w' => e = .returned (.tuple #[sv (printT t).1, .int .i64 (printT t).2]) ∧ Below w.heap.size w w' := by
  have hb0 : ∀ o : Obj, Below w.heap.size w (w.alloc o) := fun o => (Below.refl _ _).alloc (Nat.le_refl _) _
  have ht0 := ht
  obtain ⟨iv, rfl, hi⟩ := ht
  obtain ⟨x, ex, dx⟩ := sv_some t.token
  rw [ex] at ht0 ⊢
  obtain ⟨A, k, ei⟩ := hi.form
  obtain ⟨n, hn⟩ : ∃ n, t.items.length = n := ⟨_, rfl⟩
  rw [hn] at ei
  subst ei
  obtain ⟨wB, hwB⟩ : ∃ wB, w.alloc (.cells #[.slice A n k, .string x] 41) = wB := ⟨_, rfl⟩
  have hbB : Below w.heap.size w wB := by rw [← hwB]; exact hb0 _
  have hk : wB.heap[w.heap.size]? = some (.cells #[.slice A n k, .string x] 41 (0, 0)) := by rw [← hwB]; exact heap_alloc_new w _
  have c1 := containsI cc _ t.items wB (hi.below hbB)
  have c2 := Lib.hid (fun W (hW : Below wB.heap.size wB W) => telling_any (cc := cc) _ t W (show ToldAt cc W _ t from ⟨_, rfl, (hi.below hbB).below hW⟩))
  rw [ex] at c2
  obtain ⟨R, hRr⟩ : ∃ R, printT t = R := ⟨_, rfl⟩
  rw [hRr]
  have hRr' := Lib.hid hRr
  have hbB' := Lib.hid hbB
  have hk' := Lib.hid hk
  have hT' := Lib.hid hT
  have hcc' := Lib.hid hcc
  obtain ⟨C, hC⟩ : ∃ C, t.items.any contraI = C := ⟨_, rfl⟩
  rw [hC] at c1
  have hC' := Lib.hid hC
  have k0 : wB.cell? ⟨w.heap.size, 0, none⟩ = some (.slice A n k) := (Lib.cell_of_heap hk 0).trans rfl
  clear hRr hbB hk hT hcc hC hi ht0 ex dx hn hb0
  go_enter Tryz.func12, Tryz.ntmps12
  go_wp2_with fail
  go_at_call 30
  with_reducible refine c1.mono ?_
  rintro e w1 ⟨rfl, hb1⟩
  have hkk := blk_of hk'.out hb1
  have d0 : w1.cell? ⟨w.heap.size, 0, none⟩ = some (.slice A n k) := (Lib.cell_of_heap hkk 0).trans rfl
  have d1 : w1.cell? ⟨w.heap.size, 1, none⟩ = some (.string x) := (Lib.cell_of_heap hkk 1).trans rfl
  have hb1' := Lib.hid (below_then hbB'.out hb1)
  have c2' := c2.out w1 hb1
  clear c1 c2 hb1 hkk k0
  cases C
  · go_wp2_with fail
    go_at_call 33
    with_reducible refine c2'.mono ?_
    rintro e w2 ⟨⟨fv, rfl, hm⟩, hb2⟩
    have hb2' := Lib.hid (below_then hb1'.out hb2)
    have c3 := printed_any (cc := cc) cR fv (pcT t) w2 hm (Nat.le_trans hcc'.out hb2'.out.size) hsz (gw_below hT'.out hb2'.out)
    rw [← printT_is hC'.out, hRr'.out] at c3
    obtain ⟨f, caps, rfl⟩ := hm.form
    clear c2' hb2 hm d0 d1
    go_wp2_with fail
    go_at_call 32
    with_reducible refine c3.mono ?_
    rintro e w3 ⟨rfl, hb3⟩
    have hb3' := Lib.hid (below_then hb2'.out hb3)
    clear c3 hb3
    obtain ⟨R1, R2⟩ := R
    obtain ⟨y, ey, _⟩ := sv_some R1
    simp only
    rw [ey]
    go_wp2
    go_ret2
    exact ⟨rfl, hb3'.out⟩
  · have e := hRr'.out
    rw [printT_contra hC'.out] at e
    subst e
    clear c2'
    go_wp2
    go_ret2
    exact ⟨rfl, hb1'.out⟩
end Go.Proofs.YtmmpojhjpghdlaaGreatDoor.Dv

/-
  WHAT THE ROWS LIST, in the reading: the tables of unicode/utf8, where utf8.ValidString stands in the dump. The bulk of what is read.
-/
set_option linter.unusedVariables false
namespace Go.Proofs.YtmmpojhjpghdlaaGreatDoor.La
open Go.Lib Go.RowKit Go.Shelf Go.ChangeShapes Go.WideShapes Go.ChangeAt

theorem own : ownKnob Tryz.prog.godebug = none := by kernel_rfl
theorem accept_eq : Rows.laid_unicode_utf8_acceptRanges = Lib.acceptData := by kernel_rfl
theorem first_eq : Rows.laid_unicode_utf8_first = Lib.firstData := Pinned.utf8First_eq
theorem tabs_of {W : World} (h1 : VarReads Tryz.prog W "unicode/utf8.first" Lib.firstData) (h2 : VarReads Tryz.prog W "unicode/utf8.acceptRanges" Lib.acceptData) : Ch.Tabs W :=
  utf8Tabs_of_readsT (U8Types.of196 Tryz.laysValid) ⟨by kernel_rfl, by kernel_rfl, by kernel_rfl, by kernel_rfl, by kernel_rfl, by kernel_rfl, by kernel_rfl⟩ h1 h2

/-! ### bulk -/
theorem bulk_le {H : Type} {d : DataW H} {l : List (DataW H)} (h : d ∈ l) : Rows.uptoBulk d ≤ Rows.uptoBulkAll l := by
  induction l with
  | nil => cases h
  | cons x r ih =>
    rw [Rows.uptoBulkAll]
    rcases List.mem_cons.1 h with rfl | h
    · omega
    · have := ih h; omega
theorem bulk_all {H : Type} {l : List (DataW H)} (hk : Rows.uptoSmall H l = true) : Rows.uptoBulkAll l ≤ 1048576 := of_decide_eq_true hk
theorem bulk_string {H : Type} (b : List UInt8) : Rows.uptoBulk (DataW.lit (H := H) (.string b)) = b.length + 1 := by rw [Rows.uptoBulk]
end Go.Proofs.YtmmpojhjpghdlaaGreatDoor.La

/-
  A PARAMETER OF TYPE []api.Piece: what its reading gives.
-/
set_option linter.unusedVariables false
namespace Go.Proofs.YtmmpojhjpghdlaaGreatDoor.La
open Go.Lib Go.RowKit Go.Shelf Go.ChangeShapes Go.WideShapes Go.ChangeAt Go.Deep Xm

theorem laidOut : laidOutB Tryz.prog = true := by kernel_rfl
theorem listed {α : Type} (P : Nat → α → Prop) : ∀ n, (∀ i, i < n → ∃ x, P i x) → ∃ xs : List α, xs.length = n ∧ ∀ (i : Nat) (x : α), xs[i]? = some x → P i x
  | 0, _ => ⟨[], rfl, fun i x h => by simp at h⟩
  | n + 1, h => by
    obtain ⟨xs, hl, hx⟩ := listed P n (fun i hi => h i (by omega))
    obtain ⟨x, hxn⟩ := h n (by omega)
    refine ⟨xs ++ [x], by simp [hl], fun i y hy => ?_⟩
    by_cases hi : i < n
    · rw [List.getElem?_append_left (by omega)] at hy
      exact hx i y hy
    · rw [List.getElem?_append_right (by omega)] at hy
      have h0 : i - xs.length = 0 := by have := (List.getElem?_eq_some_iff.1 hy).1; simp at this; omega
      rw [h0] at hy
      simp at hy
      subst hy
      rw [show i = n by omega]
      exact hxn
variable {H : Type} {enc : TypeId × Value → H}
theorem bulk_sum {α : Type} (f : α → Nat) : ∀ (xs : List α) (D : Nat → DataW H), (∀ (i : Nat) (x : α), xs[i]? = some x → f x ≤ Rows.uptoBulk (D i)) → (xs.map f).sum ≤ Rows.uptoBulkAll ((List.range xs.length).map D)
  | [], D, _ => by simp
  | x :: xs, D, h => by
    have h0 := h 0 x rfl
    have ih := bulk_sum f xs (fun i => D (i + 1)) (fun i y hy => h (i + 1) y (by simpa using hy))
    rw [List.length_cons, List.range_succ_eq_map, List.map_cons, List.map_cons, List.map_map, List.sum_cons, Rows.uptoBulkAll]
    have e : (D ∘ Nat.succ) = fun i => D (i + 1) := rfl
    rw [e]
    omega
theorem spot_none {W : World} {a : Addr} {v : Value} (h : W.cell? a = some v) : a.spot = none := by
  cases hs : a.spot with
  | none => rfl
  | some x =>
    exfalso
    unfold World.cell? at h
    rw [hs] at h
    split at h <;> simp at h
theorem add_spot (a : Addr) (h : (a.add 0).spot = none) : a = ⟨a.block, a.off, none⟩ := by
  obtain ⟨b, off, spot⟩ := a
  unfold Addr.add at h
  split at h <;> simp_all
theorem add_is (b off i : Nat) : (⟨b, off, none⟩ : Addr).add i = ⟨b, off + i, none⟩ := by
  unfold Addr.add
  split
  · rename_i h; subst h; rfl
  · rfl

set_option maxRecDepth 100000 in
theorem pcs_open {base : Nat} {W : World} {v : Value} {d : DataW H} {ps : List MemPlace} (hval : Value.okWide Tryz.prog W .any base 42 v) (h : DataW.Trod enc Tryz.prog W 0 (fun _ => true) true 42 v d ps) :
    ∃ qs, PcsAt W v qs ∧ szs qs ≤ Rows.uptoBulk d := by
  obtain ⟨a0, len0, cap0, rfl⟩ := okWide_slice Tryz.underlying42 hval
  obtain ⟨fuel, hf⟩ := h
  have hce : Tryz.prog.cellsOf 75 = 4 := by kernel_rfl
  have h1s : Tryz.prog.cellsOf 9 = 1 := by kernel_rfl
  have h1k : Tryz.prog.cellsOf 73 = 1 := by kernel_rfl
  have h1p : Tryz.prog.cellsOf 22 = 1 := by kernel_rfl
  rcases open_slice Tryz.underlying42 hf with ⟨hcs, hx⟩ | ⟨a, len, cap, m, n, D, Pl, hcs, _, hl, hm, hmm, hx, hi⟩
  · simp [Value.cells] at hcs
    obtain ⟨rfl, rfl, rfl⟩ := hcs
    exact ⟨[], PsOwn.at (PsOwn.nil 0 W), Nat.zero_le _⟩
  · simp [Value.cells] at hcs
    obtain ⟨rfl, rfl, rfl⟩ := hcs
    simp only [if_true] at hmm
    rw [hce] at hi
    obtain ⟨qs, hqs, hp⟩ := listed (fun i (p : Pc) => W.cell? (a.add (i * 4)) = some (.int .i64 p.kind) ∧ W.cell? ((a.add (i * 4)).add 1) = some (.int .i64 p.space) ∧ W.cell? ((a.add (i * 4)).add 2) = some (sv p.name) ∧ W.cell? ((a.add (i * 4)).add 3) = some (sv p.text) ∧ szP p ≤ Rows.uptoBulk (D i)) len0 (fun i hil => by
      obtain ⟨cs', hc, ht⟩ := hi i (by omega)
      obtain ⟨_, hcl, hat⟩ := World.cells?_some hc
      obtain ⟨y0, y1, y2, y3, n', hy, _, ht0, ht1, ht2, ht3⟩ := Go.Joins.trod_struct4 Tryz.underlying75 ht
      match cs', hcl with
      | [c0, c1, c2, c3], _ =>
        have e0 := hat 0 (by omega)
        have e1 := hat 1 (by omega)
        have e2 := hat 2 (by omega)
        have e3 := hat 3 (by omega)
        simp only [h1s, h1k, h1p, List.drop_zero, List.take_succ_cons, List.take_zero, List.drop_succ_cons] at ht0 ht1 ht2 ht3
        obtain ⟨n0, hs0, hx0, _⟩ := DataW.trod_int Tryz.underlying73 ht0
        obtain ⟨n1, hs1, hx1, _⟩ := DataW.trod_int Tryz.underlying22 ht1
        obtain ⟨s2, hs2, hx2, _⟩ := DataW.trod_string Tryz.underlying9 ht2
        obtain ⟨s3, hs3, hx3, _⟩ := DataW.trod_string Tryz.underlying9 ht3
        simp at hs0 hs1 hs2 hs3
        subst hs0; subst hs1; subst hs2; subst hs3
        simp only [Prod.mk.injEq] at hy
        have ez : (a.add (i * 4)).add 0 = a.add (i * 4) := by unfold Addr.add; simp
        rw [ez] at e0
        refine ⟨⟨n0, n1, s2.data.toList, s3.data.toList⟩, ?_, ?_, ?_, ?_, ?_⟩
        · simpa using e0
        · simpa using e1
        · rw [sv_data]; simpa using e2
        · rw [sv_data]; simpa using e3
        · rw [hy.1, Rows.uptoBulk, Rows.uptoBulkAll, Rows.uptoBulkAll, Rows.uptoBulkAll, Rows.uptoBulkAll, Rows.uptoBulkAll, hx0, hx1, hx2, hx3]
          dsimp only
          rw [bulk_string, bulk_string]
          unfold szP
          dsimp only
          omega)
    have key : 0 < qs.length → a = ⟨a.block, a.off, none⟩ ∧ a.block < W.heap.size := fun h0 => by
      have h1 : qs[0]? = some (qs[0]'h0) := List.getElem?_eq_getElem _
      have h2 := (hp 0 _ h1).1
      rw [Nat.zero_mul] at h2
      have h3 := add_spot a (spot_none h2)
      have h4 := World.block_lt_of_cell? W (a.add 0) h2
      rw [h3, add_is] at h4
      exact ⟨h3, h4⟩
    refine ⟨qs, ⟨some a, a.block, a.off, cap0, by rw [hqs], by omega, hm, fun h0 => ?_, fun j p hj => ?_⟩, ?_⟩
    · obtain ⟨h3, h4⟩ := key h0
      exact ⟨by rw [← h3], h4⟩
    · obtain ⟨g0, g1, g2, g3, _⟩ := hp j p hj
      obtain ⟨h3, _⟩ := key (by have := (List.getElem?_eq_some_iff.1 hj).1; omega)
      rw [h3, add_is] at g0
      rw [h3, add_is, add_is] at g1 g2 g3
      exact ⟨g0, g1, g2, g3⟩
    · simp only [Prod.mk.injEq] at hx
      rw [hx.1, Rows.uptoBulk]
      have := bulk_sum szP qs D (fun i p hip => (hp i p hip).2.2.2.2)
      rw [hqs] at this
      unfold szs
      omega
/-- the last step of a row whose call left all that there was -/
theorem post_left {P : Program} {f : Func} {s : OpenSpec} {F : Stop.Interp} {apart fresh handsOn again : Bool} {W W' : World} {args : Array Value} {v : Value} {ds gs : List (DataW H)} {before pa pv : List MemPlace}
    (hW : DataW.Whole enc P f.params.toList s.vars apart W args.toList ds gs before)
    (hres : ∀ (b : Nat) (sp : Nat → Bool) (hd : Bool), DataW.TrodAll enc P W' b sp hd f.resultTypes.toList (v.resultList f.resultTypes.size) ((s.at F).fn H (ds ++ gs)).results [])
    (hargs : DataW.TrodAll enc P W' 0 (fun b => decide (b < W.heap.size)) true f.params.toList args.toList ((s.at F).fn H (ds ++ gs)).args pa)
    (hvars : DataW.TrodVars enc P W' (fun b => decide (b < W.heap.size)) s.vars ((s.at F).fn H (ds ++ gs)).vars pv)
    (hps : before = pa ++ pv) (hb : Below W.heap.size W W') (hag : again = false) :
    (s.at F).post enc P f apart fresh handsOn again W args v W' := by
  subst hag
  exact ⟨ds, gs, before, [], pa, pv, hW, hres _ _ _, hargs, hvars, World.keptBut_mono (fun p hp => ⟨hp, by rw [hps, List.mem_append] at hp; exact Or.inr hp⟩) (hb.frame (· ∈ before)), fun h => by cases h⟩
end Go.Proofs.YtmmpojhjpghdlaaGreatDoor.La

/-
  A PARAMETER OF TYPE api.Told: what its reading gives.
-/
set_option linter.unusedVariables false
namespace Go.Proofs.YtmmpojhjpghdlaaGreatDoor.La
open Go.Lib Go.RowKit Go.Shelf Go.ChangeShapes Go.WideShapes Go.ChangeAt Go.Deep Xm
open Dv (It Td ItsAt ItCells ToldAt)

variable {H : Type} {enc : TypeId × Value → H}
theorem trod_struct5 {P : Program} {w : World} {base : Nat} {spare : Nat → Bool} {held : Bool} {t : TypeId} {f0 f1 f2 f3 f4 : Field} {fuel : Nat} {cs : List Value} {x : DataW H × List MemPlace} (ht : P.underlying t = some (.struct #[f0, f1, f2, f3, f4])) (h : DataW.trod enc P w base spare held fuel t cs = some x) :
    ∃ y0 y1 y2 y3 y4 n, x = (.agg [y0.1, y1.1, y2.1, y3.1, y4.1], y0.2 ++ (y1.2 ++ (y2.2 ++ (y3.2 ++ y4.2)))) ∧ cs.length = P.cellsOf t ∧ DataW.trod enc P w base spare held n f0.type ((cs.drop f0.offset).take (P.cellsOf f0.type)) = some y0 ∧
      DataW.trod enc P w base spare held n f1.type ((cs.drop f1.offset).take (P.cellsOf f1.type)) = some y1 ∧ DataW.trod enc P w base spare held n f2.type ((cs.drop f2.offset).take (P.cellsOf f2.type)) = some y2 ∧
      DataW.trod enc P w base spare held n f3.type ((cs.drop f3.offset).take (P.cellsOf f3.type)) = some y3 ∧ DataW.trod enc P w base spare held n f4.type ((cs.drop f4.offset).take (P.cellsOf f4.type)) = some y4 := by
  obtain ⟨xs, n, _, rfl, hl, hlen, hf⟩ := DataW.trod_struct ht h
  match xs, hlen with
  | [y0, y1, y2, y3, y4], _ => exact ⟨y0, y1, y2, y3, y4, n, by simp, hl, by simpa using hf 0 f0 rfl, by simpa using hf 1 f1 rfl, by simpa using hf 2 f2 rfl, by simpa using hf 3 f3 rfl, by simpa using hf 4 f4 rfl⟩
def szI (i : It) : Nat := i.href.length + i.tag.length + i.data.length + 1
def szIs (is : List It) : Nat := (is.map szI).sum
theorem bulk_lit (b : Bool) : 0 ≤ Rows.uptoBulk (.lit (.bool b) : DataW H) := Nat.zero_le _
set_option maxRecDepth 100000 in
theorem its_trod {W : World} {fuel : Nat} {v : Value} {x : DataW H × List MemPlace} (h : DataW.trod enc Tryz.prog W 0 (fun _ => true) true fuel 39 [v] = some x) : ∃ is, ItsAt W.heap.size W v is ∧ szIs is ≤ Rows.uptoBulk x.1 := by
  have hce : Tryz.prog.cellsOf 79 = 5 := by kernel_rfl
  have h1s : Tryz.prog.cellsOf 9 = 1 := by kernel_rfl
  have h1b : Tryz.prog.cellsOf 4 = 1 := by kernel_rfl
  rcases open_slice Tryz.underlying39 h with ⟨hcs, hx⟩ | ⟨a, len, cap, m, n, D, Pl, hcs, _, hl, hm, hmm, hx, hi⟩
  · simp at hcs
    subst hcs
    exact ⟨[], ItsAt.nil _ W none, Nat.zero_le _⟩
  · simp at hcs
    subst hcs
    simp only [if_true] at hmm
    rw [hce] at hi
    obtain ⟨qs, hqs, hp⟩ := listed (fun i (p : It) => W.cell? (a.add (i * 5)) = some (sv p.href) ∧ W.cell? ((a.add (i * 5)).add 1) = some (.bool p.gone) ∧ W.cell? ((a.add (i * 5)).add 2) = some (sv p.tag) ∧ W.cell? ((a.add (i * 5)).add 3) = some (sv p.data) ∧ W.cell? ((a.add (i * 5)).add 4) = some (.bool p.book) ∧ szI p ≤ Rows.uptoBulk (D i)) len (fun i hil => by
      obtain ⟨cs', hc, ht⟩ := hi i (by omega)
      obtain ⟨_, hcl, hat⟩ := World.cells?_some hc
      obtain ⟨y0, y1, y2, y3, y4, n', hy, _, ht0, ht1, ht2, ht3, ht4⟩ := trod_struct5 Tryz.underlying79 ht
      match cs', hcl with
      | [c0, c1, c2, c3, c4], _ =>
        have e0 := hat 0 (by omega)
        have e1 := hat 1 (by omega)
        have e2 := hat 2 (by omega)
        have e3 := hat 3 (by omega)
        have e4 := hat 4 (by omega)
        simp only [h1s, h1b, List.drop_zero, List.take_succ_cons, List.take_zero, List.drop_succ_cons] at ht0 ht1 ht2 ht3 ht4
        obtain ⟨s0, hs0, hx0, _⟩ := DataW.trod_string Tryz.underlying9 ht0
        obtain ⟨b1, hs1, hx1⟩ := DataW.trod_bool Tryz.underlying4 ht1
        obtain ⟨s2, hs2, hx2, _⟩ := DataW.trod_string Tryz.underlying9 ht2
        obtain ⟨s3, hs3, hx3, _⟩ := DataW.trod_string Tryz.underlying9 ht3
        obtain ⟨b4, hs4, hx4⟩ := DataW.trod_bool Tryz.underlying4 ht4
        simp at hs0 hs1 hs2 hs3 hs4
        subst hs0; subst hs1; subst hs2; subst hs3; subst hs4
        simp only [Prod.mk.injEq] at hy
        have ez : (a.add (i * 5)).add 0 = a.add (i * 5) := by unfold Addr.add; simp
        rw [ez] at e0
        refine ⟨⟨s0.data.toList, b1, s2.data.toList, s3.data.toList, b4⟩, ?_, ?_, ?_, ?_, ?_, ?_⟩
        · rw [sv_data]; simpa using e0
        · simpa using e1
        · rw [sv_data]; simpa using e2
        · rw [sv_data]; simpa using e3
        · simpa using e4
        · rw [hy.1, Rows.uptoBulk, Rows.uptoBulkAll, Rows.uptoBulkAll, Rows.uptoBulkAll, Rows.uptoBulkAll, Rows.uptoBulkAll, Rows.uptoBulkAll, hx0, hx1, hx2, hx3, hx4]
          dsimp only
          rw [bulk_string, bulk_string, bulk_string]
          unfold szI
          dsimp only
          omega)
    have key : 0 < qs.length → a = ⟨a.block, a.off, none⟩ ∧ a.block < W.heap.size := fun h0 => by
      have h1 : qs[0]? = some (qs[0]'h0) := List.getElem?_eq_getElem _
      have h2 := (hp 0 _ h1).1
      rw [Nat.zero_mul] at h2
      have h3 := add_spot a (spot_none h2)
      have h4 := World.block_lt_of_cell? W (a.add 0) h2
      rw [h3, add_is] at h4
      exact ⟨h3, h4⟩
    refine ⟨qs, ⟨some a, a.block, a.off, cap, by rw [hqs], by omega, hm, fun h0 => ?_, fun j p hj => ?_⟩, ?_⟩
    · obtain ⟨h3, h4⟩ := key h0
      exact ⟨by rw [← h3], h4, h4⟩
    · obtain ⟨g0, g1, g2, g3, g4, _⟩ := hp j p hj
      obtain ⟨h3, _⟩ := key (by have := (List.getElem?_eq_some_iff.1 hj).1; omega)
      rw [h3, add_is] at g0
      rw [h3, add_is, add_is] at g1 g2 g3 g4
      exact ⟨g0, g1, g2, g3, g4⟩
    · rw [hx, Rows.uptoBulk]
      have := bulk_sum szI qs D (fun i p hip => (hp i p hip).2.2.2.2.2)
      rw [hqs] at this
      unfold szIs
      omega
set_option maxRecDepth 100000 in
theorem told_open {base : Nat} {W : World} {v : Value} {d : DataW H} {ps : List MemPlace} (hval : Value.okWide Tryz.prog W .any base 41 v) (h : DataW.Trod enc Tryz.prog W 0 (fun _ => true) true 41 v d ps) :
    ∃ t : Td, ToldAt W.heap.size W v t ∧ szIs t.items + t.token.length ≤ Rows.uptoBulk d := by
  obtain ⟨v0, v1, y0, y1, n, rfl, rfl, rfl, h0, h1⟩ := Go.Joins.open_agg2 Tryz.underlying41 (by kernel_rfl) (by kernel_rfl) hval h
  obtain ⟨s1, e1, x1, _⟩ := DataW.trod_string Tryz.underlying9 h1
  obtain ⟨is, hp, hb⟩ := its_trod h0
  simp at e1
  subst e1
  refine ⟨⟨is, s1.data.toList⟩, ⟨v0, by rw [sv_data], hp⟩, ?_⟩
  rw [Rows.uptoBulk, Rows.uptoBulkAll, Rows.uptoBulkAll, Rows.uptoBulkAll, x1]
  dsimp only
  rw [bulk_string]
  omega
end Go.Proofs.YtmmpojhjpghdlaaGreatDoor.La

/-
  THE WALKS OF LETTERS: char.Lower, char.Upper, the reference's Lower and Upper, char.Same: for every string that a slice of bytes can hold.
-/
set_option linter.unusedVariables false
namespace Go.Proofs.YtmmpojhjpghdlaaGreatDoor.Ch
open Go.Lib Go.RowKit

/-! ### a row of bytes that is gone through -/
/-- The first k bytes of the row are f of those of s, the others are r's; below the row's block nothing has changed. -/
def RowF (f : UInt8 → UInt8) (r : Nat → UInt8) (s : ByteArray) (B k : Nat) (w0 w : World) : Prop :=
  Below B w0 w ∧ B < w.heap.size ∧ ∀ j (hj : j < s.data.size), w.cell? ⟨B, j, none⟩ = some (.int .u8 ((if j < k then f s.data[j] else r j).toNat : Int)) ∧ w.frozen? ⟨B, j, none⟩ = false
def rest (s : ByteArray) (j : Nat) : UInt8 := s.data[j]?.getD 0
theorem rest_at (s : ByteArray) (j : Nat) (hj : j < s.data.size) : rest s j = s.data[j] := by unfold rest; rw [Array.getElem?_eq_getElem hj]; rfl
theorem rowF_start (f : UInt8 → UInt8) (s : ByteArray) (w : World) (C : Array Value) (t : TypeId) (hC : ∀ j (hj : j < s.data.size), C[j]? = some (.int .u8 (s.data[j].toNat : Int))) (hsz : s.data.size ≤ C.size) :
    RowF f (rest s) s w.heap.size 0 w (w.alloc (.cells C t (C.size, C.size + 1))).drew := by
  refine ⟨((Below.refl _ _).alloc (Nat.le_refl _) _).drew, by simp, fun j hj => ⟨?_, ?_⟩⟩
  · show (w.alloc (.cells C t (C.size, C.size + 1))).cell? _ = _
    rw [World.cell?_alloc_mark, hC j hj, if_neg (Nat.not_lt_zero j), rest_at s j hj]
  · show (w.alloc (.cells C t (C.size, C.size + 1))).frozen? _ = _
    rw [World.frozen?_alloc_mark]
    simp
    omega
theorem rowF_made (f : UInt8 → UInt8) (s : ByteArray) (w w' : World) (t : TypeId) (hown : w'.ownsRow w.heap.size t 1 (.slice (some ⟨w.heap.size, 0, none⟩) s.data.size s.data.size) s.data.size (madeCells (Value.int .u8 0).cells (s.data.size * 1)).toList) (hg : w.grownBy w' none) :
    RowF f (fun _ => 0) s w.heap.size 0 w w' := by
  have hlt : w.heap.size < w'.heap.size := by
    rcases hown.2 with ⟨h', _⟩ | ⟨g', cap', cur, h', _, hg', _⟩
    · cases h'
    · injection h' with h1 _ _
      injection h1 with h1
      injection h1 with h1
      subst h1
      rcases Nat.lt_or_ge w.heap.size w'.heap.size with h | h
      · exact h
      · rw [Array.getElem?_eq_none h] at hg'; cases hg'
  refine ⟨(Below.refl _ _).grown hg (Nat.le_refl _) (fun _ h => by cases h), hlt, fun j hj => ⟨?_, hown.frozenAt j⟩⟩
  rw [hown.cellAt j (by omega), show (Value.int .u8 0).cells = #[Value.int .u8 0] from rfl, toList_madeCells_one, List.getElem?_replicate, if_pos (by rw [Nat.mul_one]; exact hj)]
  simp
theorem rowF_get {f : UInt8 → UInt8} {r : Nat → UInt8} {s : ByteArray} {B k : Nat} {w0 w : World} (h : RowF f r s B k w0 w) (hk : k < s.data.size) :
    w.cell? ⟨B, k, none⟩ = some (.int .u8 ((r k).toNat : Int)) ∧ w.frozen? ⟨B, k, none⟩ = false := by
  have := h.2.2 k hk
  rwa [if_neg (Nat.lt_irrefl k)] at this
theorem rowF_skip {f : UInt8 → UInt8} {r : Nat → UInt8} {s : ByteArray} {B k : Nat} {w0 w : World} (h : RowF f r s B k w0 w) (hk : k < s.data.size) (hf : f s.data[k] = r k) : RowF f r s B (k + 1) w0 w := by
  refine ⟨h.1, h.2.1, fun j hj => ?_⟩
  have := h.2.2 j hj
  by_cases hjk : j = k
  · subst hjk
    rw [if_neg (Nat.lt_irrefl j)] at this
    rw [if_pos (by omega), hf]
    exact this
  · by_cases hlt : j < k
    · rw [if_pos hlt] at this; rw [if_pos (by omega)]; exact this
    · rw [if_neg hlt] at this; rw [if_neg (by omega)]; exact this
theorem rowF_put {f : UInt8 → UInt8} {r : Nat → UInt8} {s : ByteArray} {B k : Nat} {w0 w : World} (h : RowF f r s B k w0 w) (hk : k < s.data.size) (z : Int) (hz : ((f s.data[k]).toNat : Int) = z) (hB : B = w0.heap.size) : RowF f r s B (k + 1) w0 (w.setCell ⟨B, k, none⟩ (.int .u8 z)) := by
  refine ⟨h.1.setCell (by subst hB; exact Nat.le_refl _) _, by simpa using h.2.1, fun j hj => ?_⟩
  have := h.2.2 j hj
  rw [World.frozen?_setCell]
  by_cases hjk : j = k
  · subst hjk
    rw [World.cell?_setCell_same _ _ _ this.1, if_pos (by omega), hz]
    exact ⟨rfl, this.2⟩
  · rw [World.cell?_setCell_other _ _ _ _ (by simp)]
    by_cases hlt : j < k
    · rw [if_pos hlt] at this; rw [if_pos (by omega)]; exact this
    · rw [if_neg hlt] at this; rw [if_neg (by omega)]; exact this
/-- Written twice at one place. -/
theorem rowF_put2 {f : UInt8 → UInt8} {r : Nat → UInt8} {s : ByteArray} {B k : Nat} {w0 w : World} (h : RowF f r s B k w0 w) (hk : k < s.data.size) (u : Value) (z : Int) (hz : ((f s.data[k]).toNat : Int) = z) (hB : B = w0.heap.size) : RowF f r s B (k + 1) w0 ((w.setCell ⟨B, k, none⟩ u).setCell ⟨B, k, none⟩ (.int .u8 z)) := by
  refine ⟨(h.1.setCell (by subst hB; exact Nat.le_refl _) _).setCell (by subst hB; exact Nat.le_refl _) _, by simpa using h.2.1, fun j hj => ?_⟩
  have := h.2.2 j hj
  rw [World.frozen?_setCell, World.frozen?_setCell]
  by_cases hjk : j = k
  · subst hjk
    rw [World.cell?_setCell_same _ _ _ (World.cell?_setCell_same _ _ _ this.1), if_pos (by omega), hz]
    exact ⟨rfl, this.2⟩
  · rw [World.cell?_setCell_other _ _ _ _ (by simp), World.cell?_setCell_other _ _ _ _ (by simp)]
    by_cases hlt : j < k
    · rw [if_pos hlt] at this; rw [if_pos (by omega)]; exact this
    · rw [if_neg hlt] at this; rw [if_neg (by omega)]; exact this
theorem rowF_text {f : UInt8 → UInt8} {r : Nat → UInt8} {s : ByteArray} {B : Nat} {w0 w : World} (h : RowF f r s B s.data.size w0 w) (cap : Nat) :
    (convert 88 9 (.slice (some ⟨B, 0, none⟩) s.data.size cap)).run Tryz.prog w = .ok (.string ⟨(s.data.toList.map f).toArray⟩) w := by
  have := run_convert_bytes_back (P := Tryz.prog) w 88 9 5 ⟨B, 0, none⟩ cap (s.data.toList.map f) Tryz.underlying88 Tryz.underlying5 Tryz.underlying9 (fun j hj => by
    have hj' : j < s.data.size := by simpa using hj
    have := (h.2.2 j hj').1
    rw [if_pos hj'] at this
    have e : (⟨B, 0, none⟩ : Addr).add j = ⟨B, j, none⟩ := Lib.add_plain B 0 j |>.trans (by rw [Nat.zero_add])
    rw [e, this]
    simp)
  rwa [List.length_map, Array.length_toList] at this
/-- '[]byte(s)': what it lays. -/
theorem bytes_new (w : World) (s : ByteArray) : ∃ (cap : Nat) (C : Array Value),
    (convert 9 88 (.string s)).run Tryz.prog w = .ok (.slice (some ⟨w.heap.size, 0, none⟩) s.size cap) (w.drew.alloc (.cells C 5 (C.size, C.size + 1))) ∧
    (∀ j (hj : j < s.data.size), C[j]? = some (.int .u8 (s.data[j].toNat : Int))) ∧ s.data.size ≤ C.size := by
  refine ⟨_, _, run_bytes_of_string w 9 88 5 s Tryz.underlying9 Tryz.underlying88 Tryz.underlying5, fun j hj => bytesRow_at s _ j hj, ?_⟩
  simp [bytesRow]
theorem info_u8 : (Tryz.prog.info? 5).map (fun i => (i.zero, i.size, i.bytes)) = some (some (.int .u8 0), 1, 1) := by kernel_rfl
/-- 'make([]byte, n)': what it lays. -/
theorem bytes_made (f : UInt8 → UInt8) (w : World) (s : ByteArray) (hs : s.size ≤ 281474976710656) : ∃ w',
    (Instr.makeSlice 88 (.int .i64 (s.data.size : Int)) (.int .i64 (s.data.size : Int))).run Tryz.prog w = .ok (.slice (some ⟨w.heap.size, 0, none⟩) s.data.size s.data.size) w' ∧ RowF f (fun _ => 0) s w.heap.size 0 w w' := by
  obtain ⟨i0, hi, hz0, hz1, hz2⟩ := info_parts info_u8
  have hss : s.size = s.data.size := rfl
  obtain ⟨w', h1, h2, h3⟩ := run_make_full (P := Tryz.prog) w w.heap.size 88 5 i0 (.int .u8 0) 1 Tryz.underlying88 hi hz0 hz1 .i64 .i64 s.data.size (by rw [hz2]; omega) (by unfold maxLen; omega) (Nat.le_refl _)
  exact ⟨w', h1, rowF_made f s w w' _ h2 h3⟩





end Go.Proofs.YtmmpojhjpghdlaaGreatDoor.Ch

/-
  THE WALK OF internal/strconv.ParseUint AT BASE 16, of strconv.ParseUint over it.
-/
set_option linter.unusedVariables false
namespace Go.Proofs.YtmmpojhjpghdlaaGreatDoor.Xm
open Go.Lib Go.RowKit

theorem digN_mono (b : Nat) (hb : 1 ≤ b) : ∀ (x : Row) (m n : Nat), digN b m x = some n → m ≤ n
  | [], m, n, h => by simp [digN] at h; omega
  | c :: x, m, n, h => by
    simp only [digN] at h
    cases hd : digV b c with
    | none => rw [hd] at h; cases h
    | some d =>
      rw [hd, Option.bind_some] at h
      have := digN_mono b hb x _ n h
      have : m ≤ m * b := Nat.le_mul_of_pos_right m hb
      omega
theorem digN_split (b : Nat) : ∀ (x y : Row) (m : Nat), digN b m (x ++ y) = (digN b m x).bind fun v => digN b v y
  | [], y, m => by simp [digN]
  | c :: x, y, m => by
    simp only [List.cons_append, digN]
    cases digV b c with
    | none => rfl
    | some d => simp only [Option.bind_some]; exact digN_split b x y _
/-- a byte as a digit of sixteen, as strconv reckons it -/
theorem dig16 : ∀ k : Fin 256, digV 16 (UInt8.ofNat k.val) = (if 48 ≤ k.val ∧ k.val ≤ 57 then some (k.val - 48) else if 97 ≤ k.val ||| 32 ∧ k.val ||| 32 ≤ 122 then (if (k.val ||| 32) - 97 + 10 < 16 then some ((k.val ||| 32) - 97 + 10) else none) else none) := by decide +kernel
/-- what ParseUint answers at base 16 -/
def HexP (s : Row) (e : Ending) : Prop :=
  (∃ n : Nat, digN 16 0 s = some n ∧ n < 18446744073709551616 ∧ e = .returned (.tuple #[.int .u64 (n : Int), .nilIface])) ∨
  (∃ (x : Int) (k : Int), (k = 1 ∨ k = 2) ∧ (∀ n, digN 16 0 s = some n → 18446744073709551616 ≤ n) ∧ e = .returned (.tuple #[.int .u64 x, .iface 232 (.int .i64 k)]))
theorem digV_of {c : UInt8} {v : Nat} (h : c.toNat = v) : digV 16 c = (if 48 ≤ v ∧ v ≤ 57 then some (v - 48) else if 97 ≤ v ||| 32 ∧ v ||| 32 ≤ 122 then (if (v ||| 32) - 97 + 10 < 16 then some ((v ||| 32) - 97 + 10) else none) else none) := by
  have hv : v < 256 := by rw [← h]; exact c.toNat_lt
  have := dig16 ⟨v, hv⟩
  have e : UInt8.ofNat v = c := UInt8.toNat_inj.1 (by simp [UInt8.toNat_ofNat']; omega)
  simp only at this
  rw [e] at this
  exact this
theorem or32 : ∀ k : Fin 256, bits .or .u8 (k.val : Int) 32 = ((k.val ||| 32 : Nat) : Int) ∧ k.val ||| 32 < 256 ∧ (97 ≤ k.val ||| 32 → 65 ≤ k.val) := by decide +kernel
/-- how far it has been read -/
def Rd16 (s : ByteArray) (k v : Nat) : Prop := digN 16 0 (s.data.toList.take k) = some v
theorem rd16_next {s : ByteArray} {k v d : Nat} (hk : k < s.size) (h : Rd16 s k v) (hd : digV 16 (s[k]'hk) = some d) : Rd16 s (k + 1) (v * 16 + d) := by
  have hl : k < s.data.toList.length := by rw [← Lib.size_eq]; exact hk
  unfold Rd16 at h ⊢
  rw [List.take_succ_eq_append_getElem hl, digN_snoc, h, Option.bind_some, show digV 16 s.data.toList[k] = some d from hd]; rfl
theorem rd16_bad {s : ByteArray} {k v : Nat} (hk : k < s.size) (h : Rd16 s k v) (hd : digV 16 (s[k]'hk) = none) : digN 16 0 s.data.toList = none := by
  have hl : k < s.data.toList.length := by rw [← Lib.size_eq]; exact hk
  have e : s.data.toList = s.data.toList.take k ++ s.data.toList[k] :: s.data.toList.drop (k + 1) := by
    conv => lhs; rw [← List.take_append_drop k s.data.toList, List.drop_eq_getElem_cons hl]
  unfold Rd16 at h
  rw [e, digN_split, h, Option.bind_some]
  simp only [digN]
  rw [show digV 16 s.data.toList[k] = none from hd]; rfl
theorem rd16_big {s : ByteArray} {k v d : Nat} (hk : k < s.size) (h : Rd16 s k v) (hd : digV 16 (s[k]'hk) = some d) (hb : 1152921504606846976 ≤ v) : ∀ n, digN 16 0 s.data.toList = some n → 18446744073709551616 ≤ n := by
  intro n hn
  have h2 := rd16_next hk h hd
  unfold Rd16 at h2
  rw [← List.take_append_drop (k + 1) s.data.toList, digN_split, h2, Option.bind_some] at hn
  have := digN_mono 16 (by decide) _ _ _ hn
  omega
theorem hexP_syn {s : Row} (h : digN 16 0 s = none) : HexP s (.returned (.tuple #[.int .u64 0, .iface 232 (.int .i64 2)])) := .inr ⟨0, 2, .inr rfl, fun n hn => (by rw [h] at hn; cases hn), rfl⟩
theorem hexP_rng {s : Row} (h : ∀ n, digN 16 0 s = some n → 18446744073709551616 ≤ n) : HexP s (.returned (.tuple #[.int .u64 18446744073709551615, .iface 232 (.int .i64 1)])) := .inr ⟨18446744073709551615, 1, .inl rfl, h, rfl⟩

set_option maxHeartbeats 4000000 in
set_option maxRecDepth 100000 in
theorem hex_any (s : ByteArray) (w : World) (h0 : 0 < s.size) (hs : s.size ≤ 65536) :
    Calls Tryz.prog 168 #[.string s, .int .i64 16, .int .i64 64] w fun e w' => HexP s.data.toList e ∧ Below w.heap.size w w' := by
  obtain ⟨cap, C, hconv, hC, hCs⟩ := Ch.bytes_new w s
  obtain ⟨W1, hW1⟩ : ∃ W1, (w.alloc (.cells C 5 (C.size, C.size + 1))).drew = W1 := ⟨_, rfl⟩
  have hst := Lib.hid (Ch.rowF_start Ch.lowB s w C 5 hC hCs)
  rw [hW1] at hst
  have hbl : Hid (Below w.heap.size w W1) := Lib.hid (by rw [← hW1]; exact ((Below.refl _ _).alloc (Nat.le_refl _) _).drew)
  have hcell : Hid (∀ k (hk : k < s.size), W1.cell? ⟨w.heap.size, k, none⟩ = some (.int .u8 ((s[k]'hk).toNat : Int))) := Lib.hid fun k hk => by
    have := (hst.out.2.2 k hk).1
    rw [if_neg (Nat.not_lt_zero k), Ch.rest_at s k hk] at this
    exact this
  have hne : ¬ s = ByteArray.empty := fun e => by rw [e] at h0; exact absurd h0 (by decide)
  have hnl : ¬ s.toList = [] := fun e => hne (by
    rw [Lib.toList_data] at e
    exact data_is (by rw [e]; rfl))
  have hie : s.toList.isEmpty = false := by
    cases hv : s.toList with
    | nil => exact absurd hv hnl
    | cons y t => rfl
  have hmx : IntKind.u64.wrap (IntKind.u64.wrap 18446744073709551616 - 1) = 18446744073709551615 := by decide
  obtain ⟨N, hN⟩ : ∃ N, s.size = N := ⟨_, rfl⟩
  have hN' := Lib.hid hN
  rw [hN] at hconv h0 hs
  clear hC hCs hN hst
  go_enter Tryz.func168, Tryz.ntmps168
  go_wp2
  go_loopw [12, 13, 101] (fun s12 s13 s101 wr => ∃ (k v : Nat) (a : Int), s12 = .bool false ∧ s101 = .int .i64 (k : Int) ∧ s13 = .int .u64 a ∧ k ≤ N ∧ Hid (a = (v : Int) ∧ v < 18446744073709551616 ∧ Rd16 s k v) ∧ wr = W1) (fun s12 s13 s101 wr => N - (RowKit.intOf s101).toNat)
  case atStart => exact ⟨0, 0, 0, rfl, rfl, rfl, Nat.zero_le _, Lib.hid ⟨rfl, by decide, rfl⟩, rfl⟩
  case round =>
    obtain ⟨k, v, a, rfl, rfl, rfl, hk, hrd, rfl⟩ := hrel
    obtain ⟨hav, hv, hrd⟩ := hrd.out
    have a0 : (0 : Int) ≤ a := by omega
    have a1 : a < 18446744073709551616 := by omega
    by_cases hlt : k < N
    · have hks : k < s.size := by rw [hN'.out]; exact hlt
      have g1 := hcell.out k hks
      have hxl := (s[k]'hks).toNat_lt
      obtain ⟨x, hx⟩ : ∃ x, (s[k]'hks).toNat = x := ⟨_, rfl⟩
      have hdig := digV_of hx
      have hor := or32 ⟨x, by rw [← hx]; exact hxl⟩
      rw [hx] at g1 hxl
      simp only at hor
      obtain ⟨L, hL⟩ : ∃ L, x ||| 32 = L := ⟨_, rfl⟩
      rw [hL] at hdig hor
      have cL := fun W => Tryz.internal_strconv_lower (x : Int) W
      rw [hor.1] at cL
      have hLb := hor.2.1
      have hLx := hor.2.2
      clear hor
      by_cases hA : 48 ≤ x ∧ x ≤ 57
      · obtain ⟨b1, b2⟩ := hA
        obtain ⟨d, hdx⟩ : ∃ d, x - 48 = d := ⟨_, rfl⟩
        have hd : digV 16 (s[k]'hks) = some d := by rw [hdig, if_pos ⟨b1, b2⟩, hdx]
        obtain ⟨dz, hdz⟩ : ∃ dz : Int, (x : Int) - 48 = dz := ⟨_, rfl⟩
        have r2 : IntKind.u8.wrap dz = dz := IntWalk.u8_in _ (by omega)
        have r3 : ((x : Int) == 95) = false := by simp; omega
        have hdd : dz = (d : Int) := by omega
        clear cL hL hLb
        have z0 : (0 : Int) ≤ dz := by omega
        have z1 : dz ≤ 15 := by omega
        have z2 : ¬ (16 : Int) ≤ dz := by omega
        have q5 : IntKind.u64.wrap dz = dz := IntWalk.u64_in _ (by omega)
        by_cases hbig : 1152921504606846976 ≤ v
        · have hfin := Lib.hid (hexP_rng (rd16_big hks hrd hd hbig))
          have icut : (1152921504606846976 : Int) ≤ a := by omega
          clear hd hdig hrd hx hbig hv hav hdd
          go_wp2
          go_ret2
          exact ⟨hfin.out, hbl.out⟩
        · have hnx := Lib.hid (rd16_next hks hrd hd)
          obtain ⟨Q, hQ⟩ : ∃ Q : Int, a * 16 = Q := ⟨_, rfl⟩
          obtain ⟨M, hM⟩ : ∃ M : Int, Q + dz = M := ⟨_, rfl⟩
          have q2 : IntKind.u64.wrap Q = Q := IntWalk.u64_in _ (by omega)
          have q4 : IntKind.u64.wrap M = M := IntWalk.u64_in _ (by omega)
          have q6 : ¬ M < Q := by omega
          have q7 : ¬ (18446744073709551615 : Int) < M := by omega
          have icut : ¬ (1152921504606846976 : Int) ≤ a := by omega
          have hM' : Hid (M = ((v * 16 + d : Nat) : Int) ∧ v * 16 + d < 18446744073709551616) := Lib.hid ⟨by omega, by omega⟩
          clear hd hdig hrd hx hbig hv hav hdd
          go_wp2
          go_roundw
          case rel => exact ⟨k + 1, v * 16 + d, M, rfl, by go_num, by first | rfl | (congr 1; omega), by omega, Lib.hid ⟨hM'.out.1, hM'.out.2, hnx.out⟩, by first | rfl | trivial⟩
          case measure => simp [RowKit.intOf]; omega
      · have hdig2 := hdig
        rw [if_neg hA] at hdig2
        by_cases hB : 97 ≤ L ∧ L ≤ 122
        · obtain ⟨c1, c2⟩ := hB
          rw [if_pos ⟨c1, c2⟩] at hdig2
          have h95 : x ≠ 95 := fun e => by
            subst e
            have : (95 : Nat) ||| 32 = 127 := by decide
            omega
          have r3 : ((x : Int) == 95) = false := by simp; omega
          obtain ⟨d, hdx⟩ : ∃ d, L - 97 + 10 = d := ⟨_, rfl⟩
          rw [hdx] at hdig2
          obtain ⟨y, hy⟩ : ∃ y : Int, (L : Int) - 97 = y := ⟨_, rfl⟩
          have r2 : IntKind.u8.wrap y = y := IntWalk.u8_in _ (by omega)
          obtain ⟨dz, hdz⟩ : ∃ dz : Int, y + 10 = dz := ⟨_, rfl⟩
          have r5 : IntKind.u8.wrap dz = dz := IntWalk.u8_in _ (by omega)
          have hA1 : ¬ ((48 : Int) ≤ (x : Int) ∧ (x : Int) ≤ 57) := by omega
          by_cases h16 : d < 16
          · rw [if_pos h16] at hdig2
            have hd := hdig2
            have hdd : dz = (d : Int) := by omega
            clear hL hdig2
            have hx57 : 57 < x := by have := hLx c1; omega
            have hx48 : 48 ≤ x := by omega
            have z0 : (0 : Int) ≤ dz := by omega
            have z1 : dz ≤ 15 := by omega
            have z2 : ¬ (16 : Int) ≤ dz := by omega
            have q5 : IntKind.u64.wrap dz = dz := IntWalk.u64_in _ (by omega)
            by_cases hbig : 1152921504606846976 ≤ v
            · have hfin := Lib.hid (hexP_rng (rd16_big hks hrd hd hbig))
              have icut : (1152921504606846976 : Int) ≤ a := by omega
              clear hd hdig hrd hx hbig hv hav hdd
              go_wp2_with (go_at_call 177; refine (cL _).mono ?_; rintro e wq ⟨rfl, rfl⟩)
              go_ret2
              exact ⟨hfin.out, hbl.out⟩
            · have hnx := Lib.hid (rd16_next hks hrd hd)
              obtain ⟨Q, hQ⟩ : ∃ Q : Int, a * 16 = Q := ⟨_, rfl⟩
              obtain ⟨M, hM⟩ : ∃ M : Int, Q + dz = M := ⟨_, rfl⟩
              have q2 : IntKind.u64.wrap Q = Q := IntWalk.u64_in _ (by omega)
              have q4 : IntKind.u64.wrap M = M := IntWalk.u64_in _ (by omega)
              have q6 : ¬ M < Q := by omega
              have q7 : ¬ (18446744073709551615 : Int) < M := by omega
              have icut : ¬ (1152921504606846976 : Int) ≤ a := by omega
              have hM' : Hid (M = ((v * 16 + d : Nat) : Int) ∧ v * 16 + d < 18446744073709551616) := Lib.hid ⟨by omega, by omega⟩
              clear hd hdig hrd hx hbig hv hav hdd
              go_wp2_with (go_at_call 177; refine (cL _).mono ?_; rintro e wq ⟨rfl, rfl⟩)
              go_roundw
              case rel => exact ⟨k + 1, v * 16 + d, M, rfl, by go_num, by first | rfl | (congr 1; omega), by omega, Lib.hid ⟨hM'.out.1, hM'.out.2, hnx.out⟩, by first | rfl | trivial⟩
              case measure => simp [RowKit.intOf]; omega
          · rw [if_neg h16] at hdig2
            have z2 : (16 : Int) ≤ dz := by omega
            have hfin := Lib.hid (hexP_syn (rd16_bad hks hrd hdig2))
            have hx57 : 57 < x := by have := hLx c1; omega
            have hx48 : 48 ≤ x := by omega
            clear hdig2 hdig hrd hx hv hav hL
            go_wp2_with (go_at_call 177; refine (cL _).mono ?_; rintro e wq ⟨rfl, rfl⟩)
            go_ret2
            exact ⟨hfin.out, hbl.out⟩
        · rw [if_neg hB] at hdig2
          have hfin := Lib.hid (hexP_syn (rd16_bad hks hrd hdig2))
          by_cases h95 : x = 95
          · have cL2 : ∀ W, Calls Tryz.prog 177 #[.int .u8 95] W fun e w' => e = .returned (.int .u8 127) ∧ w' = W := fun W => by
              have := Tryz.internal_strconv_lower 95 W
              rw [show bits .or .u8 95 32 = 127 by decide] at this
              exact this
            subst h95
            clear hdig2 hdig hrd hx hv hav hL cL
            go_wp2_with (go_at_call 177; refine (cL2 _).mono ?_; rintro e wq ⟨rfl, rfl⟩)
            all_goals (go_ret2; exact ⟨hfin.out, hbl.out⟩)
          · have r3 : ((x : Int) == 95) = false := by simp; omega
            have hLB : L < 97 ∨ 122 < L := by omega
            have hXA : x < 48 ∨ 57 < x := by omega
            clear hdig2 hdig hrd hx hv hav hL hA hB
            rcases hXA with hXA | hXA <;> rcases hLB with hLB | hLB
            all_goals
              go_wp2_with (go_at_call 177; refine (cL _).mono ?_; rintro e wq ⟨rfl, rfl⟩)
              all_goals (go_ret2; exact ⟨hfin.out, hbl.out⟩)
    · have hkN : k = N := by omega
      subst hkN
      have hfin := Lib.hid (show HexP s.data.toList (.returned (.tuple #[.int .u64 a, .nilIface])) from .inl ⟨v, by
        have := hrd
        unfold Rd16 at this
        rw [List.take_of_length_le (by rw [← Lib.size_eq, hN'.out]; exact Nat.le_refl _)] at this
        exact this, hv, by rw [hav]⟩)
      clear hrd hv hav
      go_wp2
      go_ret2
      exact ⟨hfin.out, hbl.out⟩
end Go.Proofs.YtmmpojhjpghdlaaGreatDoor.Xm

/-
  WALKS OF THE PROGRAM's LAYER xml: begins, goesOn, nameEnd, isName.
-/
set_option linter.unusedVariables false
namespace Go.Proofs.YtmmpojhjpghdlaaGreatDoor.Xm
open Go.Lib Go.RowKit

set_option maxHeartbeats 2000000 in
set_option maxRecDepth 100000 in
theorem begins_any (b : UInt8) (w : World) : Calls Tryz.prog 142 #[.int .u8 (b.toNat : Int)] w fun e w' => e = .returned (.bool (ftB b)) ∧ w' = w := by
  have H := ft_of b b.toNat rfl
  generalize ftB b = R at H ⊢
  generalize b.toNat = v at H ⊢
  go_enter Tryz.func142, Tryz.ntmps142
  go_wp2
  all_goals
    go_ret
    exact ⟨ret_bool (H.out _ (by first | omega | (simp; omega))), rfl⟩
def goB (c : UInt8) : Bool := decide (48 ≤ c.toNat ∧ c.toNat ≤ 57 ∨ c.toNat = 45 ∨ c.toNat = 46)
theorem nx_go (c : UInt8) : nxB c = (ftB c || goB c) := rfl
theorem go_of (b : UInt8) (v : Nat) (h : b.toNat = v) : Hid (∀ r : Bool, (r = true ↔ ((48 ≤ v ∧ v ≤ 57) ∨ v = 45 ∨ v = 46)) → r = goB b) := Lib.hid fun r hr => by
  unfold goB
  rw [h, Bool.eq_iff_iff, hr, decide_eq_true_iff]
set_option maxHeartbeats 2000000 in
set_option maxRecDepth 100000 in
theorem goesOn_any (b : UInt8) (w : World) : Calls Tryz.prog 152 #[.int .u8 (b.toNat : Int)] w fun e w' => e = .returned (.bool (goB b)) ∧ w' = w := by
  have H := go_of b b.toNat rfl
  generalize goB b = R at H ⊢
  generalize b.toNat = v at H ⊢
  go_enter Tryz.func152, Tryz.ntmps152
  go_wp2
  all_goals
    go_ret
    exact ⟨ret_bool (H.out _ (by first | omega | (simp; omega))), rfl⟩

def nEnd (t : Row) : Nat := (t.takeWhile nxB).length
theorem nEnd_le (t : Row) : nEnd t ≤ t.length := (List.takeWhile_sublist nxB).length_le
set_option maxHeartbeats 2000000 in
set_option maxRecDepth 100000 in
theorem nameEnd_any (s : ByteArray) (w : World) (hs : s.size ≤ 9223372036854775807) : Calls Tryz.prog 136 #[.string s] w fun e w' => e = .returned (.int .i64 (nEnd s.data.toList : Int)) ∧ w' = w := by
  unfold nEnd
  obtain ⟨N, hN⟩ : ∃ N, (s.data.toList.takeWhile nxB).length = N := ⟨_, rfl⟩
  rw [hN]
  have h0 : Hid (N = 0 + ((s.data.toList.drop 0).takeWhile nxB).length) := Lib.hid (by rw [List.drop_zero]; omega)
  clear hN
  go_enter Tryz.func136, Tryz.ntmps136
  go_wp2
  go_loopw [3] (fun s5 wr => ∃ k : Nat, s5 = .int .i64 (k : Int) ∧ k ≤ s.size ∧ N = k + ((s.data.toList.drop k).takeWhile nxB).length ∧ wr = w) (fun s5 wr => s.size - (RowKit.intOf s5).toNat)
  case atStart => exact ⟨0, rfl, Nat.zero_le _, h0.out, rfl⟩
  case round =>
    obtain ⟨k, rfl, hk, hall, rfl⟩ := hrel
    by_cases hlt : k < s.size
    · have hst2 := nl_step (n := N) hlt
      have hsp2 := nl_stop (n := N) hlt
      obtain ⟨c, hc⟩ : ∃ c, s[k]'hlt = c := ⟨_, rfl⟩
      rw [hc] at hst2 hsp2
      have cF := begins_any c wr
      have cG := goesOn_any c wr
      cases hf : ftB c with
      | true =>
        have hn := Lib.hid (hst2 (ft_nx hf) hall)
        rw [hf] at cF
        clear hst2 hsp2 hf hall cG
        go_wp2_with fail
        go_at_call 142
        with_reducible refine cF.mono ?_
        rintro e w4 ⟨rfl, rfl⟩
        go_wp2
        go_roundw
        case rel => exact ⟨k + 1, by go_num, by omega, hn.out, trivial⟩
        case measure => simp [RowKit.intOf]; omega
      | false =>
        rw [hf] at cF
        cases hx : goB c with
        | true =>
          have hn := Lib.hid (hst2 (by rw [nx_go, hx, Bool.or_true]) hall)
          rw [hx] at cG
          clear hst2 hsp2 hf hall hx
          go_wp2_with fail
          go_at_call 142
          with_reducible refine cF.mono ?_
          rintro e w4 ⟨rfl, rfl⟩
          go_wp2_with fail
          go_at_call 152
          with_reducible refine cG.mono ?_
          rintro e w4 ⟨rfl, rfl⟩
          go_wp2
          go_roundw
          case rel => exact ⟨k + 1, by go_num, by omega, hn.out, trivial⟩
          case measure => simp [RowKit.intOf]; omega
        | false =>
          have hn : N = k := hsp2 (by rw [nx_go, hf, hx]; rfl) hall
          rw [hx] at cG
          subst hn
          clear hst2 hsp2 hf hall hx
          go_wp2_with fail
          go_at_call 142
          with_reducible refine cF.mono ?_
          rintro e w4 ⟨rfl, rfl⟩
          go_wp2_with fail
          go_at_call 152
          with_reducible refine cG.mono ?_
          rintro e w4 ⟨rfl, rfl⟩
          go_wp2
          go_ret
          exact ⟨rfl, rfl⟩
    · have hn : N = k := nl_end (by omega) hall
      have hk2 : k = s.size := by omega
      subst hn
      clear hall
      go_wp2
      go_ret
      exact ⟨by rw [hk2]; rfl, rfl⟩

theorem nameB_parts (c : UInt8) (r : Row) : nameB (c :: r) = (decide ((c :: r).length ≤ 64) && (ftB c && decide (nEnd (c :: r) = (c :: r).length))) := by
  show (ftB c && r.all nxB && decide (r.length < 64)) = _
  cases hf : ftB c with
  | false => simp
  | true =>
    have e1 : (decide (r.length < 64)) = decide ((c :: r).length ≤ 64) := by
      rw [List.length_cons]; exact decide_eq_decide.2 (by omega)
    have e2 : r.all nxB = decide (nEnd (c :: r) = (c :: r).length) := by
      unfold nEnd
      rw [List.takeWhile_cons, if_pos (ft_nx hf), List.length_cons, List.length_cons, Bool.eq_iff_iff, decide_eq_true_iff]
      constructor
      · intro h
        have := takeWhile_front r [] h (fun x hx => by cases hx)
        rw [List.append_nil] at this
        rw [this]
      · intro h
        have e : r.takeWhile nxB = r := (List.takeWhile_sublist nxB).eq_of_length (by omega)
        have := List.all_takeWhile (p := nxB) (l := r)
        rwa [e] at this
    rw [e1, e2, Bool.true_and]
    exact Bool.and_comm _ _
set_option maxHeartbeats 2000000 in
set_option maxRecDepth 100000 in
theorem isName_any (s : ByteArray) (w : World) (hs : s.size ≤ 9223372036854775807) : Calls Tryz.prog 125 #[.string s] w fun e w' => e = .returned (.bool (nameB s.data.toList)) ∧ w' = w := by
  obtain ⟨R, hR⟩ : ∃ R, nameB s.data.toList = R := ⟨_, rfl⟩
  rw [hR]
  by_cases h0 : 0 < s.size
  · obtain ⟨c, hc⟩ : ∃ c, s[0]'h0 = c := ⟨_, rfl⟩
    have hcons : s.data.toList = c :: s.data.toList.drop 1 := by
      have := drop_head s 0 h0
      rw [List.drop_zero, hc] at this
      exact this
    have hR2 : (decide (s.size ≤ 64) && (ftB c && decide (nEnd s.data.toList = s.size))) = R := by
      have := nameB_parts c (s.data.toList.drop 1)
      rw [← hcons, hR, ← Lib.size_eq] at this
      exact this.symm
    have hne : ¬ s = ByteArray.empty := fun e => by rw [e] at h0; exact absurd h0 (by decide)
    have hnl : ¬ s.toList = [] := by rw [Lib.toList_data, hcons]; simp
    have hie : Hid (s.toList.isEmpty = false) := Lib.hid (by rw [Lib.toList_data, hcons]; rfl)
    have cF := begins_any c w
    have cN := nameEnd_any s w hs
    obtain ⟨N, hN⟩ : ∃ N, nEnd s.data.toList = N := ⟨_, rfl⟩
    rw [hN] at cN hR2
    clear hcons hR hN
    by_cases h64 : s.size ≤ 64
    · rw [decide_eq_true h64, Bool.true_and] at hR2
      cases hf : ftB c with
      | false =>
        rw [hf, Bool.false_and] at hR2
        subst hR2
        rw [hf] at cF
        clear hf cN
        go_enter Tryz.func125, Tryz.ntmps125
        go_wp2_with fail
        go_at_call 142
        with_reducible refine cF.mono ?_
        rintro e w4 ⟨rfl, rfl⟩
        go_wp2
        go_ret
        exact ⟨rfl, rfl⟩
      | true =>
        rw [hf, Bool.true_and] at hR2
        rw [hf] at cF
        have hR3 := Lib.hid hR2
        clear hf hR2
        go_enter Tryz.func125, Tryz.ntmps125
        go_wp2_with fail
        go_at_call 142
        with_reducible refine cF.mono ?_
        rintro e w4 ⟨rfl, rfl⟩
        go_wp2_with fail
        go_at_call 136
        with_reducible refine cN.mono ?_
        rintro e w4 ⟨rfl, rfl⟩
        go_wp2
        go_ret
        refine ⟨ret_bool ?_, rfl⟩
        rw [← hR3.out, Bool.eq_iff_iff]
        simp only [Bool.and_eq_true, decide_eq_true_eq, beq_iff_eq, Bool.not_eq_eq_eq_not, hie.out]
        constructor
        · rintro ⟨_, h⟩; omega
        · intro h; exact ⟨rfl, by omega⟩
    · rw [decide_eq_false h64, Bool.false_and] at hR2
      subst hR2
      clear cF cN
      go_enter Tryz.func125, Tryz.ntmps125
      go_wp2
      go_ret
      exact ⟨rfl, rfl⟩
  · have hnil : s.data.toList = [] := List.eq_nil_of_length_eq_zero (by rw [← Lib.size_eq]; omega)
    have hRf : R = false := by rw [← hR, hnil]; rfl
    have hnl : s.toList = [] := by rw [Lib.toList_data, hnil]
    subst hRf
    clear hR hnil
    go_enter Tryz.func125, Tryz.ntmps125
    go_wp2
    go_ret
    exact ⟨rfl, rfl⟩
end Go.Proofs.YtmmpojhjpghdlaaGreatDoor.Xm

/-
  WALKS OF THE PROGRAM's READER OF LAYER xml: giveUp, take, need, until, blanks.
-/
set_option linter.unusedVariables false
namespace Go.Proofs.YtmmpojhjpghdlaaGreatDoor.Xm
open Go.Lib Go.RowKit

/-- how a reader ends that gives up -/
def gone : Ending := .panicked [{ v := .iface 119 (.int .i64 70), recovered := false }]
set_option maxHeartbeats 1000000 in
set_option maxRecDepth 100000 in
theorem giveUp_any (w : World) : Calls Tryz.prog 72 #[] w fun e w' => e = gone ∧ w' = w := by
  unfold gone
  go_enter Tryz.func72, Tryz.ntmps72
  go_wp2
  exact ⟨rfl, rfl, rfl⟩

/-- the reader in a call: behind w0 -/
structure Bef (w0 : World) (b : Nat) (r : ByteArray) (l : Row) (ps : Pq) (w : World) : Prop where
  bel : Below w0.heap.size w0 w
  rd : Rd w0.heap.size b r l ps w
theorem Bef.kept {w0 w w' : World} {b : Nat} {r : ByteArray} {l : Row} {ps : Pq} (h : Bef w0 b r l ps w) (hb : Below w.heap.size w w') : Bef w0 b r l ps w' :=
  ⟨h.bel.trans (hb.mono h.bel.size), h.rd.kept hb⟩
theorem Bef.cell {w0 w : World} {b : Nat} {r : ByteArray} {l : Row} {ps : Pq} (h : Bef w0 b r l ps w) : w.cell? ⟨b, 0, none⟩ = some (.string r) ∧ w.frozen? ⟨b, 0, none⟩ = false := by
  obtain ⟨_, p, v, h⟩ := h
  exact ⟨h.cell.1, h.free 0⟩
/-- what isn't read yet is put -/
theorem Bef.put {w0 w : World} {b : Nat} {r : ByteArray} {l : Row} {ps : Pq} (h : Bef w0 b r l ps w) (r' : ByteArray) : Bef w0 b r' l ps (w.setCell ⟨b, 0, none⟩ (.string r')) ∧ KeptR w (w.setCell ⟨b, 0, none⟩ (.string r')) := by
  obtain ⟨hb, p, v, h⟩ := h
  exact ⟨⟨hb.setCell (p := ⟨b, 0, none⟩) h.hB _, p, v, h.rest r'⟩, KeptR.setCell h.at0 0 _⟩

/-- what take answers -/
def TakeP (w0 : World) (b : Nat) (r s : ByteArray) (l : Row) (ps : Pq) (e : Ending) (w' : World) : Prop :=
  (∃ r' : ByteArray, r.data.toList = s.data.toList ++ r'.data.toList ∧ e = .returned (.bool true) ∧ Bef w0 b r' l ps w') ∨ (s.data.toList.isPrefixOf r.data.toList = false ∧ e = .returned (.bool false) ∧ Bef w0 b r l ps w')
set_option maxHeartbeats 1000000 in
set_option maxRecDepth 100000 in
theorem take_any {w0 w : World} {b : Nat} {r : ByteArray} {l : Row} {ps : Pq} (h : Bef w0 b r l ps w) (s : ByteArray) :
    Calls Tryz.prog 68 #[.pointer (some ⟨b, 0, none⟩), .string s] w fun e w' => TakeP w0 b r s l ps e w' ∧ KeptR w w' := by
  obtain ⟨c0, f0⟩ := h.cell
  have hp := fun x => Lib.hid (h.put x)
  clear h
  have cP := fun W => pre_any r s W
  go_enter Tryz.func68, Tryz.ntmps68
  go_wp2_with fail
  go_at_call 95
  with_reducible refine (cP _).mono ?_
  rintro e w4 ⟨hq, rfl⟩
  clear cP
  rcases hq with ⟨hn, rfl⟩ | ⟨r', hy, rfl⟩
  · have hp1 := hp r
    have hn' := Lib.hid hn
    clear hp hn
    go_wp2
    go_ret
    exact ⟨.inr ⟨hn'.out, rfl, hp1.out.1⟩, hp1.out.2⟩
  · have hp1 := hp r'
    have hy' := Lib.hid hy
    clear hp hy
    go_wp2
    go_ret
    exact ⟨.inl ⟨r', hy'.out, rfl, hp1.out.1⟩, hp1.out.2⟩
/-- what need answers -/
def NeedP (w0 : World) (b : Nat) (r s : ByteArray) (l : Row) (ps : Pq) (e : Ending) (w' : World) : Prop :=
  (∃ r' : ByteArray, r.data.toList = s.data.toList ++ r'.data.toList ∧ e = .returned (.tuple #[]) ∧ Bef w0 b r' l ps w') ∨ (s.data.toList.isPrefixOf r.data.toList = false ∧ e = gone ∧ Below w0.heap.size w0 w')
set_option maxHeartbeats 1000000 in
set_option maxRecDepth 100000 in
theorem need_any {w0 w : World} {b : Nat} {r : ByteArray} {l : Row} {ps : Pq} (h : Bef w0 b r l ps w) (s : ByteArray) :
    Calls Tryz.prog 99 #[.pointer (some ⟨b, 0, none⟩), .string s] w fun e w' => NeedP w0 b r s l ps e w' ∧ KeptR w w' := by
  have cT := take_any h s
  clear h
  go_enter Tryz.func99, Tryz.ntmps99
  go_wp2_with fail
  go_at_call 68
  with_reducible refine cT.mono ?_
  rintro e w4 ⟨hq, hk⟩
  clear cT
  have hk' := Lib.hid hk
  clear hk
  rcases hq with ⟨r', hy, rfl, hb⟩ | ⟨hn, rfl, hb⟩
  · have hy' := Lib.hid hy
    have hb' := Lib.hid hb
    clear hy hb
    go_wp2
    go_end0
    exact ⟨.inl ⟨r', hy'.out, rfl, hb'.out⟩, hk'.out⟩
  · have hn' := Lib.hid hn
    have hb' := Lib.hid hb
    clear hn hb
    have cG := giveUp_any w4
    unfold gone at cG
    go_wp2_with fail
    go_at_call 72
    with_reducible refine cG.mono ?_
    rintro e w5 ⟨rfl, rfl⟩
    go_wp2
    exact ⟨rfl, .inr ⟨hn'.out, rfl, hb'.out.bel⟩, hk'.out⟩
end Go.Proofs.YtmmpojhjpghdlaaGreatDoor.Xm
