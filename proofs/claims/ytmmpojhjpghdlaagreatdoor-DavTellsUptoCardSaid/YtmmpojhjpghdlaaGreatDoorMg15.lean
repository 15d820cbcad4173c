import Derived.Test.YtmmpojhjpghdlaaGreatDoorMg7
import Derived.Test.YtmmpojhjpghdlaaGreatDoorMg9
import Derived.Test.YtmmpojhjpghdlaaGreatDoorMg14
import Derived.Test.YtmmpojhjpghdlaaGreatDoorMg5

/-
  THE REFERENCE's Pieces (layer dav; written by tools/genrefpcs.py): a Told as pieces, and whether it is good.
-/
set_option linter.unusedVariables false
namespace Go.Proofs.YtmmpojhjpghdlaaGreatDoor.Dv
open Go.Lib Go.RowKit
open Xm (Row Pc sv PsOwn PcsAt append_piece below_then sv_some sv_str left_of)
open T5 (tdB)

theorem PsOwn.shape {B : Nat} {v : Value} {ps : List Pc} {w : World} (h : PsOwn B v ps w) : ∃ A n c, v = .slice A n c := by
  obtain ⟨A, c, e⟩ := Xm.ownsRow_form h
  exact ⟨A, _, c, e⟩
theorem PsOwn.fewer {B B' : Nat} {v : Value} {ps : List Pc} {w : World} (h : PsOwn B v ps w) (hb : B' ≤ B) : PsOwn B' v ps w := Xm.ownsRow_less h hb
theorem ps_bl {B : Nat} {v : Value} {ps : List Pc} {w : World} (h : PsOwn B v ps w) : ∀ g, v.ownBlock = some g → B ≤ g ∧ g < w.heap.size := World.ownsRow.lt h
theorem all_take {is : List It} {k : Nat} {i : It} (h : is[k]? = some i) : (is.take (k + 1)).all goodI = ((is.take k).all goodI && goodI i) := by
  obtain ⟨hl, hv⟩ := List.getElem?_eq_some_iff.1 h
  rw [List.take_succ_eq_append_getElem hl, List.all_append, hv]; simp
theorem pcI_len (i : It) : (pcI i).length ≤ 100 := by
  unfold pcI pcS pcP opt bookP full el
  split <;> (simp only [List.length_cons, List.length_append, List.length_nil]) <;> (repeat' split) <;> simp
theorem pcs_len : ∀ (is : List It), (pcs is).length ≤ 100 * is.length
  | [] => Nat.le_refl _
  | i :: is => by
    have h1 := pcs_len is
    have h2 := pcI_len i
    have e : pcs (i :: is) = pcI i ++ pcs is := rfl
    rw [e, List.length_append, List.length_cons]; omega
/-- one row more behind a row that grows: what is left below -/
theorem grew {w0 w w' : World} {B : Nat} {v : Value} {ps : List Pc} (hb : Below B w0 w) (hown : PsOwn B v ps w) (hg : w.grownBy w' v.ownBlock) (hB : B ≤ w.heap.size) : Below B w0 w' := hb.grown hg hB (fun g h => (ps_bl hown g h).1)

section
variable {x0 x2 x3 : ByteArray} {b1 b4 : Bool}
theorem goodC (x0 x2 x3 : ByteArray) (b1 b4 : Bool) : goodI ⟨x0.data.toList, b1, x2.data.toList, x3.data.toList, b4⟩ = (!x0.data.toList.isEmpty && (txt x0.data.toList && (txt x2.data.toList && (txt x3.data.toList && !(b1 && (!x2.data.toList.isEmpty || (!x3.data.toList.isEmpty || b4))))))) := rfl
end
theorem empN (x : ByteArray) : (x.data.toList.isEmpty = true ∧ x.size = 0) ∨ (x.data.toList.isEmpty = false ∧ 0 < x.size) := by
  rw [Lib.size_eq]
  cases x.data.toList with
  | nil => exact .inl ⟨rfl, rfl⟩
  | cons => exact .inr ⟨rfl, by simp⟩
theorem optE0 {s : Int} {n : Row} {x : ByteArray} (h : x.size = 0) : opt s n x.data.toList = [] := by
  have : x.data.toList = [] := List.eq_nil_of_length_eq_zero (by rw [← Lib.size_eq]; exact h)
  unfold opt; rw [if_pos this]
theorem optE1 {s : Int} {n : Row} {x : ByteArray} (h : 0 < x.size) : opt s n x.data.toList = full s n x.data.toList := by
  unfold opt
  rw [if_neg (fun e => by rw [Lib.size_eq, e] at h; simp at h)]
def mostN : Nat := 9223372036854775807
/-- the sizes of an item's texts -/
def SzI (i : It) : Prop := i.href.length ≤ mostN ∧ i.tag.length ≤ mostN ∧ i.data.length ≤ mostN
set_option maxHeartbeats 32000000 in
set_option maxRecDepth 100000 in
theorem refPieces_any (v : Value) (t : Td) (w : World) (ht : ToldAt w.heap.size w v t) (hn : t.items.length ≤ 1000) (hsi : ∀ i ∈ t.items, SzI i) (hst : t.token.length ≤ mostN) :
    Calls Tryz.prog 11 #[v] w fun e w' => (∃ pv, e = .returned (.tuple #[pv, .bool (goodT t)]) ∧ PcsAt w' pv (pcT t)) ∧ Below w.heap.size w w' := by
  obtain ⟨iv, rfl, hi⟩ := ht
  obtain ⟨is, tk⟩ := t
  simp only at hi hn hsi hst ⊢
  obtain ⟨x, ex, dx⟩ := sv_some tk
  rw [ex]
  subst dx
  have hxs : x.size ≤ 9223372036854775807 := by rw [Lib.size_eq]; exact hst
  obtain ⟨A, k0, ei⟩ := hi.form
  obtain ⟨N, hN⟩ : ∃ N, is.length = N := ⟨_, rfl⟩
  rw [hN] at ei hn
  subst ei
  obtain ⟨Z, hZ⟩ : ∃ Z, w.heap.size = Z := ⟨_, rfl⟩
  obtain ⟨wB, hwB⟩ : ∃ wB, w.alloc (.cells #[.slice A N k0, .string x] 41) = wB := ⟨_, rfl⟩
  have hbB : Below Z w wB := by rw [← hwB, ← hZ]; exact (Below.refl _ _).alloc (Nat.le_refl _) _
  have hkB : wB.heap[Z]? = some (tdB (.slice A N k0) x) := by rw [← hwB, ← hZ]; exact heap_alloc_new w _
  obtain ⟨R, hR⟩ : ∃ R, goodT ⟨is, x.data.toList⟩ = R := ⟨_, rfl⟩
  rw [hR]
  have hR' := Lib.hid (show (txt x.data.toList && is.all goodI) = R from hR)
  have hN' := Lib.hid hN
  have hsi' := Lib.hid hsi
  have hat := Lib.hid (fun wr (h : Below Z w wr) => hi.same (w' := wr) h.size (fun k hk _ => h.block k (by rw [← hZ]; exact hk)))
  have hkB' := Lib.hid (show ∀ wr, Below wB.heap.size wB wr → wr.heap[Z]? = some (tdB (.slice A N k0) x) from fun wr h => blk_at hkB h)
  have cT := text_any x wB hxs
  obtain ⟨T, hT⟩ : ∃ T, txt x.data.toList = T := ⟨_, rfl⟩
  rw [hT] at cT hR'
  obtain ⟨y0, y1, _, _, yz⟩ := toldC hkB
  have hbB' := Lib.hid hbB
  have hZ' := Lib.hid hZ
  have hsB := Lib.hid (show wB.heap.size = Z + 1 by rw [← hwB, ← hZ]; simp)
  clear hR hN hsi hi hbB hT hkB ex hst
  go_enter Tryz.func11, Tryz.ntmps11
  go_wp2_with fail
  go_at_call 27
  with_reducible refine cT.mono ?_
  rintro e w1 ⟨rfl, hw1⟩
  subst hw1
  clear cT
  go_wp2
  go_loopw [4, 5, 17] (fun s4 s5 s17 wr => ∃ k : Nat, s17 = .int .i64 (k : Int) ∧ k ≤ N ∧ s5 = .bool (T && (is.take k).all goodI) ∧ Hid (PsOwn (Z + 1) s4 (pcs (is.take k)) wr) ∧ Hid (Below (Z + 1) w1 wr)) (fun s4 s5 s17 wr => N - (RowKit.intOf s17).toNat)
  case atStart => exact ⟨0, rfl, Nat.zero_le _, by simp, Lib.hid (PsOwn.nil _ _), Lib.hid (Below.refl _ _)⟩
  case round =>
    clear y0 y1 yz
    obtain ⟨k, rfl, hk, rfl, hown, hbr⟩ := hrel
    have hZr : Z + 1 ≤ wr.heap.size := by rw [← hsB.out]; exact hbr.out.size
    have hbr1 := Lib.hid (show Below w1.heap.size w1 wr by rw [hsB.out]; exact hbr.out)
    have hbw := Lib.hid (show Below Z w wr from hbB'.out.trans (hbr.out.mono (by omega)))
    obtain ⟨y0, y1, _, _, yz⟩ := toldC (hkB'.out wr hbr1.out)
    obtain ⟨rA, rn, rc, er⟩ := PsOwn.shape hown.out
    subst er
    obtain ⟨G, hG⟩ : ∃ G, (T && (is.take k).all goodI) = G := ⟨_, rfl⟩
    rw [hG]
    by_cases hlt : k < N
    · have hv : is[k]? = some (is[k]'(by have := hN'.out; omega)) := List.getElem?_eq_getElem _
      obtain ⟨i, hI⟩ : ∃ i, is[k]'(by have := hN'.out; omega) = i := ⟨_, rfl⟩
      rw [hI] at hv
      obtain ⟨A', b, off, k0', h1, h2, h3, h4, h5⟩ := hat.out wr hbw.out
      obtain ⟨h6, _, h7⟩ := h4 (by have := hN'.out; omega)
      injection h1 with h1 h8 h9
      subst h6
      subst h1
      subst h9
      obtain ⟨q0, q1, q2, q3, q4⟩ := h5 k i hv
      obtain ⟨x0, e0, d0⟩ := sv_some i.href
      obtain ⟨x2, e2, d2⟩ := sv_some i.tag
      obtain ⟨x3, e3, d3⟩ := sv_some i.data
      rw [e0] at q0
      rw [e2] at q2
      rw [e3] at q3
      obtain ⟨b1, hb1⟩ : ∃ b1, i.gone = b1 := ⟨_, rfl⟩
      obtain ⟨b4, hb4⟩ : ∃ b4, i.book = b4 := ⟨_, rfl⟩
      rw [hb1] at q1
      rw [hb4] at q4
      have hi0 := Lib.hid (show (⟨x0.data.toList, b1, x2.data.toList, x3.data.toList, b4⟩ : It) = i by rw [d0, d2, d3, ← hb1, ← hb4])
      obtain ⟨u0, u2, u3⟩ := hsi'.out i (List.mem_of_getElem? hv)
      rw [← d0] at u0
      rw [← d2] at u2
      rw [← d3] at u3
      have hnx := Lib.hid (And.intro (pcs_take hv) (show (T && (is.take (k + 1)).all goodI) = (G && goodI i) by rw [all_take hv, ← hG, Bool.and_assoc]))
      obtain ⟨wb, hwb⟩ : ∃ wb, wr.alloc (.cells #[.string x0, .bool b1, .string x2, .string x3, .bool b4] 79) = wb := ⟨_, rfl⟩
      have hbb : Below wr.heap.size wr wb := by rw [← hwb]; exact (Below.refl _ _).alloc (Nat.le_refl _) _
      have hkb : wb.heap[wr.heap.size]? = some (.cells #[.string x0, .bool b1, .string x2, .string x3, .bool b4] 79 (0, 0)) := by rw [← hwb]; exact heap_alloc_new wr _
      have c0 : Calls Tryz.prog 27 #[.string x0] wb fun e w' => e = .returned (.bool (txt x0.data.toList)) ∧ wb = w' := (text_any x0 wb (by rw [Lib.size_eq]; exact u0)).mono (fun e w' h => ⟨h.1, h.2.symm⟩)
      have c2 : Calls Tryz.prog 27 #[.string x2] wb fun e w' => e = .returned (.bool (txt x2.data.toList)) ∧ wb = w' := (text_any x2 wb (by rw [Lib.size_eq]; exact u2)).mono (fun e w' h => ⟨h.1, h.2.symm⟩)
      have c3 : Calls Tryz.prog 27 #[.string x3] wb fun e w' => e = .returned (.bool (txt x3.data.toList)) ∧ wb = w' := (text_any x3 wb (by rw [Lib.size_eq]; exact u3)).mono (fun e w' h => ⟨h.1, h.2.symm⟩)
      obtain ⟨z0, z1, z2, z3, z4⟩ := itm hkb
      have zz : wr.heap.size < wb.heap.size := (Array.getElem?_eq_some_iff.1 hkb).1
      have hbb' := Lib.hid hbb
      have hkb' := Lib.hid hkb
      have hgd0 := goodC x0 x2 x3 b1 b4
      rw [hi0.out] at hgd0
      have hgd := Lib.hid hgd0
      clear hgd0
      obtain ⟨n0, hn0⟩ : ∃ n0, x0.size = n0 := ⟨_, rfl⟩
      obtain ⟨n2, hn2⟩ : ∃ n2, x2.size = n2 := ⟨_, rfl⟩
      obtain ⟨n3, hn3⟩ : ∃ n3, x3.size = n3 := ⟨_, rfl⟩
      have hE := Lib.hid (And.intro (empN x0) (And.intro (empN x2) (empN x3)))
      have hnn := Lib.hid (And.intro hn0 (And.intro hn2 hn3))
      clear hv hI h2 h3 h4 h5 h7 h8 e0 e2 e3 d0 d2 d3 hb1 hb4 hbb hkb u0 u2 u3 hG
      go_upto_region 6 with fail
      clear q0 q1 q2 q3 q4 y0 y1 yz
      go_cut [5] from 21 to 63 (fun s5 wx => s5 = .bool (G && goodI i) ∧ wb = wx)
      case first =>
        obtain ⟨E0, E2, E3⟩ := hE.out
        have hgd0 := hgd.out
        generalize txt x0.data.toList = t0 at c0 hgd0
        generalize txt x2.data.toList = t2 at c2 hgd0
        generalize txt x3.data.toList = t3 at c3 hgd0
        generalize x0.data.toList.isEmpty = m0 at E0 hgd0
        generalize x2.data.toList.isEmpty = m2 at E2 hgd0
        generalize x3.data.toList.isEmpty = m3 at E3 hgd0
        rw [hnn.out.1] at E0
        rw [hnn.out.2.1] at E2
        rw [hnn.out.2.2] at E3
        have hgd1 := Lib.hid hgd0
        clear hgd0
        cases G
        · have hgd2 := Lib.hid hgd1.out
          clear hgd1
          go_wp2_with fail
          go_meet
          case rel => exact ⟨by rw [hgd2.out]; rfl, rfl⟩
        · rcases E0 with ⟨rfl, f0⟩ | ⟨rfl, f0⟩
          · have g0 : ¬ (0 : Int) < (n0 : Int) := by omega
            have hgd2 := Lib.hid hgd1.out
            clear hgd1
            go_wp2_with fail
            go_meet
            case rel => exact ⟨by rw [hgd2.out]; rfl, rfl⟩
          · have g0 : (0 : Int) < (n0 : Int) := by omega
            cases t0
            · have hgd2 := Lib.hid hgd1.out
              clear hgd1
              go_wp2_with fail
              go_at_call 27
              with_reducible refine c0.mono ?_
              rintro e w' ⟨rfl, rfl⟩
              go_wp2_with fail
              go_meet
              case rel => exact ⟨by rw [hgd2.out]; rfl, rfl⟩
            · cases t2
              · have hgd2 := Lib.hid hgd1.out
                clear hgd1
                go_wp2_with fail
                go_at_call 27
                with_reducible refine c0.mono ?_
                rintro e w' ⟨rfl, rfl⟩
                go_wp2_with fail
                go_at_call 27
                with_reducible refine c2.mono ?_
                rintro e w' ⟨rfl, rfl⟩
                go_wp2_with fail
                go_meet
                case rel => exact ⟨by rw [hgd2.out]; rfl, rfl⟩
              · cases t3
                · have hgd2 := Lib.hid hgd1.out
                  clear hgd1
                  go_wp2_with fail
                  go_at_call 27
                  with_reducible refine c0.mono ?_
                  rintro e w' ⟨rfl, rfl⟩
                  go_wp2_with fail
                  go_at_call 27
                  with_reducible refine c2.mono ?_
                  rintro e w' ⟨rfl, rfl⟩
                  go_wp2_with fail
                  go_at_call 27
                  with_reducible refine c3.mono ?_
                  rintro e w' ⟨rfl, rfl⟩
                  go_wp2_with fail
                  go_meet
                  case rel => exact ⟨by rw [hgd2.out]; rfl, rfl⟩
                · cases b1
                  · have hgd2 := Lib.hid hgd1.out
                    clear hgd1
                    go_wp2_with fail
                    go_at_call 27
                    with_reducible refine c0.mono ?_
                    rintro e w' ⟨rfl, rfl⟩
                    go_wp2_with fail
                    go_at_call 27
                    with_reducible refine c2.mono ?_
                    rintro e w' ⟨rfl, rfl⟩
                    go_wp2_with fail
                    go_at_call 27
                    with_reducible refine c3.mono ?_
                    rintro e w' ⟨rfl, rfl⟩
                    go_wp2_with fail
                    go_meet
                    case rel => exact ⟨by rw [hgd2.out]; rfl, rfl⟩
                  · rcases E2 with ⟨rfl, f2⟩ | ⟨rfl, f2⟩
                    · have g2 : ¬ (0 : Int) < (n2 : Int) := by omega
                      rcases E3 with ⟨rfl, f3⟩ | ⟨rfl, f3⟩
                      · have g3 : ¬ (0 : Int) < (n3 : Int) := by omega
                        cases b4
                        · have hgd2 := Lib.hid hgd1.out
                          clear hgd1
                          go_wp2_with fail
                          go_at_call 27
                          with_reducible refine c0.mono ?_
                          rintro e w' ⟨rfl, rfl⟩
                          go_wp2_with fail
                          go_at_call 27
                          with_reducible refine c2.mono ?_
                          rintro e w' ⟨rfl, rfl⟩
                          go_wp2_with fail
                          go_at_call 27
                          with_reducible refine c3.mono ?_
                          rintro e w' ⟨rfl, rfl⟩
                          go_wp2_with fail
                          go_meet
                          case rel => exact ⟨by rw [hgd2.out]; rfl, rfl⟩
                        · have hgd2 := Lib.hid hgd1.out
                          clear hgd1
                          go_wp2_with fail
                          go_at_call 27
                          with_reducible refine c0.mono ?_
                          rintro e w' ⟨rfl, rfl⟩
                          go_wp2_with fail
                          go_at_call 27
                          with_reducible refine c2.mono ?_
                          rintro e w' ⟨rfl, rfl⟩
                          go_wp2_with fail
                          go_at_call 27
                          with_reducible refine c3.mono ?_
                          rintro e w' ⟨rfl, rfl⟩
                          go_wp2_with fail
                          go_meet
                          case rel => exact ⟨by rw [hgd2.out]; rfl, rfl⟩
                      · have g3 : (0 : Int) < (n3 : Int) := by omega
                        have hgd2 := Lib.hid hgd1.out
                        clear hgd1
                        go_wp2_with fail
                        go_at_call 27
                        with_reducible refine c0.mono ?_
                        rintro e w' ⟨rfl, rfl⟩
                        go_wp2_with fail
                        go_at_call 27
                        with_reducible refine c2.mono ?_
                        rintro e w' ⟨rfl, rfl⟩
                        go_wp2_with fail
                        go_at_call 27
                        with_reducible refine c3.mono ?_
                        rintro e w' ⟨rfl, rfl⟩
                        go_wp2_with fail
                        go_meet
                        case rel => exact ⟨by rw [hgd2.out]; rfl, rfl⟩
                    · have g2 : (0 : Int) < (n2 : Int) := by omega
                      have hgd2 := Lib.hid hgd1.out
                      clear hgd1
                      go_wp2_with fail
                      go_at_call 27
                      with_reducible refine c0.mono ?_
                      rintro e w' ⟨rfl, rfl⟩
                      go_wp2_with fail
                      go_at_call 27
                      with_reducible refine c2.mono ?_
                      rintro e w' ⟨rfl, rfl⟩
                      go_wp2_with fail
                      go_at_call 27
                      with_reducible refine c3.mono ?_
                      rintro e w' ⟨rfl, rfl⟩
                      go_wp2_with fail
                      go_meet
                      case rel => exact ⟨by rw [hgd2.out]; rfl, rfl⟩
      case rest =>
        obtain ⟨rfl, hwc⟩ := hcut
        subst hwc
        clear c0 c2 c3
        have cH := full_any 1 ⟨#[104, 114, 101, 102]⟩ x0 wb
        go_wp2_with fail
        go_at_call 28
        with_reducible refine cH.mono ?_
        rintro e w7 ⟨⟨v8, rfl, hone⟩, hb7⟩
        obtain ⟨oA, on, oc, eo⟩ := PsOwn.shape hone
        subst eo
        obtain ⟨z0, z1, z2, z3, z4⟩ := itm (blk_at hkb'.out hb7)
        have hk7 := Lib.hid (blk_at hkb'.out hb7)
        have hb7' := Lib.hid (below_then hbb'.out hb7)
        have hH : wr.heap.size ≤ wb.heap.size := by omega
        have hH7 : wb.heap.size ≤ w7.heap.size := hb7.size
        have hone' := Lib.hid (show PsOwn wr.heap.size (.slice oA on oc) (full 1 hrefS x0.data.toList) w7 from PsOwn.fewer hone hH)
        have hone7 := Lib.hid (show ∀ g, (Value.slice oA on oc).ownBlock = some g → wr.heap.size ≤ g ∧ g < w7.heap.size from ps_bl hone'.out)
        have zz7 : wr.heap.size < w7.heap.size := by omega
        clear cH hone hb7 hkb' zz
        go_upto_if 68 with fail
        go_cut [8, 9, 10] from 69 to 106 (fun s8 s9 s10 wx => Hid (PsOwn wr.heap.size s8 (full 1 hrefS x0.data.toList ++ pcS i) wx) ∧ Hid (Below wr.heap.size wr wx))
        case first =>
          cases b1
          · obtain ⟨tb2, htb2⟩ : ∃ q, decide (0 < n2) = q := ⟨_, rfl⟩
            obtain ⟨tb3, htb3⟩ : ∃ q, decide (0 < n3) = q := ⟨_, rfl⟩
            have htb2i : decide ((0 : Int) < (n2 : Int)) = tb2 := by rw [← htb2]; exact decide_eq_decide.2 (by omega)
            have htb3i : decide ((0 : Int) < (n3 : Int)) = tb3 := by rw [← htb3]; exact decide_eq_decide.2 (by omega)
            go_upto_if 75 with fail
            clear htb2i
            replace htb2 := Lib.hid htb2
            go_cut [9] from 76 to 80 (fun s9 wx => Hid (PsOwn w7.heap.size s9 (opt 1 etagS x2.data.toList) wx) ∧ Hid (Below w7.heap.size w7 wx))
            case first =>
              have hp0 := Lib.hid (PsOwn.nil w7.heap.size w7)
              have hb0 := Lib.hid (Below.refl w7.heap.size w7)
              have hlenp := Lib.hid (show ([] : List Pc).length ≤ 100 from by simp)
              cases tb2
              · have f2 : n2 = 0 := by have := of_decide_eq_false htb2.out; omega
                have hr := Lib.hid (show PsOwn w7.heap.size _ (([] : List Pc) ++ opt 1 etagS x2.data.toList) w7 by rw [optE0 (s := 1) (n := etagS) (by rw [hnn.out.2.1]; exact f2), List.append_nil]; exact hp0.out)
                go_wp2_with fail
                go_meet
                case rel => exact ⟨hr, hb0⟩
              · have f2 : 0 < n2 := by have := of_decide_eq_true htb2.out; omega
                have hopt := Lib.hid (optE1 (s := 1) (n := etagS) (x := x2) (by rw [hnn.out.2.1]; exact f2))
                have cF := full_any 1 ⟨#[103, 101, 116, 101, 116, 97, 103]⟩ x2 w7
                go_wp2_with fail
                go_at_call 28
                with_reducible refine cF.mono ?_
                rintro e wq ⟨⟨v, rfl, hwq⟩, hbwq⟩
                obtain ⟨pA, pn, pc, ep⟩ := PsOwn.shape hwq
                subst ep
                replace hwq := Lib.hid hwq
                replace hbwq := Lib.hid hbwq
                clear cF
                have hpq := Lib.hid (hp0.out.kept hbwq.out)
                have hb7q := Lib.hid (hb0.out.trans (hbwq.out.mono hb0.out.size))
                have hln : (([] : List Pc)).length + (full 1 etagS x2.data.toList).length ≤ 1099511627776 := by have := hlenp.out; have h3 : (full 1 etagS x2.data.toList).length = 3 := rfl; (first | (simp only [List.length_nil] at this ⊢; omega) | omega)
                have hbz : w7.heap.size ≤ wq.heap.size := hb7q.out.size
                go_wp2_with (at_builtin; refine append_row rfl _ _ rfl w7.heap.size _ _ (([] : List Pc)) (full 1 etagS x2.data.toList) rfl rfl hpq.out hwq.out.at hln hbz ?_)
                intro v wp hwp hgwp
                obtain ⟨pA, pn, pc, ep⟩ := PsOwn.shape hwp
                subst ep
                replace hwp := Lib.hid hwp
                clear hln hbz
                have hb7p := Lib.hid (grew hb7q.out hpq.out hgwp hb7q.out.size)
                rw [← hopt.out] at hwp
                clear hgwp
                go_wp2_with fail
                go_meet
                case rel => exact ⟨hwp, hb7p⟩
            case rest =>
              obtain ⟨p9, b9⟩ := hcut
              obtain ⟨w9, rfl⟩ : ∃ q, q = wc := ⟨_, rfl⟩
              obtain ⟨oA9, on9, oc9, eo9⟩ := PsOwn.shape p9.out
              subst eo9
              obtain ⟨z0, z1, z2, z3, z4⟩ := itm (blk_at hk7.out b9.out)
              have zz9 : wr.heap.size < w9.heap.size := by have := b9.out.size; omega
              have hlenp := Lib.hid (show (opt 1 etagS x2.data.toList).length ≤ 100 by unfold opt; split <;> simp [full, el])
              go_upto_if 84 with fail
              clear htb3i
              replace htb3 := Lib.hid htb3
              go_cut [9] from 85 to 89 (fun s9 wx => Hid (PsOwn w7.heap.size s9 (opt 1 etagS x2.data.toList ++ opt 2 addrS x3.data.toList) wx) ∧ Hid (Below w7.heap.size w7 wx))
              case first =>
                cases tb3
                · have f2 : n3 = 0 := by have := of_decide_eq_false htb3.out; omega
                  have hr := Lib.hid (show PsOwn w7.heap.size _ (opt 1 etagS x2.data.toList ++ opt 2 addrS x3.data.toList) w9 by rw [optE0 (s := 2) (n := addrS) (by rw [hnn.out.2.2]; exact f2), List.append_nil]; exact p9.out)
                  go_wp2_with fail
                  go_meet
                  case rel => exact ⟨hr, b9⟩
                · have f2 : 0 < n3 := by have := of_decide_eq_true htb3.out; omega
                  have hopt := Lib.hid (optE1 (s := 2) (n := addrS) (x := x3) (by rw [hnn.out.2.2]; exact f2))
                  have cF := full_any 2 ⟨#[97, 100, 100, 114, 101, 115, 115, 45, 100, 97, 116, 97]⟩ x3 w9
                  go_wp2_with fail
                  go_at_call 28
                  with_reducible refine cF.mono ?_
                  rintro e wq ⟨⟨v, rfl, hwq⟩, hbwq⟩
                  obtain ⟨pA, pn, pc, ep⟩ := PsOwn.shape hwq
                  subst ep
                  replace hwq := Lib.hid hwq
                  replace hbwq := Lib.hid hbwq
                  clear cF
                  have hpq := Lib.hid (p9.out.kept hbwq.out)
                  have hb7q := Lib.hid (b9.out.trans (hbwq.out.mono b9.out.size))
                  have hln : (opt 1 etagS x2.data.toList).length + (full 2 addrS x3.data.toList).length ≤ 1099511627776 := by have := hlenp.out; have h3 : (full 2 addrS x3.data.toList).length = 3 := rfl; (first | (simp only [List.length_nil] at this ⊢; omega) | omega)
                  have hbz : w7.heap.size ≤ wq.heap.size := hb7q.out.size
                  go_wp2_with (at_builtin; refine append_row rfl _ _ rfl w7.heap.size _ _ (opt 1 etagS x2.data.toList) (full 2 addrS x3.data.toList) rfl rfl hpq.out hwq.out.at hln hbz ?_)
                  intro v wp hwp hgwp
                  obtain ⟨pA, pn, pc, ep⟩ := PsOwn.shape hwp
                  subst ep
                  replace hwp := Lib.hid hwp
                  clear hln hbz
                  have hb7p := Lib.hid (grew hb7q.out hpq.out hgwp hb7q.out.size)
                  rw [← hopt.out] at hwp
                  clear hgwp
                  go_wp2_with fail
                  go_meet
                  case rel => exact ⟨hwp, hb7p⟩
              case rest =>
                obtain ⟨p11, b11⟩ := hcut
                obtain ⟨w11, rfl⟩ : ∃ q, q = wc := ⟨_, rfl⟩
                obtain ⟨oA11, on11, oc11, eo11⟩ := PsOwn.shape p11.out
                subst eo11
                obtain ⟨z0, z1, z2, z3, z4⟩ := itm (blk_at hk7.out b11.out)
                have zz11 : wr.heap.size < w11.heap.size := by have := b11.out.size; omega
                obtain ⟨QQ, hQQ⟩ : ∃ QQ, opt 1 etagS x2.data.toList ++ opt 2 addrS x3.data.toList = QQ := ⟨_, rfl⟩
                rw [hQQ] at p11
                have hQl := Lib.hid (show QQ.length ≤ 100 by rw [← hQQ, List.length_append]; unfold opt; split <;> split <;> simp [full, el])
                have hQQ' := Lib.hid hQQ
                clear hQQ
                go_upto_if 91 with fail
                go_cut [9] from 92 to 97 (fun s9 wx => Hid (PsOwn w7.heap.size s9 (QQ ++ bookP b4) wx) ∧ Hid (Below w7.heap.size w7 wx))
                case first =>
                  cases b4
                  · have hr := Lib.hid (show PsOwn w7.heap.size _ (QQ ++ bookP false) w11 by rw [show bookP false = [] from rfl, List.append_nil]; exact p11.out)
                    go_wp2_with fail
                    go_meet
                    case rel => exact ⟨hr, b11⟩
                  · 
                    have cE := element_any 1 ⟨#[99, 111, 108, 108, 101, 99, 116, 105, 111, 110]⟩ (.slice none 0 0) [] w11 (Xm.PcsAt.nil _ _) (by simp)
                    go_wp2_with fail
                    go_at_call 29
                    with_reducible refine cE.mono ?_
                    rintro e wc1 ⟨⟨v, rfl, hwc1⟩, hbwc1⟩
                    obtain ⟨pA, pn, pc, ep⟩ := PsOwn.shape hwc1
                    subst ep
                    replace hwc1 := Lib.hid hwc1
                    replace hbwc1 := Lib.hid hbwc1
                    clear cE
                    have cE := element_any 2 ⟨#[97, 100, 100, 114, 101, 115, 115, 98, 111, 111, 107]⟩ (.slice none 0 0) [] wc1 (Xm.PcsAt.nil _ _) (by simp)
                    go_wp2_with fail
                    go_at_call 29
                    with_reducible refine cE.mono ?_
                    rintro e wc2 ⟨⟨v, rfl, hwc2⟩, hbwc2⟩
                    obtain ⟨pA, pn, pc, ep⟩ := PsOwn.shape hwc2
                    subst ep
                    replace hwc2 := Lib.hid hwc2
                    replace hbwc2 := Lib.hid hbwc2
                    clear cE
                    have hk2 := Lib.hid (hwc1.out.kept hbwc2.out)
                    have hb2 := Lib.hid (below_then hbwc1.out hbwc2.out)
                    have hln : (el 1 collS []).length + (el 2 abookS []).length ≤ 1099511627776 := by decide
                    have hbz : w11.heap.size ≤ wc2.heap.size := hb2.out.size
                    go_wp2_with (at_builtin; refine append_row rfl _ _ rfl w11.heap.size _ _ (el 1 collS []) (el 2 abookS []) rfl rfl hk2.out hwc2.out.at hln hbz ?_)
                    intro v wc3 hwc3 hgwc3
                    obtain ⟨pA, pn, pc, ep⟩ := PsOwn.shape hwc3
                    subst ep
                    replace hwc3 := Lib.hid hwc3
                    clear hln hbz
                    have hb3 := Lib.hid (grew hb2.out hk2.out hgwc3 hb2.out.size)
                    clear hgwc3
                    have cE := element_any 1 ⟨#[114, 101, 115, 111, 117, 114, 99, 101, 116, 121, 112, 101]⟩ _ (el 1 collS [] ++ el 2 abookS []) wc3 hwc3.out.at (by decide)
                    go_wp2_with fail
                    go_at_call 29
                    with_reducible refine cE.mono ?_
                    rintro e wc4 ⟨⟨v, rfl, hwc4⟩, hbwc4⟩
                    obtain ⟨pA, pn, pc, ep⟩ := PsOwn.shape hwc4
                    subst ep
                    replace hwc4 := Lib.hid hwc4
                    replace hbwc4 := Lib.hid hbwc4
                    clear cE
                    have hb4x := Lib.hid (below_then hb3.out (hbwc4.out))
                    have hp4 := Lib.hid (p11.out.kept hb4x.out)
                    have hb74 := Lib.hid (b11.out.trans (hb4x.out.mono b11.out.size))
                    have hln : QQ.length + (bookP true).length ≤ 1099511627776 := by have := hQl.out; have h3 : (bookP true).length = 6 := (by decide); omega
                    have hbz : w7.heap.size ≤ wc4.heap.size := hb74.out.size
                    go_wp2_with (at_builtin; refine append_row rfl _ _ rfl w7.heap.size _ _ QQ (bookP true) rfl rfl hp4.out hwc4.out.at hln hbz ?_)
                    intro v wc5 hwc5 hgwc5
                    obtain ⟨pA, pn, pc, ep⟩ := PsOwn.shape hwc5
                    subst ep
                    replace hwc5 := Lib.hid hwc5
                    clear hln hbz
                    have hb75 := Lib.hid (grew hb74.out hp4.out hgwc5 hb74.out.size)
                    clear hgwc5
                    go_wp2_with fail
                    go_meet
                    case rel => exact ⟨hwc5, hb75⟩
                case rest =>
                  obtain ⟨p13, b13⟩ := hcut
                  obtain ⟨w13, rfl⟩ : ∃ q, q = wc := ⟨_, rfl⟩
                  obtain ⟨oA13, on13, oc13, eo13⟩ := PsOwn.shape p13.out
                  subst eo13
                  have hQP := Lib.hid (show QQ ++ bookP b4 = pcP ⟨x0.data.toList, false, x2.data.toList, x3.data.toList, b4⟩ by rw [← hQQ'.out]; unfold pcP; rw [List.append_assoc])
                  obtain ⟨PP, hPP⟩ : ∃ PP, QQ ++ bookP b4 = PP := ⟨_, rfl⟩
                  rw [hPP] at p13 hQP
                  have hPl := Lib.hid (show PP.length ≤ 200 by rw [← hPP, List.length_append]; have := hQl.out; unfold bookP; split <;> simp [el] <;> omega)
                  clear hPP
                  have cE := element_any 1 ⟨#[112, 114, 111, 112]⟩ _ PP w13 p13.out.at (by have := hPl.out; omega)
                  go_wp2_with fail
                  go_at_call 29
                  with_reducible refine cE.mono ?_
                  rintro e we1 ⟨⟨v, rfl, hwe1⟩, hbwe1⟩
                  obtain ⟨pA, pn, pc, ep⟩ := PsOwn.shape hwe1
                  subst ep
                  replace hwe1 := Lib.hid hwe1
                  replace hbwe1 := Lib.hid hbwe1
                  clear cE
                  have cF := full_any 1 ⟨#[115, 116, 97, 116, 117, 115]⟩ ⟨#[72, 84, 84, 80, 47, 49, 46, 49, 32, 50, 48, 48, 32, 79, 75]⟩ we1
                  go_wp2_with fail
                  go_at_call 28
                  with_reducible refine cF.mono ?_
                  rintro e we2 ⟨⟨v, rfl, hwe2⟩, hbwe2⟩
                  obtain ⟨pA, pn, pc, ep⟩ := PsOwn.shape hwe2
                  subst ep
                  replace hwe2 := Lib.hid hwe2
                  replace hbwe2 := Lib.hid hbwe2
                  clear cF
                  have hk2 := Lib.hid (hwe1.out.kept hbwe2.out)
                  have hb2 := Lib.hid (below_then hbwe1.out hbwe2.out)
                  have hln : (el 1 propS PP).length + (full 1 statusS s200).length ≤ 1099511627776 := by have := hPl.out; have h3 : (full 1 statusS s200).length = 3 := rfl; have h4 : (el 1 propS PP).length = PP.length + 2 := (by simp [el]); omega
                  have hbz : w13.heap.size ≤ we2.heap.size := hb2.out.size
                  go_wp2_with (at_builtin; refine append_row rfl _ _ rfl w13.heap.size _ _ (el 1 propS PP) (full 1 statusS s200) rfl rfl hk2.out hwe2.out.at hln hbz ?_)
                  intro v we3 hwe3 hgwe3
                  obtain ⟨pA, pn, pc, ep⟩ := PsOwn.shape hwe3
                  subst ep
                  replace hwe3 := Lib.hid hwe3
                  clear hln hbz
                  have hb3 := Lib.hid (grew hb2.out hk2.out hgwe3 hb2.out.size)
                  clear hgwe3
                  obtain ⟨SS, hSS⟩ : ∃ SS, el 1 propS PP ++ full 1 statusS s200 = SS := ⟨_, rfl⟩
                  rw [hSS] at hwe3
                  have hSl := Lib.hid (show SS.length ≤ 300 by rw [← hSS, List.length_append]; have := hPl.out; have h3 : (full 1 statusS s200).length = 3 := rfl; have h4 : (el 1 propS PP).length = PP.length + 2 := (by simp [el]); omega)
                  have hSS' := Lib.hid hSS
                  clear hSS
                  have cE := element_any 1 ⟨#[112, 114, 111, 112, 115, 116, 97, 116]⟩ _ SS we3 hwe3.out.at (by have := hSl.out; omega)
                  go_wp2_with fail
                  go_at_call 29
                  with_reducible refine cE.mono ?_
                  rintro e we4 ⟨⟨v, rfl, hwe4⟩, hbwe4⟩
                  obtain ⟨pA, pn, pc, ep⟩ := PsOwn.shape hwe4
                  subst ep
                  replace hwe4 := Lib.hid hwe4
                  replace hbwe4 := Lib.hid hbwe4
                  clear cE
                  have hb4x := Lib.hid (below_then hb3.out hbwe4.out)
                  have hb74 := Lib.hid (b13.out.trans (hb4x.out.mono b13.out.size))
                  have hone4 := Lib.hid (hone'.out.kept hb74.out)
                  have hbr4 := Lib.hid (hb7'.out.trans (hb74.out.mono hb7'.out.size))
                  have hSt := Lib.hid (show el 1 pstatS SS = pcS i by rw [← hi0.out, ← hSS'.out, hQP.out]; rfl)
                  have hln : (full 1 hrefS x0.data.toList).length + (el 1 pstatS SS).length ≤ 1099511627776 := by have := hSl.out; have h3 : (full 1 hrefS x0.data.toList).length = 3 := rfl; have h4 : (el 1 pstatS SS).length = SS.length + 2 := (by simp [el]); omega
                  have hbz : wr.heap.size ≤ we4.heap.size := hbr4.out.size
                  go_wp2_with (at_builtin; refine append_row rfl _ _ rfl wr.heap.size _ _ (full 1 hrefS x0.data.toList) (el 1 pstatS SS) rfl rfl hone4.out hwe4.out.at hln hbz ?_)
                  intro v we5 hwe5 hgwe5
                  obtain ⟨pA, pn, pc, ep⟩ := PsOwn.shape hwe5
                  subst ep
                  replace hwe5 := Lib.hid hwe5
                  clear hln hbz
                  have hbr5 := Lib.hid (grew hbr4.out hone4.out hgwe5 hbr4.out.size)
                  rw [hSt.out] at hwe5
                  clear hgwe5
                  go_wp2_with fail
                  go_meet
                  case rel => exact ⟨hwe5, hbr5⟩
          · have cS := full_any 1 ⟨#[115, 116, 97, 116, 117, 115]⟩ ⟨#[72, 84, 84, 80, 47, 49, 46, 49, 32, 52, 48, 52, 32, 78, 111, 116, 32, 70, 111, 117, 110, 100]⟩ w7
            have hS := Lib.hid (show pcS i = full 1 (⟨#[115, 116, 97, 116, 117, 115]⟩ : ByteArray).data.toList (⟨#[72, 84, 84, 80, 47, 49, 46, 49, 32, 52, 48, 52, 32, 78, 111, 116, 32, 70, 111, 117, 110, 100]⟩ : ByteArray).data.toList by rw [← hi0.out]; rfl)
            rw [← hS.out] at cS
            go_wp2_with fail
            go_at_call 28
            with_reducible refine cS.mono ?_
            rintro e w9 ⟨⟨v9, rfl, hst⟩, hb9⟩
            have hst' := Lib.hid hst.at
            obtain ⟨pA, pn, pc, ep⟩ := PsOwn.shape hst
            subst ep
            have hone9 := Lib.hid (hone'.out.kept hb9)
            have hb9' := Lib.hid (below_then hb7'.out hb9)
            have hll : (full 1 hrefS x0.data.toList).length + (pcS i).length ≤ 1099511627776 := by
              have := pcI_len i
              unfold pcI el at this
              simp only [List.length_cons, List.length_append] at this
              have h1 : (full 1 hrefS x0.data.toList).length = 3 := rfl
              omega
            have hz9 : wr.heap.size ≤ w9.heap.size := hb9'.out.size
            clear cS hst hb9
            go_wp2_with (at_builtin; refine append_row rfl _ _ rfl wr.heap.size _ _ (full 1 hrefS x0.data.toList) (pcS i) rfl rfl hone9.out hst'.out hll hz9 ?_)
            intro v10 w10 hown10 hg10
            have hb10 := Lib.hid (grew hb9'.out hone9.out hg10 hz9)
            have hown10' := Lib.hid hown10
            clear hown10 hg10 hll
            go_wp2_with fail
            go_meet
            case rel => exact ⟨hown10', hb10⟩
        case rest =>
          obtain ⟨h8, hbx⟩ := hcut
          obtain ⟨w20, rfl⟩ : ∃ q, q = wc := ⟨_, rfl⟩
          obtain ⟨mA, mn, mc, em⟩ := PsOwn.shape h8.out
          subst em
          have hIl := Lib.hid (show (full 1 hrefS x0.data.toList ++ pcS i).length ≤ 100 by
            have := pcI_len i
            unfold pcI el at this
            simp only [List.length_cons, List.length_append] at this ⊢
            have h1 : (full 1 hrefS i.href).length = 3 := rfl
            have h2 : (full 1 hrefS x0.data.toList).length = 3 := rfl
            omega)
          have hpl := Lib.hid (show (pcs (is.take k)).length ≤ 100000 by
            have := pcs_len (is.take k)
            rw [List.length_take] at this
            omega)
          have cE := element_any 1 ⟨#[114, 101, 115, 112, 111, 110, 115, 101]⟩ _ (full 1 hrefS x0.data.toList ++ pcS i) w20 h8.out.at (by have := hIl.out; omega)
          go_wp2_with fail
          go_at_call 29
          with_reducible refine cE.mono ?_
          rintro e wr1 ⟨⟨v, rfl, hwr1⟩, hbwr1⟩
          obtain ⟨pA, pn, pc, ep⟩ := PsOwn.shape hwr1
          subst ep
          replace hwr1 := Lib.hid hwr1
          replace hbwr1 := Lib.hid hbwr1
          clear cE
          have hb1 := Lib.hid (below_then hbx.out hbwr1.out)
          have hall := Lib.hid (hown.out.kept hb1.out)
          have hbZ := Lib.hid (show Below (Z + 1) w1 wr1 from hbr.out.trans (hb1.out.mono hZr))
          have hpi := Lib.hid (show pcs (is.take (k + 1)) = pcs (is.take k) ++ el 1 respS (full 1 hrefS x0.data.toList ++ pcS i) by rw [hnx.out.1, ← hi0.out]; rfl)
          have hln : (pcs (is.take k)).length + (el 1 respS (full 1 hrefS x0.data.toList ++ pcS i)).length ≤ 1099511627776 := by have h1 := hIl.out; have h2 := hpl.out; have h3 : (el 1 respS (full 1 hrefS x0.data.toList ++ pcS i)).length = (full 1 hrefS x0.data.toList ++ pcS i).length + 2 := (by unfold el; simp only [List.length_cons, List.length_append, List.length_nil] <;> omega); omega
          have hbz : Z + 1 ≤ wr1.heap.size := by rw [← hsB.out]; exact hbZ.out.size
          go_wp2_with (at_builtin; refine append_row rfl _ _ rfl (Z + 1) _ _ (pcs (is.take k)) (el 1 respS (full 1 hrefS x0.data.toList ++ pcS i)) rfl rfl hall.out hwr1.out.at hln hbz ?_)
          intro v wr2 hwr2 hgwr2
          obtain ⟨pA, pn, pc, ep⟩ := PsOwn.shape hwr2
          subst ep
          replace hwr2 := Lib.hid hwr2
          clear hln hbz
          have hbZ2 := Lib.hid (grew hbZ.out hall.out hgwr2 (by rw [← hsB.out]; exact hbZ.out.size))
          rw [← hpi.out] at hwr2
          clear hgwr2
          go_wp2
          go_roundw
          case rel => exact ⟨k + 1, by go_num, by omega, by rw [hnx.out.2], hwr2, hbZ2⟩
          case measure => simp [RowKit.intOf]; omega
    · have htk : is.take k = is := List.take_of_length_le (by have := hN'.out; omega)
      rw [htk] at hown hG
      have hGR : G = R := by rw [← hG]; exact hR'.out
      subst hGR
      have hpl := Lib.hid (show (pcs is).length ≤ 100000 by
        have h1 := pcs_len is
        have h2 := hN'.out
        omega)
      obtain ⟨nx, hnx⟩ : ∃ q, x.size = q := ⟨_, rfl⟩
      obtain ⟨tbx, htbx⟩ : ∃ q, decide (0 < nx) = q := ⟨_, rfl⟩
      have htbi : decide ((0 : Int) < (nx : Int)) = tbx := by rw [← htbx]; exact decide_eq_decide.2 (by omega)
      clear htk hG
      go_upto_if 115 with fail
      clear htbi
      replace htbx := Lib.hid htbx
      replace hnx := Lib.hid hnx
      go_cut [4] from 116 to 120 (fun s4 wx => Hid (PsOwn (Z + 1) s4 (pcs is ++ opt 1 stokS x.data.toList) wx) ∧ Hid (Below (Z + 1) w1 wx))
      case first =>
        cases tbx
        · have f2 : nx = 0 := by have := of_decide_eq_false htbx.out; omega
          have hr := Lib.hid (show PsOwn (Z + 1) _ (pcs is ++ opt 1 stokS x.data.toList) wr by rw [optE0 (s := 1) (n := stokS) (by rw [hnx.out]; exact f2), List.append_nil]; exact hown.out)
          go_wp2_with fail
          go_meet
          case rel => exact ⟨hr, hbr⟩
        · have f2 : 0 < nx := by have := of_decide_eq_true htbx.out; omega
          have hopt := Lib.hid (optE1 (s := 1) (n := stokS) (x := x) (by rw [hnx.out]; exact f2))
          have cF := full_any 1 ⟨#[115, 121, 110, 99, 45, 116, 111, 107, 101, 110]⟩ x wr
          go_wp2_with fail
          go_at_call 28
          with_reducible refine cF.mono ?_
          rintro e wt1 ⟨⟨v, rfl, hwt1⟩, hbwt1⟩
          obtain ⟨pA, pn, pc, ep⟩ := PsOwn.shape hwt1
          subst ep
          replace hwt1 := Lib.hid hwt1
          replace hbwt1 := Lib.hid hbwt1
          clear cF
          have hbZ := Lib.hid (hbr.out.trans (hbwt1.out.mono hZr))
          have hall := Lib.hid (hown.out.kept hbwt1.out)
          have hln : (pcs is).length + (full 1 stokS x.data.toList).length ≤ 1099511627776 := by have h2 := hpl.out; have h3 : (full 1 stokS x.data.toList).length = 3 := rfl; omega
          have hbz : Z + 1 ≤ wt1.heap.size := by rw [← hsB.out]; exact hbZ.out.size
          go_wp2_with (at_builtin; refine append_row rfl _ _ rfl (Z + 1) _ _ (pcs is) (full 1 stokS x.data.toList) rfl rfl hall.out hwt1.out.at hln hbz ?_)
          intro v wt2 hwt2 hgwt2
          obtain ⟨pA, pn, pc, ep⟩ := PsOwn.shape hwt2
          subst ep
          replace hwt2 := Lib.hid hwt2
          clear hln hbz
          have hbZ2 := Lib.hid (grew hbZ.out hall.out hgwt2 (by rw [← hsB.out]; exact hbZ.out.size))
          rw [← hopt.out] at hwt2
          clear hgwt2
          go_wp2_with fail
          go_meet
          case rel => exact ⟨hwt2, hbZ2⟩
      case rest =>
        obtain ⟨h4, hbx⟩ := hcut
        obtain ⟨w24, rfl⟩ : ∃ q, q = wc := ⟨_, rfl⟩
        obtain ⟨mA, mn, mc, em⟩ := PsOwn.shape h4.out
        subst em
        have hl4 := Lib.hid (show (pcs is ++ opt 1 stokS x.data.toList).length ≤ 200000 by
          have := hpl.out
          rw [List.length_append]
          unfold opt
          split <;> simp [full, el] <;> omega)
        have cE := element_any 1 ⟨#[109, 117, 108, 116, 105, 115, 116, 97, 116, 117, 115]⟩ _ (pcs is ++ opt 1 stokS x.data.toList) w24 h4.out.at (by have := hl4.out; omega)
        go_wp2_with fail
        go_at_call 29
        with_reducible refine cE.mono ?_
        rintro e wz1 ⟨⟨v, rfl, hwz1⟩, hbwz1⟩
        obtain ⟨pA, pn, pc, ep⟩ := PsOwn.shape hwz1
        subst ep
        replace hwz1 := Lib.hid hwz1
        replace hbwz1 := Lib.hid hbwz1
        clear cE
        have hfin := Lib.hid (show PcsAt wz1 (.slice pA pn pc) (pcT ⟨is, x.data.toList⟩) ∧ Below w.heap.size w wz1 from ⟨hwz1.out.at, by
          rw [hZ'.out]
          have h1 : Below Z w w24 := hbB'.out.trans (hbx.out.mono (by omega))
          exact h1.trans (hbwz1.out.mono (by have := hbx.out.size; rw [hsB.out] at this; omega))⟩)
        go_wp2
        go_ret2
        exact ⟨⟨_, rfl, hfin.out.1⟩, hfin.out.2⟩
end Go.Proofs.YtmmpojhjpghdlaaGreatDoor.Dv

/-
  THE REFERENCE's SameTold, at two that read as the same.
-/
set_option linter.unusedVariables false
namespace Go.Proofs.YtmmpojhjpghdlaaGreatDoor.Dv
open Go.Lib Go.RowKit
open Xm (Row Pc sv below_then below_drewN sv_some sv_str fieldG field_run)
open T5 (tdB)

theorem fields_it : (Tryz.prog.fieldsOf 79).toList.map fieldG = [(true, 9, 0), (true, 4, 1), (true, 9, 2), (true, 9, 3), (true, 4, 4)] := by kernel_rfl
theorem five_of {L : List Field} {a b c d e : Bool × TypeId × Nat} (h : L.map fieldG = [a, b, c, d, e]) : ∃ f0 f1 f2 f3 f4, L = [f0, f1, f2, f3, f4] ∧ fieldG f0 = a ∧ fieldG f1 = b ∧ fieldG f2 = c ∧ fieldG f3 = d ∧ fieldG f4 = e := by
  rcases L with _ | ⟨f0, _ | ⟨f1, _ | ⟨f2, _ | ⟨f3, _ | ⟨f4, _ | ⟨f5, L⟩⟩⟩⟩⟩⟩ <;> simp at h
  exact ⟨f0, f1, f2, f3, f4, rfl, h.1, h.2.1, h.2.2.1, h.2.2.2.1, h.2.2.2.2⟩
set_option maxRecDepth 100000 in
theorem eq_it (x0 x2 x3 : ByteArray) (b1 b4 : Bool) (W : World) : (Op.equalIn 10000 79 (.agg #[.string x0, .bool b1, .string x2, .string x3, .bool b4]) (.agg #[.string x0, .bool b1, .string x2, .string x3, .bool b4])).run Tryz.prog W = .ok true W := by
  rw [run_equalIn_struct W 9999 79 _ _ (by kernel_rfl) (by kernel_rfl)]
  obtain ⟨f0, f1, f2, f3, f4, e, h0, h1, h2, h3, h4⟩ := five_of fields_it
  rw [e]
  rw [field_run h0 9999 _ _ _ W (by kernel_rfl) (.string x0) (.string x0) (x0.toList == x0.toList) rfl rfl (run_equalIn_string W 9998 _ x0 x0 Tryz.underlying9)]
  rw [field_run h1 9999 _ _ _ W (by kernel_rfl) (.bool b1) (.bool b1) (b1 == b1) rfl rfl (run_equalIn_bool W 9998 _ b1 b1 Tryz.underlying4)]
  rw [field_run h2 9999 _ _ _ W (by kernel_rfl) (.string x2) (.string x2) (x2.toList == x2.toList) rfl rfl (run_equalIn_string W 9998 _ x2 x2 Tryz.underlying9)]
  rw [field_run h3 9999 _ _ _ W (by kernel_rfl) (.string x3) (.string x3) (x3.toList == x3.toList) rfl rfl (run_equalIn_string W 9998 _ x3 x3 Tryz.underlying9)]
  rw [field_run h4 9999 _ _ _ W (by kernel_rfl) (.bool b4) (.bool b4) (b4 == b4) rfl rfl (run_equalIn_bool W 9998 _ b4 b4 Tryz.underlying4)]
  simp [Op.eqFields]
set_option maxHeartbeats 8000000 in
set_option maxRecDepth 100000 in
theorem sameTold_any (c1 c2 : Nat) (v1 v2 : Value) (t : Td) (w : World) (h1 : ToldAt c1 w v1 t) (h2 : ToldAt c2 w v2 t) :
    Calls Tryz.prog 15 #[v1, v2] w fun e w' => e = .returned (.bool true) ∧ Below w.heap.size w w' := by
  obtain ⟨i1, rfl, hi1⟩ := h1
  obtain ⟨i2, rfl, hi2⟩ := h2
  obtain ⟨is, tk⟩ := t
  simp only at hi1 hi2 ⊢
  obtain ⟨x, ex, dx⟩ := sv_some tk
  rw [ex]
  clear ex dx
  obtain ⟨N, hN⟩ : ∃ N, is.length = N := ⟨_, rfl⟩
  obtain ⟨A, ka, e1⟩ := hi1.form
  obtain ⟨B, kb, e2⟩ := hi2.form
  rw [hN] at e1 e2
  subst e1
  subst e2
  obtain ⟨Z, hZ⟩ : ∃ Z, w.heap.size = Z := ⟨_, rfl⟩
  obtain ⟨wB, hwB⟩ : ∃ wB, (w.alloc (.cells #[.slice A N ka, .string x] 41)).alloc (.cells #[.slice B N kb, .string x] 41) = wB := ⟨_, rfl⟩
  have hbB : Below w.heap.size w wB := by rw [← hwB]; exact ((Below.refl _ _).alloc (Nat.le_refl _) _).alloc (by simp) _
  have hp : wB.heap[Z]? = some (tdB (.slice A N ka) x) := by rw [← hwB, ← hZ]; exact heap_alloc2_old w _ _
  have hq : wB.heap[Z + 1]? = some (tdB (.slice B N kb) x) := by rw [← hwB, ← hZ]; exact heap_alloc2_new w _ _
  have hs : (x.toList == x.toList) = true := beq_self_eq_true _
  have hF := Lib.hid (fun wr (h : Below wB.heap.size wB wr) => And.intro (blk_at hp h) (And.intro (blk_at hq h) (And.intro (hi1.below (below_then hbB h)) (hi2.below (below_then hbB h)))))
  have hbB' := Lib.hid hbB
  have hN' := Lib.hid hN
  have hNb : N ≤ 9223372036854775807 := by
    obtain ⟨_, _, _, _, q1, q2, q3, _⟩ := hi1
    unfold maxLen at q3
    omega
  obtain ⟨y0, y1, _, _, yz⟩ := toldC hp
  obtain ⟨z0, z1, _, _, zz⟩ := toldC hq
  clear hN hbB hp hq hi1 hi2
  go_enter Tryz.func15, Tryz.ntmps15
  go_wp2
  go_loopw [23] (fun s23 wr => ∃ k : Nat, s23 = .int .i64 (k : Int) ∧ k ≤ N ∧ Below wB.heap.size wB wr) (fun s23 wr => N - (RowKit.intOf s23).toNat)
  case atStart => exact ⟨0, rfl, Nat.zero_le _, Below.refl _ _⟩
  case round =>
    clear y0 y1 yz z0 z1 zz
    obtain ⟨k, rfl, hk, hbr⟩ := hrel
    obtain ⟨hp, hq, hi1, hi2⟩ := hF.out wr hbr
    obtain ⟨y0, y1, _, _, yz⟩ := toldC hp
    obtain ⟨z0, z1, _, _, zz⟩ := toldC hq
    have hfin := Lib.hid (below_then hbB'.out hbr)
    have hbr' := Lib.hid hbr
    by_cases hlt : k < N
    · have hv : is[k]? = some (is[k]'(by have := hN'.out; omega)) := List.getElem?_eq_getElem _
      obtain ⟨i, hI⟩ : ∃ i, is[k]'(by have := hN'.out; omega) = i := ⟨_, rfl⟩
      rw [hI] at hv
      obtain ⟨A', b, off, k0', h1, h2, h3, h4, h5⟩ := hi1
      obtain ⟨h6, _, h7⟩ := h4 (by have := hN'.out; omega)
      injection h1 with h1 h8 h9
      subst h6
      subst h1
      subst h9
      obtain ⟨B', b', off', k0'', g1, g2, g3, g4, g5⟩ := hi2
      obtain ⟨g6, _, g7⟩ := g4 (by have := hN'.out; omega)
      injection g1 with g1 g8 g9
      subst g6
      subst g1
      subst g9
      obtain ⟨q0, q1, q2, q3, q4⟩ := h5 k i hv
      obtain ⟨r0, r1, r2, r3, r4⟩ := g5 k i hv
      obtain ⟨x0, e0, _⟩ := sv_some i.href
      obtain ⟨x2, e2, _⟩ := sv_some i.tag
      obtain ⟨x3, e3, _⟩ := sv_some i.data
      rw [e0] at q0 r0
      rw [e2] at q2 r2
      rw [e3] at q3 r3
      obtain ⟨b1, hb1⟩ : ∃ b1, i.gone = b1 := ⟨_, rfl⟩
      obtain ⟨b4, hb4⟩ : ∃ b4, i.book = b4 := ⟨_, rfl⟩
      rw [hb1] at q1 r1
      rw [hb4] at q4 r4
      have hE := eq_it x0 x2 x3 b1 b4
      unfold maxLen at h3 g3
      clear hv hI h4 h5 h7 h8 g4 g5 g7 g8 e0 e2 e3 hb1 hb4 hbr hp hq
      go_wp2
      go_quiet (fail)
      go_wp2
      go_roundw
      case rel => exact ⟨k + 1, by go_num, by omega, below_drewN _ hbr'.out⟩
      case measure => simp [RowKit.intOf]; omega
    · clear hi1 hi2 hbr hp hq
      go_wp2
      go_ret
      exact ⟨rfl, hfin.out⟩
end Go.Proofs.YtmmpojhjpghdlaaGreatDoor.Dv

/-
  MAKERS, GO ON: dav.telling (written by tools/gentell.py): a Told as pieces.
-/
set_option linter.unusedVariables false
namespace Go.Proofs.YtmmpojhjpghdlaaGreatDoor.Dv
open Go.Lib Go.RowKit Rg
open Xm (Row Pc sv PsOwn PcsAt append_piece below_then sv_some left_of)

section
variable {cc : Nat} {Q : Exit → Act → World → Prop} {a : Act} {sl : List Nat} {w1 : World} {F : Nat → Value → World → Prop} {i s : Nat} {o : Oper}
set_option maxRecDepth 100000 in
theorem ldIts (hg : o.guard = none) (hs : sl[i]? = some s) (hds : o.dst = some s) {k t : Nat} (hop : o.op = .load 39 (.tmp t)) (hk : k ∈ deps o) (ht : sl[k]? = some t) (p : Addr) (iv : Value) (hiv : ∃ A n c, iv = .slice A n c) (hFk : ∀ v W, F k v W → v = .pointer (some p)) (hx : ∀ W, Below w1.heap.size w1 W → W.cell? p = some iv) (hF : ∀ W, F i iv W) : MonoAt Tryz.prog Q a sl w1 F i o := by
  refine MonoAt.yields hg hs hds fun u W hW hd => ⟨iv, W, ?_, same_world W, hF W⟩
  obtain ⟨e1, e2⟩ := had hd hk ht
  rw [hFk _ _ e2] at e1
  have c := hx W hW
  obtain ⟨A, n, q, rfl⟩ := hiv
  clear hx hd hFk hF
  simp only [execOp, hop, e1]
  go_simp
set_option maxRecDepth 100000 in
theorem eaCall (hg : o.guard = none) (hs : sl[i]? = some s) (hds : o.dst = some s) {k t : Nat} (hop : o.op = .call { callee := .value (.func 60), args := #[.tmp t, .func 61], argTypes := #[39, 114] }) (hk : k ∈ deps o) (ht : sl[k]? = some t) (iv : Value) (is : List It) (hiv : ∃ A n c, iv = .slice A n c) (hFk : ∀ v W, F k v W → v = iv) (hx : ∀ W, Below w1.heap.size w1 W → ItsAt cc W iv is) (hF : ∀ W v, Mk cc W v (pcs is) → F i v W) : MonoAt Tryz.prog Q a sl w1 F i o := by
  refine MonoAt.calls hg hs hds fun u W hW hd => ⟨60, #[iv, .func (.func 61) #[] #[]], ?_, (each_any (cc := cc) iv is W (hx W hW)).mono ?_⟩
  · obtain ⟨e1, e2⟩ := had hd hk ht
    rw [hFk _ _ e2] at e1
    replace e1 := tmp_of e1
    obtain ⟨A, n, q, rfl⟩ := hiv
    clear hd hFk hF hx
    simp only [execOp, hop]
    go_simp
  · rintro e w' ⟨⟨v, rfl, hv⟩, hb⟩
    exact ⟨⟨_, rfl, hF _ _ hv⟩, hb⟩
end
def FTt (cc g : Nat) (iv : Value) (x : ByteArray) (P3 : List Pc) (is : List It) : Nat → Value → World → Prop
  | 0, v, W => v = .pointer (some ⟨g, 1, none⟩)
  | 1, v, W => v = .string x
  | 2, v, W => ∃ b, v = .bool b ∧ (b = true ↔ x.data.toList ≠ [])
  | 3, v, W => v = .agg #[.int .i64 1, .string ⟨#[115, 121, 110, 99, 45, 116, 111, 107, 101, 110]⟩]
  | 4, v, W => v = .pointer (some ⟨g, 1, none⟩)
  | 5, v, W => v = .string x
  | 6, v, W => Mk cc W v ([⟨3, 0, [], x.data.toList⟩])
  | 7, v, W => PartsAt cc W v [[⟨3, 0, [], x.data.toList⟩]]
  | 8, v, W => Mk cc W v (el 1 (⟨#[115, 121, 110, 99, 45, 116, 111, 107, 101, 110]⟩ : ByteArray).data.toList ([[⟨3, 0, [], x.data.toList⟩]] : List (List Pc)).flatten)
  | 9, v, W => Mk cc W v (if x.data.toList = [] then [] else (el 1 (⟨#[115, 121, 110, 99, 45, 116, 111, 107, 101, 110]⟩ : ByteArray).data.toList ([[⟨3, 0, [], x.data.toList⟩]] : List (List Pc)).flatten))
  | 10, v, W => Mk cc W v (if x.data.toList = [] then [] else (el 1 (⟨#[115, 121, 110, 99, 45, 116, 111, 107, 101, 110]⟩ : ByteArray).data.toList ([[⟨3, 0, [], x.data.toList⟩]] : List (List Pc)).flatten))
  | _, _, _ => True
theorem FTt_mono (cc g : Nat) (iv : Value) (x : ByteArray) (P3 : List Pc) (is : List It) : ∀ i v W W', FTt cc g iv x P3 is i v W → Below W.heap.size W W' → FTt cc g iv x P3 is i v W'
  | 0, _, _, _, h, hb => h
  | 1, _, _, _, h, hb => h
  | 2, _, _, _, h, hb => h
  | 3, _, _, _, h, hb => h
  | 4, _, _, _, h, hb => h
  | 5, _, _, _, h, hb => h
  | 6, _, _, _, h, hb => Mk.below h hb
  | 7, _, _, _, h, hb => PartsAt.below h hb
  | 8, _, _, _, h, hb => Mk.below h hb
  | 9, _, _, _, h, hb => Mk.below h hb
  | 10, _, _, _, h, hb => Mk.below h hb
  | _ + 11, _, _, _, _, _ => trivial
def FTm (cc g : Nat) (iv : Value) (x : ByteArray) (P3 : List Pc) (is : List It) : Nat → Value → World → Prop
  | 0, v, W => v = .agg #[.int .i64 1, .string ⟨#[109, 117, 108, 116, 105, 115, 116, 97, 116, 117, 115]⟩]
  | 1, v, W => v = .pointer (some ⟨g, 0, none⟩)
  | 2, v, W => v = iv
  | 3, v, W => Mk cc W v (pcs is)
  | 4, v, W => Mk cc W v P3
  | 5, v, W => PartsAt cc W v [pcs is, P3]
  | 6, v, W => Mk cc W v (el 1 (⟨#[109, 117, 108, 116, 105, 115, 116, 97, 116, 117, 115]⟩ : ByteArray).data.toList ([pcs is, P3] : List (List Pc)).flatten)
  | 7, v, W => Mk cc W v (el 1 (⟨#[109, 117, 108, 116, 105, 115, 116, 97, 116, 117, 115]⟩ : ByteArray).data.toList ([pcs is, P3] : List (List Pc)).flatten)
  | _, _, _ => True
theorem FTm_mono (cc g : Nat) (iv : Value) (x : ByteArray) (P3 : List Pc) (is : List It) : ∀ i v W W', FTm cc g iv x P3 is i v W → Below W.heap.size W W' → FTm cc g iv x P3 is i v W'
  | 0, _, _, _, h, hb => h
  | 1, _, _, _, h, hb => h
  | 2, _, _, _, h, hb => h
  | 3, _, _, _, h, hb => Mk.below h hb
  | 4, _, _, _, h, hb => Mk.below h hb
  | 5, _, _, _, h, hb => PartsAt.below h hb
  | 6, _, _, _, h, hb => Mk.below h hb
  | 7, _, _, _, h, hb => Mk.below h hb
  | _ + 8, _, _, _, _, _ => trivial

set_option maxHeartbeats 8000000 in
set_option maxRecDepth 100000 in
theorem telling_any {cc : Nat} (v : Value) (t : Td) (w : World) (ht : ToldAt cc w v t) : Calls Tryz.prog 33 #[v] w fun e w' => (∃ fv, e = .returned fv ∧ Mk cc w' fv (pcT t)) ∧ Below w.heap.size w w' := by
    obtain ⟨iv, rfl, hi⟩ := ht
    obtain ⟨x, ex, dx⟩ := sv_some t.token
    rw [ex]
    obtain ⟨is, tk⟩ := t
    simp only at hi ex dx
    have hiv : ∃ A n c, iv = .slice A n c := by
      obtain ⟨A, k, h⟩ := hi.form
      exact ⟨A, _, k, h⟩
    subst dx
    obtain ⟨R, hR⟩ : ∃ R, pcT ⟨is, x.data.toList⟩ = R := ⟨_, rfl⟩
    rw [hR]
    have hR' := Lib.hid hR
    clear hR ex
    obtain ⟨wB, hwB⟩ : ∃ wB, w.alloc (.cells #[iv, .string x] 41) = wB := ⟨_, rfl⟩
    have hk : wB.heap[w.heap.size]? = some (.cells #[iv, .string x] 41 (0, 0)) := by rw [← hwB]; exact heap_alloc_new w _
    have hb0 : Below w.heap.size w wB := by rw [← hwB]; exact (Below.refl _ _).alloc (Nat.le_refl _) _
    have hbS := Lib.hid hb0
    have hkS := Lib.hid hk
    have hiB := Lib.hid (hi.below hb0)
    have hiv' := Lib.hid hiv
    obtain ⟨A, n, c0, e0⟩ := hiv
    clear hk hb0 hi
    subst e0
    go_enter Tryz.func33, Tryz.ntmps33
    go_upto_region 1 with fail
    go_cut [3] from 4 to 13 (fun sv wx => Hid (Mk cc wx sv (opt 1 stokS x.data.toList)) ∧ Hid (Below w.heap.size w wx) ∧ Hid (wx.heap[w.heap.size]? = some (.cells #[(.slice A n c0), .string x] 41 (0, 0))) ∧ Hid (ItsAt cc wx (.slice A n c0) is))
    case first =>
      rename_i J K' hJ hK'
      have qc0 : ∀ W, Below wB.heap.size wB W → W.cell? ⟨w.heap.size, 0, none⟩ = some (.slice A n c0) := fun W hW => (Lib.cell_of_heap (blk_of hkS.out hW) 0).trans rfl
      have qc1 : ∀ W, Below wB.heap.size wB W → W.cell? ⟨w.heap.size, 1, none⟩ = some (.string x) := fun W hW => (Lib.cell_of_heap (blk_of hkS.out hW) 1).trans rfl
      have qci : ∀ W, Below wB.heap.size wB W → ItsAt cc W (.slice A n c0) is := fun W hW => hiB.out.below hW
      refine Rg.region_mono (by kernel_rfl) [4, 5, 6, 7, 8, 9, 10, 11, 12, 13, 3] (by decide) (by kernel_rfl) rfl (by kernel_rfl) rfl (FTt cc w.heap.size (.slice A n c0) x [] is) (FTt_mono cc w.heap.size (.slice A n c0) x [] is) ?_ ?_
      · exact ⟨faTold1 rfl rfl rfl rfl (by decide) (w.heap.size) rfl (fun _ => rfl),
              ldStr rfl rfl rfl (k := 0) rfl (by decide) rfl ⟨w.heap.size, 1, none⟩ x (fun _ _ h => h) qc1 (fun _ => rfl),
              neStr rfl rfl rfl (k := 1) rfl (by decide) rfl x (fun _ _ h => h) (fun _ b h => ⟨b, rfl, h⟩),
              nmCall rfl rfl rfl ⟨#[115, 121, 110, 99, 45, 116, 111, 107, 101, 110]⟩ rfl (fun _ => rfl),
              faTold1 rfl rfl rfl rfl (by decide) (w.heap.size) rfl (fun _ => rfl),
              ldStr rfl rfl rfl (k := 4) rfl (by decide) rfl ⟨w.heap.size, 1, none⟩ x (fun _ _ h => h) qc1 (fun _ => rfl),
              chCall rfl rfl rfl (k := 5) rfl (by decide) rfl x (fun _ _ h => h) (fun _ _ h => h),
              bs1 rfl rfl rfl (k := 6) rfl (by decide) rfl ([⟨3, 0, [], x.data.toList⟩]) (fun _ _ h => h) (fun _ _ h => h),
              arCall rfl rfl rfl (k := 3) (k' := 7) rfl (by decide) rfl (by decide) rfl 1 ⟨#[115, 121, 110, 99, 45, 116, 111, 107, 101, 110]⟩ [[⟨3, 0, [], x.data.toList⟩]] (fun _ _ h => h) (fun _ _ h => h) (fun _ _ h => h),
              whCall rfl rfl rfl (k := 2) (k' := 8) rfl (by decide) rfl (by decide) rfl (fun b => b = true ↔ x.data.toList ≠ []) ((el 1 (⟨#[115, 121, 110, 99, 45, 116, 111, 107, 101, 110]⟩ : ByteArray).data.toList ([[⟨3, 0, [], x.data.toList⟩]] : List (List Pc)).flatten)) (fun _ _ h => h) (fun _ _ h => h) (fun W v b hb h => by rw [whNe hb] at h; exact h),
              asNew rfl rfl rfl (k := 9) rfl (by decide) rfl (fun _ _ h => h), trivial⟩
      · intro u W hW hu
        have r1 : Mk cc W (u 3) _ := hu 10 3 rfl
        clear hu
        show K' _ _
        refine hK' _ _ (Met.intro (hJ _ _ ?_))
        unfold Rg.puts
        simp only [List.foldl_cons, List.foldl_nil, Act.put, List.setIfInBounds_toArray, List.set_cons_succ, List.set_cons_zero]
        repeat apply Exists.intro
        refine ⟨?rel1, rfl⟩
        exact ⟨Lib.hid (by exact r1), Lib.hid (below_then hbS.out hW), Lib.hid (blk_of hkS.out hW), Lib.hid (hiB.out.below hW)⟩
    case rest =>
      obtain ⟨m3, hbS, hkS, hiB⟩ := hcut
      obtain ⟨f3, q3, es⟩ := m3.out.form
      subst es
      obtain ⟨P3, hP3⟩ : ∃ P3, (opt 1 stokS x.data.toList) = P3 := ⟨_, rfl⟩
      rw [hP3] at m3
      have hP3' := Lib.hid hP3
      clear hP3
      go_upto_region 2 with fail
      go_cut [2] from 14 to 20 (fun sv wx => Hid (Mk cc wx sv (R)) ∧ Hid (Below w.heap.size w wx))
      case first =>
        rename_i J K' hJ hK'
        have qc0 : ∀ W, Below wc.heap.size wc W → W.cell? ⟨w.heap.size, 0, none⟩ = some (.slice A n c0) := fun W hW => (Lib.cell_of_heap (blk_of hkS.out hW) 0).trans rfl
        have qc1 : ∀ W, Below wc.heap.size wc W → W.cell? ⟨w.heap.size, 1, none⟩ = some (.string x) := fun W hW => (Lib.cell_of_heap (blk_of hkS.out hW) 1).trans rfl
        have qci : ∀ W, Below wc.heap.size wc W → ItsAt cc W (.slice A n c0) is := fun W hW => hiB.out.below hW
        refine Rg.region_mono (by kernel_rfl) [14, 15, 16, 17, 18, 19, 20, 2] (by decide) (by kernel_rfl) rfl (by kernel_rfl) rfl (FTm cc w.heap.size (.slice A n c0) x P3 is) (FTm_mono cc w.heap.size (.slice A n c0) x P3 is) ?_ ?_
        · exact ⟨nmCall rfl rfl rfl ⟨#[109, 117, 108, 116, 105, 115, 116, 97, 116, 117, 115]⟩ rfl (fun _ => rfl),
                faTold0 rfl rfl rfl rfl (by decide) (w.heap.size) rfl (fun _ => rfl),
                ldIts rfl rfl rfl (k := 1) rfl (by decide) rfl ⟨w.heap.size, 0, none⟩ (.slice A n c0) ⟨A, n, c0, rfl⟩ (fun _ _ h => h) qc0 (fun _ => rfl),
                eaCall rfl rfl rfl (k := 2) rfl (by decide) rfl (.slice A n c0) is ⟨A, n, c0, rfl⟩ (fun _ _ h => h) qci (fun _ _ h => h),
                mvOld rfl rfl rfl rfl (by decide) (.func (.func f3) #[] q3) rfl (fun W h => m3.out.below h),
                bs2 rfl rfl rfl (k := 3) (k' := 4) rfl (by decide) rfl (by decide) rfl (pcs is) (P3) (fun _ _ h => h) (fun _ _ h => h) (fun _ _ h => h),
                arCall rfl rfl rfl (k := 0) (k' := 5) rfl (by decide) rfl (by decide) rfl 1 ⟨#[109, 117, 108, 116, 105, 115, 116, 97, 116, 117, 115]⟩ [pcs is, P3] (fun _ _ h => h) (fun _ _ h => h) (fun _ _ h => h),
                asNew rfl rfl rfl (k := 6) rfl (by decide) rfl (fun _ _ h => h), trivial⟩
        · intro u W hW hu
          have r1 : Mk cc W (u 2) _ := hu 7 2 rfl
          clear hu
          show K' _ _
          refine hK' _ _ (Met.intro (hJ _ _ ?_))
          unfold Rg.puts
          simp only [List.foldl_cons, List.foldl_nil, Act.put, List.setIfInBounds_toArray, List.set_cons_succ, List.set_cons_zero]
          repeat apply Exists.intro
          refine ⟨?rel2, rfl⟩
          exact ⟨Lib.hid (by rw [flat2, ← hP3'.out] at r1; rw [← hR'.out]; exact r1), Lib.hid (below_then hbS.out hW)⟩
      case rest =>
        obtain ⟨m2, hb2⟩ := hcut
        obtain ⟨f, caps, es⟩ := m2.out.form
        subst es
        go_wp2
        go_ret
        exact ⟨⟨_, rfl, m2.out⟩, hb2.out⟩
end Go.Proofs.YtmmpojhjpghdlaaGreatDoor.Dv

/-
  THE WALK OF slices.Equal AT PIECES.
-/
set_option linter.unusedVariables false
namespace Go.Proofs.YtmmpojhjpghdlaaGreatDoor.Dv
open Go.Lib Go.RowKit
open Xm

set_option maxHeartbeats 4000000 in
set_option maxRecDepth 100000 in
theorem equalP_any (v1 v2 : Value) (ps qs : List Pc) (w : World) (h1 : PcsAt w v1 ps) (h2 : PcsAt w v2 qs) :
    Calls Tryz.prog 35 #[v1, v2] w fun e w' => e = .returned (.bool (decide (ps = qs))) ∧ Below w.heap.size w w' := by
  obtain ⟨A, b, off, c, rfl, hc1, hc2, hA, hP⟩ := h1
  obtain ⟨B, b', off', c', rfl, hd1, hd2, hB, hQ⟩ := h2
  unfold maxLen at hc2 hd2
  obtain ⟨R, hR⟩ : ∃ R, decide (ps = qs) = R := ⟨_, rfl⟩
  rw [hR]
  by_cases gn : ps.length = qs.length
  · obtain ⟨n, hn⟩ : ∃ n, ps.length = n := ⟨_, rfl⟩
    have hm : qs.length = n := by omega
    have hno : Hid (∀ (k : Nat) (p q : Pc), ps[k]? = some p → qs[k]? = some q → p ≠ q → R = false) := Lib.hid fun k p q hp hq hne => by
      rw [← hR]
      refine decide_eq_false fun e => ?_
      rw [e, hq] at hp
      exact hne (Option.some.inj hp).symm
    have hyes : Hid (ps.take n = qs.take n → R = true) := Lib.hid fun h => by
      rw [List.take_of_length_le (by omega), List.take_of_length_le (by omega)] at h
      rw [← hR]; exact decide_eq_true h
    rw [hn] at hc1 hA ⊢
    rw [hm] at hd1 hB ⊢
    have hn' := Lib.hid hn
    have hm' := Lib.hid hm
    have hP' := Lib.hid hP
    have hQ' := Lib.hid hQ
    have hA' := Lib.hid hA
    have hB' := Lib.hid hB
    clear gn hn hm hP hQ hA hB hR
    go_enter Tryz.func35, Tryz.ntmps35
    go_wp2
    go_loopw [13] (fun s13 wr => ∃ k : Nat, s13 = .int .i64 (k : Int) ∧ k ≤ n ∧ ps.take k = qs.take k ∧ Below w.heap.size w wr) (fun s13 wr => n - (RowKit.intOf s13).toNat)
    case atStart => exact ⟨0, rfl, Nat.zero_le _, rfl, Below.refl _ _⟩
    case round =>
      obtain ⟨k, rfl, hk, heq, hbr⟩ := hrel
      by_cases hlt : k < n
      · have hp : ps[k]? = some (ps[k]'(by have := hn'.out; omega)) := List.getElem?_eq_getElem _
        have hq : qs[k]? = some (qs[k]'(by have := hm'.out; omega)) := List.getElem?_eq_getElem _
        obtain ⟨P, hPe⟩ : ∃ P, ps[k]'(by have := hn'.out; omega) = P := ⟨_, rfl⟩
        obtain ⟨Q, hQe⟩ : ∃ Q, qs[k]'(by have := hm'.out; omega) = Q := ⟨_, rfl⟩
        rw [hPe] at hp
        rw [hQe] at hq
        clear hPe hQe
        obtain ⟨rfl, hAb⟩ := hA'.out (by omega)
        obtain ⟨rfl, hBb⟩ := hB'.out (by omega)
        obtain ⟨a1, a2, d1, d2, p0, p1, p2, p3⟩ := PcsAt.piece hP'.out hAb hbr hp
        obtain ⟨b1, b2, g1, g2, q0, q1, q2, q3⟩ := PcsAt.piece hQ'.out hBb hbr hq
        have hE := eq_pc P.kind P.space Q.kind Q.space a1 a2 b1 b2
        rw [pc_eq d1 d2 g1 g2] at hE
        have hno2 := hno.out k P Q hp hq
        have hbr' := Lib.hid hbr
        by_cases hpq : P = Q
        · have hnx := Lib.hid (take_next heq (by rw [hp, hpq]) hq)
          rw [decide_eq_true hpq] at hE
          clear d1 d2 g1 g2 hp hq hpq hno2 heq hbr
          go_wp2
          go_quiet (fail)
          go_wp2
          go_roundw
          case rel => exact ⟨k + 1, by go_num, by omega, hnx.out, below_drewN _ hbr'.out⟩
          case measure => simp [RowKit.intOf]; omega
        · have hRf := hno2 hpq
          rw [decide_eq_false hpq] at hE
          subst hRf
          clear d1 d2 g1 g2 hp hq hpq hno2 heq hbr
          go_wp2
          go_quiet (fail)
          go_wp2
          go_ret
          exact ⟨rfl, below_drewN _ hbr'.out⟩
      · have hRt := hyes.out (by rw [show n = k by omega]; exact heq)
        subst hRt
        clear heq
        go_wp2
        go_ret
        exact ⟨rfl, by assumption⟩
  · have hRf : R = false := by
      rw [← hR]
      exact decide_eq_false fun e => gn (by rw [e])
    subst hRf
    have g1 : ¬ (ps.length : Int) = (qs.length : Int) := by omega
    clear hR hP hQ hA hB
    go_enter Tryz.func35, Tryz.ntmps35
    go_wp2
    go_ret
    exact ⟨rfl, Below.refl _ _⟩
end Go.Proofs.YtmmpojhjpghdlaaGreatDoor.Dv
