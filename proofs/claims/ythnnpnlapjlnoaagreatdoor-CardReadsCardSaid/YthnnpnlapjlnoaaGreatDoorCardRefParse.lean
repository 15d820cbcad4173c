/-
  THE WALK OF THE REFERENCE's Parse: what a text is read as.
-/
import Derived.Test.YthnnpnlapjlnoaaGreatDoorCardRefLines
import Derived.Test.YthnnpnlapjlnoaaGreatDoorFoldRefUnf
import Derived.Test.YthnnpnlapjlnoaaGreatDoorMgC
set_option linter.unusedVariables false
namespace Go.Proofs.YthnnpnlapjlnoaaGreatDoor.Ca
open Go.Lib Go.RowKit
open Li (LD PD sv POwn LOwn LineAt PrmsAt chk pr parse)

theorem ParseC.kept {t : Row} {e : Ending} {w w' : World} (h : ParseC t e w) (hb : Below w.heap.size w w') : ParseC t e w' := by
  obtain ⟨A, n, c, h1, h2⟩ := h
  exact ⟨A, n, c, h1, h2.kept hb⟩
theorem get_dat {Ls : List LD} {i : Nat} (h : i < Ls.length) : Ls[i]? = some (Ls.getD i default) := by
  rw [List.getD_eq_getElem?_getD, List.getElem?_eq_getElem h]; rfl

set_option maxHeartbeats 16000000 in
set_option maxRecDepth 100000 in
theorem refParseC_any (T : ByteArray) (w : World) :
    Calls Tryz.prog 11 #[.string T] w fun e w' => ParseC T.data.toList e w' ∧ Below w.heap.size w w' := by
  obtain ⟨Z, hZ⟩ : ∃ Z, w.heap.size = Z := ⟨_, rfl⟩
  obtain ⟨w1, hw1⟩ : ∃ w1, w.alloc (.cells #[.slice none 0 0] 25) = w1 := ⟨_, rfl⟩
  have B1 : Below w.heap.size w w1 := by rw [← hw1]; exact (Below.refl _ _).alloc (Nat.le_refl _) _
  have hres : w1.heap[Z]? = some (.cells #[.slice none 0 0] 25 (0, 0)) := by rw [← hw1, ← hZ]; exact heap_alloc_new w _
  have hz1 : Z + 1 ≤ w1.heap.size := by rw [← hw1, ← hZ]; simp
  -- an error's end: the zero card is stored once more
  have ERR : ∀ (n : Nat) (W : World), pcard T.data.toList = (n, []) → Below w1.heap.size w1 W → W.cell? ⟨Z, 0, none⟩ = some (.slice none 0 0) ∧ W.frozen? ⟨Z, 0, none⟩ = false ∧ (W.setCell ⟨Z, 0, none⟩ (.slice none 0 0)).cell? ⟨Z, 0, none⟩ = some (.slice none 0 0) ∧
      (ParseC T.data.toList (.returned (.tuple #[.agg #[.slice none 0 0], .int .i64 (n : Int)])) (W.setCell ⟨Z, 0, none⟩ (.slice none 0 0)) ∧ Below w.heap.size w (W.setCell ⟨Z, 0, none⟩ (.slice none 0 0))) := fun n W hn hb => by
    have hr : W.heap[Z]? = some (.cells #[.slice none 0 0] 25 (0, 0)) := (hb.block _ (by omega)).trans hres
    have hr2 : (W.setCell ⟨Z, 0, none⟩ (.slice none 0 0)).heap[Z]? = some (.cells #[.slice none 0 0] 25 (0, 0)) := by simp [World.setCell, Array.getElem?_modify, hr]
    refine ⟨by rw [Lib.cell_of_heap hr]; rfl, Lib.frozen_of_heap hr 0, by rw [Lib.cell_of_heap hr2]; rfl, ⟨none, 0, 0, by rw [hn], by rw [hn]; exact linesNil _⟩, ?_⟩
    exact (belowThen B1 hb).setCell (p := ⟨Z, 0, none⟩) (by show w.heap.size ≤ Z; omega) _
  have ERR' := Lib.hid ERR
  have hres' := Lib.hid hres
  have B1' := Lib.hid B1
  have hZ' := Lib.hid hZ
  clear ERR hres B1
  go_enter Tryz.func11, Tryz.ntmps11
  by_cases hlong : 65536 < T.size
  · have hz : (65536 : Int) < (T.size : Int) := by omega
    have hp : pcard T.data.toList = (11, []) := by unfold pcard; rw [if_pos (by rw [← Lib.size_eq]; exact hlong)]
    obtain ⟨x1, x2, x3, x4⟩ := ERR'.out 11 w1 hp (Below.refl _ _)
    have X4 := Lib.hid x4
    clear hp hlong x4
    go_wp2
    exact bodyPost_ret (v := .tuple #[.agg #[.slice none 0 0], .int .i64 11]) (by simp [results, Tryz.results11, go_sem, x3]) rfl X4.out
  · have hz : ¬ (65536 : Int) < (T.size : Int) := by omega
    have hl : ¬ 65536 < T.data.toList.length := by rw [← Lib.size_eq]; exact hlong
    have cV := fun W => Ch.refValid_any T W (by omega)
    cases hv : Ch.valid T.data.toList with
    | false =>
      rw [hv] at cV
      have hp : pcard T.data.toList = (10, []) := by unfold pcard; rw [if_neg hl, if_neg (by rw [hv]; simp)]
      have hp' := Lib.hid hp
      clear hp hl hlong hv
      go_wp2_with fail
      clear hZ
      go_at_call 28
      refine (cV _).mono ?_
      rintro e w2 ⟨rfl, rfl⟩
      obtain ⟨x1, x2, x3, x4⟩ := ERR'.out 10 w1 hp'.out (Below.refl _ _)
      have X4 := Lib.hid x4
      clear x4
      go_wp2
      exact bodyPost_ret (v := .tuple #[.agg #[.slice none 0 0], .int .i64 10]) (by simp [results, Tryz.results11, go_sem, x3]) rfl X4.out
    | true =>
      rw [hv] at cV
      have hp0 : pcard T.data.toList = pcR (Fo.R [] T.data.toList) := by unfold pcard; rw [if_neg hl, if_pos hv]
      have hp0' := Lib.hid hp0
      have hsl : T.size ≤ 65536 := by omega
      have hsl' := Lib.hid hsl
      clear hp0 hl hlong hv
      go_wp2_with fail
      clear hZ
      go_at_call 28
      refine (cV _).mono ?_
      rintro e w2 ⟨rfl, rfl⟩
      have cU := Fo.refUnfold_any T w1 (by have := hsl'.out; omega)
      clear cV
      go_wp2_with fail
      go_at_call 29
      refine cU.mono ?_
      rintro e w3 ⟨hu, hb3⟩
      have hB3 := Lib.hid hb3
      clear cU hb3
      rcases hu with ⟨v, rows, rfl, hR, hown⟩ | ⟨rfl, hR⟩
      · have htot := Fo.R_tot _ _ hR
        rw [← Lib.size_eq] at htot
        have htot2 : Fo.tot rows ≤ 65536 := by have := hsl'.out; omega
        have hSA : Li.StrsAt w3 v rows := (show Li.Own w1.heap.size v rows w3 from hown).at
        have hrl : ∀ r ∈ rows, r.length ≤ 1099511627776 := fun r hr => by have := Fo.tot_get rows r hr; omega
        have hrn : rows.length ≤ 1099511627776 := by have := Fo.tot_len rows; omega
        have hp1 := Lib.hid (hp0'.out.trans (by rw [hR]; rfl) : pcard T.data.toList = pc2 (lnF [] rows))
        obtain ⟨A, b, off, c, rfl, h1, h2, h3, h4⟩ := hSA
        obtain ⟨n, hn⟩ : ∃ n, rows.length = n := ⟨_, rfl⟩
        rw [hn] at h1 h3 hrn ⊢
        have hn' := Lib.hid hn
        have h3' := Lib.hid h3
        have h4' := Lib.hid h4
        have hs' := Lib.hid hrl
        have htot' := Lib.hid htot2
        clear hrl hown hR htot hp0' htot2 hn h3 h4
        go_wp2_with fail
        go_loopw [6, 33] (fun s6 s33 wr => ∃ (k : Nat) (Ls : List LD), s33 = .int .i64 (k : Int) ∧ k ≤ n ∧ Hid (LsOwn w3.heap.size s6 Ls wr ∧ AllP (rows.take k) Ls ∧ lnF [] rows = lnF Ls (rows.drop k)) ∧ Hid (Below w3.heap.size w3 wr)) (fun s6 s33 wr => n - (RowKit.intOf s33).toNat)
        case atStart => exact ⟨0, [], rfl, Nat.zero_le _, Lib.hid ⟨LsOwn.nil _ _, ⟨by simp, fun i h => by simp at h⟩, rfl⟩, Lib.hid (Below.refl _ _)⟩
        case round =>
          obtain ⟨k, Ls, rfl, hk, hR, hbw⟩ := hrel
          by_cases hlt : k < n
          · have hlk : k < rows.length := by have := hn'.out; omega
            have hl : rows[k]? = some rows[k] := List.getElem?_eq_getElem _
            obtain ⟨r, hle⟩ : ∃ r, rows[k] = r := ⟨_, rfl⟩
            have hmem : r ∈ rows := by rw [← hle]; exact List.getElem_mem _
            rw [hle] at hl
            obtain ⟨rfl, hg⟩ := h3'.out (by omega)
            have hcell := h4'.out k r hl
            rw [← hbw.out.cell (p := ⟨b, off + k, none⟩) hg] at hcell
            obtain ⟨x, ex, hx⟩ := Li.sv_some r
            rw [ex] at hcell
            have hxs : x.size ≤ 1099511627776 := by rw [Lib.size_eq, hx]; exact hs'.out r hmem
            have cP := fun W => Li.refParse_any x W hxs
            rw [hx] at cP
            have hdr : rows.drop k = r :: rows.drop (k + 1) := by rw [List.drop_eq_getElem_cons hlk, hle]
            have htk : rows.take (k + 1) = rows.take k ++ [r] := by rw [List.take_succ_eq_append_getElem hlk, hle]
            have hdr' := Lib.hid hdr
            have htk' := Lib.hid htk
            clear hl hle hmem ex hx hdr htk hlk
            go_wp2_with fail
            go_at_call 30
            refine (cP _).mono ?_
            rintro e w4 ⟨hp, hb4⟩
            have hB4 := belowThen hbw.out hb4
            clear cP
            rcases hp with ⟨m, p1, p2, p3, rfl⟩ | ⟨L, u, p1, rfl, p2⟩
            · have HO := (hR.out.2.2.trans (by rw [hdr'.out])).trans (lnF_bad p1)
              have hp2 : pcard T.data.toList = (m, []) := by rw [hp1.out, HO]; exact pc2_bad p2
              have d0 : ¬ (m : Int) = 0 := by omega
              have d0' : ((m : Int) == 0) = false := beq_eq_false_iff_ne.2 d0
              have hB5 : Below w3.heap.size w3 (w4.alloc (.cells #[.string ⟨#[]⟩, .string ⟨#[]⟩, .slice none 0 0, .string ⟨#[]⟩] 41)) := hB4.alloc hB4.size _
              obtain ⟨x1, x2, v3, v4⟩ := ERR'.out m w4 hp2 (belowThen hB3.out hB4)
              have hzZ : Z < w4.heap.size := by have := (belowThen hB3.out hB4).size; omega
              have hzN : ¬ Z = w4.heap.size := by omega
              have hbA : Below (w4.setCell ⟨Z, 0, none⟩ (.slice none 0 0)).heap.size (w4.setCell ⟨Z, 0, none⟩ (.slice none 0 0)) ((w4.setCell ⟨Z, 0, none⟩ (.slice none 0 0)).alloc (.cells #[.string ⟨#[]⟩, .string ⟨#[]⟩, .slice none 0 0, .string ⟨#[]⟩] 41)) := (Below.refl _ _).alloc (Nat.le_refl _) _
              have x3 := (hbA.cell (p := ⟨Z, 0, none⟩) (by simpa [World.setCell] using hzZ)).trans v3
              have X4 := Lib.hid (And.intro (v4.1.kept hbA) (belowThen v4.2 hbA))
              clear v3 v4
              clear hbA HO hp2 p1 p2 p3 hB4 hB5 hb4 hR
              go_wp2
              exact bodyPost_ret (v := .tuple #[.agg #[.slice none 0 0], .int .i64 (m : Int)]) (by simp [results, Tryz.results11, go_sem, x3]) rfl X4.out
            · obtain ⟨q1, q2, q3⟩ := hR.out
              rw [hdr'.out, lnF_ok p1] at q3
              obtain ⟨qv, hu, hqo⟩ := p2
              obtain ⟨y1, ey1, hy1⟩ := Li.sv_some L.group
              obtain ⟨y2, ey2, hy2⟩ := Li.sv_some L.name
              obtain ⟨y4, ey4, hy4⟩ := Li.sv_some L.value
              rw [ey1, ey2, ey4] at hu
              subst hu
              obtain ⟨qA, qn, qc, rfl⟩ : ∃ A n c, qv = .slice A n c := by obtain ⟨A, _, _, c, h, _⟩ := hqo.at; exact ⟨A, _, c, h⟩
              have hbx : Below w4.heap.size w4 (w4.alloc (.cells #[.string y1, .string y2, .slice qA qn qc, .string y4] 41)) := (Below.refl _ _).alloc (Nat.le_refl _) _
              have hbr : Below wr.heap.size wr (w4.alloc (.cells #[.string y1, .string y2, .slice qA qn qc, .string y4] 41)) := belowThen hb4 hbx
              obtain ⟨w5, hw5⟩ : ∃ w5, w4.alloc (.cells #[.string y1, .string y2, .slice qA qn qc, .string y4] 41) = w5 := ⟨_, rfl⟩
              have hk5 : w5.heap[w4.heap.size]? = some (.cells #[.string y1, .string y2, .slice qA qn qc, .string y4] 41 (0, 0)) := by rw [← hw5]; exact heap_alloc_new w4 _
              obtain ⟨m0, m1, m2, m3, _, _, _, _⟩ := Li.res4 hk5
              rw [hw5] at hbx hbr
              have hown5 := Lib.hid (q1.kept hbr)
              have hqo5 := Lib.hid ((hqo.kept hbx).less hbw.out.size)
              have hB5 := Lib.hid (belowThen hB4 hbx)
              have sz5 : w3.heap.size ≤ w5.heap.size := hB5.out.size
              have hnx := Lib.hid (And.intro (AllP.snoc q2 p1) q3)
              have hkl : Ls.length ≤ 1099511627776 := by have := q2.1; rw [List.length_take] at this; omega
              have hee := Lib.hid (And.intro ey1 (And.intro ey2 ey4))
              clear p1 hR hb4 hB4 hqo ey1 ey2 ey4 hy1 hy2 hy4 hbx hbr hk5 q1 q2 q3
              go_wp2_with (at_builtin; refine append_line L y1 y2 y4 (.slice qA qn qc) hee.out.1 hee.out.2.1 hee.out.2.2 ⟨_, _, _, rfl⟩ rfl _ _ rfl w3.heap.size _ _ w5.heap.size rfl rfl rfl hown5.out hqo5.out hkl sz5 ?_)
              intro v7 w7 hown7 hleft7
              have hB7 : Below w3.heap.size w3 w7 := hleft7 _ _ hB5.out (Nat.le_refl _) sz5
              have hown7' := Lib.hid (And.intro hown7 (And.intro (by rw [htk'.out]; exact hnx.out.1 : AllP (rows.take (k + 1)) (Ls ++ [L])) hnx.out.2))
              have hB7' := Lib.hid hB7
              clear hown7 hleft7 hB7
              go_wp2
              go_roundw
              case rel => exact ⟨k + 1, Ls ++ [L], by go_num, by omega, hown7', hB7'⟩
              case measure => simp [RowKit.intOf]; omega
          · have ek : k = n := by omega
            obtain ⟨q1, q2, q3⟩ := hR.out
            rw [List.drop_eq_nil_of_le (by have := hn'.out; omega)] at q3
            rw [List.take_of_length_le (by have := hn'.out; omega)] at q2
            have q3 : lnF [] rows = (0, Ls) := q3
            have hps : prsum Ls ≤ 196608 := by
              have := parse_pr_le q2
              have := htot'.out
              omega
            have hp2 : pcard T.data.toList = if framedL Ls = true ∧ rightB (midL Ls) = true then (0, midL Ls) else (50, []) := by rw [hp1.out, q3]; exact pc2_ok Ls
            have hsz : ∀ L ∈ Ls, Li.SzL 196608 L := fun L hL => Li.sz_pr (by have := prsum_mem hL; omega)
            have hckM : ∀ L ∈ midL Ls, chk L = 0 := fun L hL => parsed_chk q2 L (mid_mem hL)
            have hcE := checkE_ok hckM
            have hpm : prsum (midL Ls) ≤ 196608 := by have := prsum_sub (Ls := Ls); omega
            obtain ⟨N, hN⟩ : ∃ N, Ls.length = N := ⟨_, rfl⟩
            obtain ⟨ua, uc, rfl⟩ := q1.form
            have hNl : N ≤ 196608 := by rw [← hN]; have := prsum_len Ls; omega
            rw [hN] at q1 ⊢
            have hBr := belowThen hB3.out hbw.out
            have hpE : framedL Ls = false → pcard T.data.toList = (50, []) := fun hf => by rw [hp2, if_neg (by rw [hf]; simp)]
            have hpE' := Lib.hid hpE
            have hBr' := Lib.hid hBr
            clear hBr hpE
            by_cases h3 : N < 3
            · have hf : framedL Ls = false := by unfold framedL; rw [hN, decide_eq_false (by omega)]; rfl
              have h3z : (N : Int) < 3 := by omega
              obtain ⟨x1, x2, x3, x4⟩ := ERR'.out 50 wr (hpE'.out hf) hBr'.out
              have X4 := Lib.hid x4
              clear x4 hf hR q1 q2 q3 hp1 hp2 hsz hckM hcE hps hpm ek hbw
              go_wp2
              exact bodyPost_ret (v := .tuple #[.agg #[.slice none 0 0], .int .i64 50]) (by simp [results, Tryz.results11, go_sem, x3]) rfl X4.out
            · have h3z : ¬ (N : Int) < 3 := by omega
              have q1a := q1
              rw [← hN] at q1a
              obtain ⟨g, cap, hv, hc1, hc2, hmid⟩ := q1a.mid (by omega)
              injection hv with hv1 hv2 hv3
              subst hv1; subst hv3
              rw [hN] at hmid hc1
              obtain ⟨A', b', off', c', ev, _, _, u3, u4⟩ := q1a.at
              injection ev with ev1 ev2 ev3
              subst ev1; subst ev3
              obtain ⟨ev4, hg⟩ := u3 (by omega)
              injection ev4 with ev4
              injection ev4 with ev5 ev6
              subst ev5; subst ev6
              have hz : ∀ j, j < N → Ls.getD j default ∈ Ls := fun j hj => List.mem_of_getElem? (get_dat (by omega))
              obtain ⟨m, hm⟩ : ∃ m : Nat, m = N - 1 := ⟨_, rfl⟩
              obtain ⟨a01, a02, a04, P0, n0, k0, e01, e02, e04, hq0, pp0, g00, g01, g02, g03⟩ := LinesAt.line u4 hg (Below.refl _ _) (get_dat (i := 0) (by omega))
              obtain ⟨a11, a12, a14, P1, n1, k1, e11, e12, e14, hq1, pp1, g10, g11, g12, g13⟩ := LinesAt.line u4 hg (Below.refl _ _) (get_dat (i := 1) (by omega))
              obtain ⟨a21, a22, a24, P2, n2, k2, e21, e22, e24, hq2, pp2, g20, g21, g22, g23⟩ := LinesAt.line u4 hg (Below.refl _ _) (get_dat (i := m) (by omega))
              have w0 := fun W (hW : Below wr.heap.size wr W) => is_any (.agg #[.string a01, .string a02, .slice P0 n0 k0, .string a04]) (Ls.getD 0 default) ⟨#[66, 69, 71, 73, 78]⟩ ⟨#[86, 67, 65, 82, 68]⟩ W ⟨.slice P0 n0 k0, by rw [e01, e02, e04], pp0.kept hW⟩ (by have := (hsz _ (hz 0 (by omega))).n; omega) (by have := (hsz _ (hz 0 (by omega))).v; omega)
              have w1' := fun W (hW : Below wr.heap.size wr W) => is_any (.agg #[.string a11, .string a12, .slice P1 n1 k1, .string a14]) (Ls.getD 1 default) ⟨#[86, 69, 82, 83, 73, 79, 78]⟩ ⟨#[52, 46, 48]⟩ W ⟨.slice P1 n1 k1, by rw [e11, e12, e14], pp1.kept hW⟩ (by have := (hsz _ (hz 1 (by omega))).n; omega) (by have := (hsz _ (hz 1 (by omega))).v; omega)
              have w2' := fun W (hW : Below wr.heap.size wr W) => is_any (.agg #[.string a21, .string a22, .slice P2 n2 k2, .string a24]) (Ls.getD m default) ⟨#[69, 78, 68]⟩ ⟨#[86, 67, 65, 82, 68]⟩ W ⟨.slice P2 n2 k2, by rw [e21, e22, e24], pp2.kept hW⟩ (by have := (hsz _ (hz m (by omega))).n; omega) (by have := (hsz _ (hz m (by omega))).v; omega)
              obtain ⟨t0, ht0⟩ : ∃ t, isB (Ls.getD 0 default) wBEGIN wVCARD = t := ⟨_, rfl⟩
              obtain ⟨t1, ht1⟩ : ∃ t, isB (Ls.getD 1 default) wVERSION w40 = t := ⟨_, rfl⟩
              obtain ⟨t2, ht2⟩ : ∃ t, isB (Ls.getD m default) wEND wVCARD = t := ⟨_, rfl⟩
              have hfr : framedL Ls = (t0 && (t1 && t2)) := by
                unfold framedL
                rw [hN, decide_eq_true (by omega), ← hm, ht0, ht1, ht2]; rfl
              have w0t : ∀ W, Below wr.heap.size wr W → Calls Tryz.prog 31 #[.agg #[.string a01, .string a02, .slice P0 n0 k0, .string a04], .string ⟨#[66, 69, 71, 73, 78]⟩, .string ⟨#[86, 67, 65, 82, 68]⟩] W fun e w' => e = .returned (.bool t0) ∧ Below W.heap.size W w' := fun W hW => by have := w0 W hW; rw [show (⟨#[66, 69, 71, 73, 78]⟩ : ByteArray).data.toList = wBEGIN from rfl, show (⟨#[86, 67, 65, 82, 68]⟩ : ByteArray).data.toList = wVCARD from rfl, ht0] at this; exact this
              have w1t : ∀ W, Below wr.heap.size wr W → Calls Tryz.prog 31 #[.agg #[.string a11, .string a12, .slice P1 n1 k1, .string a14], .string ⟨#[86, 69, 82, 83, 73, 79, 78]⟩, .string ⟨#[52, 46, 48]⟩] W fun e w' => e = .returned (.bool t1) ∧ Below W.heap.size W w' := fun W hW => by have := w1' W hW; rw [show (⟨#[86, 69, 82, 83, 73, 79, 78]⟩ : ByteArray).data.toList = wVERSION from rfl, show (⟨#[52, 46, 48]⟩ : ByteArray).data.toList = w40 from rfl, ht1] at this; exact this
              have w2t : ∀ W, Below wr.heap.size wr W → Calls Tryz.prog 31 #[.agg #[.string a21, .string a22, .slice P2 n2 k2, .string a24], .string ⟨#[69, 78, 68]⟩, .string ⟨#[86, 67, 65, 82, 68]⟩] W fun e w' => e = .returned (.bool t2) ∧ Below W.heap.size W w' := fun W hW => by have := w2' W hW; rw [show (⟨#[69, 78, 68]⟩ : ByteArray).data.toList = wEND from rfl, show (⟨#[86, 67, 65, 82, 68]⟩ : ByteArray).data.toList = wVCARD from rfl, ht2] at this; exact this
              have em : (N : Int) - 1 = (m : Int) := by omega
              have b0 : (0 : Int) < (N : Int) := by omega
              have b1 : (1 : Int) < (N : Int) := by omega
              have b2 : (m : Int) < (N : Int) := by omega
              have rm : IntKind.i64.wrap (m : Int) = (m : Int) := by rw [IntKind.wrap_i64]; omega
              have K1 : ∀ W, Below wr.heap.size wr W → W.cell? ⟨g, 4, none⟩ = some (.string a11) ∧ W.cell? ⟨g, 5, none⟩ = some (.string a12) ∧ W.cell? ⟨g, 6, none⟩ = some (.slice P1 n1 k1) ∧ W.cell? ⟨g, 7, none⟩ = some (.string a14) := fun W h =>
                ⟨(h.cell (p := ⟨g, 4, none⟩) hg).trans (by simpa using g10), (h.cell (p := ⟨g, 5, none⟩) hg).trans (by simpa using g11), (h.cell (p := ⟨g, 6, none⟩) hg).trans (by simpa using g12), (h.cell (p := ⟨g, 7, none⟩) hg).trans (by simpa using g13)⟩
              have K2 : ∀ W, Below wr.heap.size wr W → W.cell? ⟨g, m * 4, none⟩ = some (.string a21) ∧ W.cell? ⟨g, m * 4 + 1, none⟩ = some (.string a22) ∧ W.cell? ⟨g, m * 4 + 2, none⟩ = some (.slice P2 n2 k2) ∧ W.cell? ⟨g, m * 4 + 3, none⟩ = some (.string a24) := fun W h =>
                ⟨(h.cell (p := ⟨g, m * 4, none⟩) hg).trans (by simpa using g20), (h.cell (p := ⟨g, m * 4 + 1, none⟩) hg).trans (by simpa using g21), (h.cell (p := ⟨g, m * 4 + 2, none⟩) hg).trans (by simpa using g22), (h.cell (p := ⟨g, m * 4 + 3, none⟩) hg).trans (by simpa using g23)⟩
              have z00 : wr.cell? ⟨g, 0, none⟩ = some (.string a01) := by simpa using g00
              have z01 : wr.cell? ⟨g, 1, none⟩ = some (.string a02) := by simpa using g01
              have z02 : wr.cell? ⟨g, 2, none⟩ = some (.slice P0 n0 k0) := by simpa using g02
              have z03 : wr.cell? ⟨g, 3, none⟩ = some (.string a04) := by simpa using g03
              have K1' := Lib.hid K1
              have K2' := Lib.hid K2
              have W1 := Lib.hid w1t
              have W2 := Lib.hid w2t
              have c0 := w0t wr (Below.refl _ _)
              have hfr' := Lib.hid hfr
              have hp2' := Lib.hid hp2
              have hcE' := Lib.hid hcE
              have hmid' := Lib.hid hmid
              have q1' := Lib.hid q1a
              have hc1' := hc1
              unfold maxLen at hc2
              have hm' := Lib.hid hm
              clear hm hq0 hq1 hq2 u3 u4 hz e01 e02 e04 e11 e12 e14 e21 e22 e24 pp0 pp1 pp2 g00 g01 g02 g03 g10 g11 g12 g13 g20 g21 g22 g23 w0 w1' w2' w0t w1t w2t ht0 ht1 ht2 hfr K1 K2 hp2 hcE hmid q1 q1a hsz hckM hps ek hbw hR q2 q3 hp1 hv2 ev2 hc1
              go_wp2_with fail
              go_at_call 31
              with_reducible refine c0.mono ?_
              rintro e v1 ⟨rfl, hb1⟩
              clear c0 z00 z01 z02 z03
              have B1v := Lib.hid hb1
              cases t0 with
              | false =>
                obtain ⟨x1, x2, x3, x4⟩ := ERR'.out 50 v1 (hpE'.out (by rw [hfr'.out]; rfl)) (belowThen hBr'.out hb1)
                have X4 := Lib.hid x4
                clear x4 hb1
                go_wp2
                exact bodyPost_ret (v := .tuple #[.agg #[.slice none 0 0], .int .i64 50]) (by simp [results, Tryz.results11, go_sem, x3]) rfl X4.out
              | true =>
                obtain ⟨z10, z11, z12, z13⟩ := K1'.out v1 hb1
                have c1 := W1.out v1 hb1
                clear hb1
                go_wp2_with fail
                go_at_call 31
                with_reducible refine c1.mono ?_
                rintro e v2 ⟨rfl, hb2⟩
                have hb12 := belowThen B1v.out hb2
                have B2v := Lib.hid hb12
                clear c1 z10 z11 z12 z13 hb2
                cases t1 with
                | false =>
                  obtain ⟨x1, x2, x3, x4⟩ := ERR'.out 50 v2 (hpE'.out (by rw [hfr'.out]; rfl)) (belowThen hBr'.out hb12)
                  have X4 := Lib.hid x4
                  clear x4 hb12
                  go_wp2
                  exact bodyPost_ret (v := .tuple #[.agg #[.slice none 0 0], .int .i64 50]) (by simp [results, Tryz.results11, go_sem, x3]) rfl X4.out
                | true =>
                  obtain ⟨z20, z21, z22, z23⟩ := K2'.out v2 hb12
                  have c2 := W2.out v2 hb12
                  clear hb12
                  go_wp2_with fail
                  go_at_call 31
                  with_reducible refine c2.mono ?_
                  rintro e v3 ⟨rfl, hb3'⟩
                  have hb13 := belowThen B2v.out hb3'
                  have B3v := Lib.hid hb13
                  clear c2 z20 z21 z22 z23 hb3'
                  cases t2 with
                  | false =>
                    obtain ⟨x1, x2, x3, x4⟩ := ERR'.out 50 v3 (hpE'.out (by rw [hfr'.out]; rfl)) (belowThen hBr'.out hb13)
                    have X4 := Lib.hid x4
                    clear x4 hb13
                    go_wp2
                    exact bodyPost_ret (v := .tuple #[.agg #[.slice none 0 0], .int .i64 50]) (by simp [results, Tryz.results11, go_sem, x3]) rfl X4.out
                  | true =>
                    have hft : framedL Ls = true := by rw [hfr'.out]; rfl
                    have z1 : (2 : Int) ≤ (m : Int) := by omega
                    have z2 : (m : Int) ≤ (uc : Int) := by omega
                    have hm3 := hmid'.out.kept hb13
                    rw [← hm'.out] at hm3
                    have hBr3 := belowThen hBr'.out hb13
                    obtain ⟨v4, hv4⟩ : ∃ v4, v3.alloc (.cells #[.slice (some ⟨g, 8, none⟩) (m - 2) (uc - 2)] 25) = v4 := ⟨_, rfl⟩
                    have hb34 : Below v3.heap.size v3 v4 := by rw [← hv4]; exact (Below.refl _ _).alloc (Nat.le_refl _) _
                    have hk4 : v4.heap[v3.heap.size]? = some (.cells #[.slice (some ⟨g, 8, none⟩) (m - 2) (uc - 2)] 25 (0, 0)) := by rw [← hv4]; exact heap_alloc_new v3 _
                    have cL4 := lines_any (.slice (some ⟨g, 8, none⟩) (m - 2) (uc - 2)) (midL Ls) v4 (hm3.kept hb34) (by omega)
                    have hBr4 := belowThen hBr3 hb34
                    have d4 : v4.cell? ⟨v3.heap.size, 0, none⟩ = some (.slice (some ⟨g, 8, none⟩) (m - 2) (uc - 2)) := (Lib.cell_of_heap hk4 0).trans rfl
                    have hft' := Lib.hid hft
                    have hm4' := Lib.hid (hm3.kept hb34)
                    have hBr4' := Lib.hid hBr4
                    have hk4' := Lib.hid hk4
                    clear hb13 hft hm3 hBr3 hb34 hk4 hBr4
                    obtain ⟨ce, hce⟩ : ∃ ce, checkE (midL Ls) = ce := ⟨_, rfl⟩
                    have hlin : ∀ e W, RefLinesP (midL Ls) e W → ∃ uA un uc, e = .returned (.tuple #[.slice uA un uc, .int .i64 (ce : Int)]) := fun e W h => by
                      rcases h with ⟨h1, h2⟩ | ⟨h1, u, h2, h3⟩
                      · exact ⟨none, 0, 0, by rw [h2, hce]⟩
                      · obtain ⟨uA, _, _, uc, hu, _⟩ := id h3
                        exact ⟨uA, _, uc, by rw [h2, hu, ← hce, h1]; rfl⟩
                    have hlin' := Lib.hid hlin
                    have hce' := Lib.hid hce
                    clear hlin hce
                    go_wp2_with fail
                    go_at_call 13
                    with_reducible refine cL4.mono ?_
                    rintro e v5 ⟨hlp, hb45⟩
                    obtain ⟨lA, ln, lc, rfl⟩ := hlin'.out _ _ hlp
                    have hBr5 := belowThen hBr4'.out hb45
                    have hk5 := Li.blk_below hb45 hk4'.out
                    have d5 : v5.cell? ⟨v3.heap.size, 0, none⟩ = some (.slice (some ⟨g, 8, none⟩) (m - 2) (uc - 2)) := (Lib.cell_of_heap hk5 0).trans rfl
                    have hb5' := Lib.hid hb45
                    have hBr5' := Lib.hid hBr5
                    clear cL4 d4 hlp hb45 hBr5 hk5
                    by_cases hr : rightB (midL Ls) = true
                    · have hc0 : ce = 0 := by rw [← hce'.out, hcE'.out, if_pos hr]
                      subst hc0
                      have hp3 : pcard T.data.toList = (0, midL Ls) := by rw [hp2'.out, if_pos ⟨hft'.out, hr⟩]
                      have hr7 : v5.heap[Z]? = some (.cells #[.slice none 0 0] 25 (0, 0)) := (hBr5'.out.block _ (by omega)).trans hres'.out
                      have r7 : v5.cell? ⟨Z, 0, none⟩ = some (.slice none 0 0) := (Lib.cell_of_heap hr7 0).trans rfl
                      have f7 : v5.frozen? ⟨Z, 0, none⟩ = false := Lib.frozen_of_heap hr7 0
                      have hr8 : (v5.setCell ⟨Z, 0, none⟩ (.slice (some ⟨g, 8, none⟩) (m - 2) (uc - 2))).heap[Z]? = some (.cells #[.slice (some ⟨g, 8, none⟩) (m - 2) (uc - 2)] 25 (0, 0)) := by simp [World.setCell, Array.getElem?_modify, hr7]
                      have x3 : (v5.setCell ⟨Z, 0, none⟩ (.slice (some ⟨g, 8, none⟩) (m - 2) (uc - 2))).cell? ⟨Z, 0, none⟩ = some (.slice (some ⟨g, 8, none⟩) (m - 2) (uc - 2)) := (Lib.cell_of_heap hr8 0).trans rfl
                      have hv5 : Below v3.heap.size v3 v5 := belowThen (by rw [← hv4]; exact (Below.refl _ _).alloc (Nat.le_refl _) _) hb5'.out
                      have hm7 : LinesAt (v5.setCell ⟨Z, 0, none⟩ (.slice (some ⟨g, 8, none⟩) (m - 2) (uc - 2))) (.slice (some ⟨g, 8, none⟩) (m - 2) (uc - 2)) (midL Ls) := by
                        have q := ((q1'.out.kept (belowThen B3v.out hv5)).stored (a := ⟨Z, 0, none⟩) (by show Z < w3.heap.size; have := hB3.out.size; omega) (.slice (some ⟨g, 8, none⟩) (m - 2) (uc - 2))).mid (by have := hN; omega)
                        obtain ⟨g', cap', e, _, _, hm⟩ := q
                        rw [hN] at e hm
                        rw [← hm'.out] at hm
                        injection e with e1 _ e3
                        injection e1 with e1
                        injection e1 with e1 _ _
                        subst e1; subst e3
                        exact hm
                      have X4 : Hid (ParseC T.data.toList (.returned (.tuple #[.agg #[.slice (some ⟨g, 8, none⟩) (m - 2) (uc - 2)], .int .i64 0])) (v5.setCell ⟨Z, 0, none⟩ (.slice (some ⟨g, 8, none⟩) (m - 2) (uc - 2))) ∧ Below w.heap.size w (v5.setCell ⟨Z, 0, none⟩ (.slice (some ⟨g, 8, none⟩) (m - 2) (uc - 2)))) :=
                        Lib.hid ⟨⟨some ⟨g, 8, none⟩, m - 2, uc - 2, by rw [hp3]; rfl, by rw [hp3]; exact hm7⟩, (belowThen B1'.out hBr5'.out).setCell (p := ⟨Z, 0, none⟩) (by show w.heap.size ≤ Z; rw [hZ'.out]; exact Nat.le_refl _) _⟩
                      clear hp3 hr7 hr8 hv5 hm7 hr hv4
                      go_wp2
                      exact bodyPost_ret (v := .tuple #[.agg #[.slice (some ⟨g, 8, none⟩) (m - 2) (uc - 2)], .int .i64 0]) (by simp [results, Tryz.results11, go_sem, x3]) rfl X4.out
                    · have hc0 : ce = 50 := by rw [← hce'.out, hcE'.out, if_neg hr]
                      subst hc0
                      have hp3 : pcard T.data.toList = (50, []) := by rw [hp2'.out, if_neg (fun h => hr h.2)]
                      obtain ⟨x1, x2, x3, x4⟩ := ERR'.out 50 v5 hp3 hBr5'.out
                      have X4 := Lib.hid x4
                      clear x4 hp3 hr hv4
                      go_wp2
                      exact bodyPost_ret (v := .tuple #[.agg #[.slice none 0 0], .int .i64 50]) (by simp [results, Tryz.results11, go_sem, x3]) rfl X4.out
      · have hp3 := Lib.hid (hp0'.out.trans (by rw [hR]; rfl) : pcard T.data.toList = (20, []))
        obtain ⟨x1, x2, x3, x4⟩ := ERR'.out 20 w3 hp3.out hB3.out
        have X4 := Lib.hid x4
        clear x4 hR
        go_wp2
        exact bodyPost_ret (v := .tuple #[.agg #[.slice none 0 0], .int .i64 20]) (by simp [results, Tryz.results11, go_sem, x3]) rfl X4.out
end Go.Proofs.YthnnpnlapjlnoaaGreatDoor.Ca
