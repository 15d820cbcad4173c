/-
  WHAT IS PUT IS GOT ('got_com', 'got_rep', 'got_log'), AND THE LAW's first.
-/
import Derived.Test.YtpngbfmbjldieaaRdrJ
import Derived.Test.YtpngbfmbjldieaaWrtG
import Derived.Deep.Cut
set_option linter.unusedVariables false
namespace Go.Proofs.Ytpngbfmbjldieaa.Ly
open Go.Lib Go.RowKit
open Bo (Kp Row ownsRow_heap sv sv_data)
open Cd (St endS encS encI encE En Rep repS repV rep0 repB okRep cod_rep Com comS comV comC com0 comB okCom cod_com Lg lg0 logS logV logB okLg log_back RowsAt StrsAt IntsAt EntsAt wrd wrd_len rows flatN)

theorem got_com {c : Com} (h : okCom c) : got comS com0 (comB c) = (c, 0) := by
  unfold got
  rw [cod_com.whole h]
  rfl
theorem got_rep {r : Rep} (h : okRep r) : got repS rep0 (repB r) = (r, 0) := by
  unfold got
  rw [cod_rep.whole h]
  rfl
theorem got_log {l : Lg} (h : okLg l) {b : Row} (hb : logB l = some b) : got logS lg0 b = (l, 0) := by
  unfold got
  rw [log_back h hb]
  rfl
def fLg : Lg := ⟨2, 2, com0, [1, 3]⟩
def fB : Row := wrd 2 ++ ([2] ++ rows wrd [1, 3])
theorem fLg_b : logB fLg = some fB := by decide +kernel
theorem fB_len : fB.length = 33 := by decide +kernel
theorem fLg_ok : okLg fLg := ⟨by show Cd.is64 2; unfold Cd.is64; omega, Cd.com0_ok, by show Cd.isC 2; unfold Cd.isC; omega, fun x hx => by
  have : x = 1 ∨ x = 3 := by simpa [fLg] using hx
  unfold Cd.is64
  omega⟩
def fCom : Com := ⟨3, [97], [], [], [], [], [], [[120]], 0, 0, 0⟩
theorem fCom_ok : okCom fCom := by
  refine ⟨?_, ?_, ?_, ?_, ?_, ?_, ?_, ⟨?_, fun x hx => ?_⟩, ?_, ?_, ?_⟩
  case refine_9 =>
    have : x = [120] := by simpa [fCom] using hx
    subst this
    simp [Cd.isT, Cd.isC]
  all_goals simp [fCom, Cd.is64, Cd.isT, Cd.isC]
theorem comB_len' (c : Com) : (comB c).length = 88 + c.book.length + c.name.length + c.data.length + c.mat.length + c.non.length + c.tok.length + flatN Ly.text c.names := Cd.comB_len c

set_option maxHeartbeats 16000000 in
set_option maxRecDepth 100000 in
theorem first_any (w : World) : Calls Try.prog 9 #[] w fun e w' => e = .returned (.bool true) ∧ Below w.heap.size w w' := by
  obtain ⟨w1, hw1⟩ : ∃ x, w.alloc (.cells #[.int .i64 1, .int .i64 3] 3) = x := ⟨_, rfl⟩
  have hb1 : Below w.heap.size w w1 := by rw [← hw1]; exact below_one _ _
  have hI : IntsAt w1 (.slice (some ⟨w.heap.size, 0, none⟩) 2 2) [1, 3] := by rw [← hw1]; exact rows_new (f := Value.int .i64) (fun _ => rfl) w _ [1, 3] 2 rfl (by unfold maxLen; omega) _ rfl
  have cP : Calls Try.prog 26 #[.agg #[.int .i64 2, .int .i64 2, .int .i64 0, .string ⟨#[]⟩, .string ⟨#[]⟩, .string ⟨#[]⟩, .string ⟨#[]⟩, .string ⟨#[]⟩, .string ⟨#[]⟩, .slice none 0 0, .int .i64 0, .int .i64 0, .int .i64 0, .slice (some ⟨w.heap.size, 0, none⟩) 2 2]] w1 fun e w' => ∃ v er, e = .returned (.tuple #[v, .int .i64 er]) ∧ PutR (logB fLg) w1.heap.size v er w' ∧ Below w1.heap.size w1 w' :=
    putLog_any w1 fLg (.slice none 0 0) (.slice (some ⟨w.heap.size, 0, none⟩) 2 2) (RowsAt.nil w1) hI fLg_ok (by simp [fLg, com0, flatN]) (by simp [fLg])
  rw [fLg_b] at cP
  have hb1' := Lib.hid hb1
  clear hI hb1
  go_enter Try.func9, Try.ntmps9
  go_wp2_with fail
  go_at_call 26
  refine cP.mono ?_
  rintro e w2 ⟨v, er, rfl, ⟨rfl, hO⟩, hb2⟩
  have hG : got logS lg0 fB = (fLg, 0) := got_log fLg_ok fLg_b
  have cG0 := getLog_any w2 v fB hO.bin (by rw [fB_len]; omega)
  rw [hG] at cG0
  have cG : Calls Try.prog 12 #[v] w2 fun e w' => ∃ nv ds, e = .returned (.tuple #[.agg #[.int .i64 2, .int .i64 2, .int .i64 0, .string ⟨#[]⟩, .string ⟨#[]⟩, .string ⟨#[]⟩, .string ⟨#[]⟩, .string ⟨#[]⟩, .string ⟨#[]⟩, nv, .int .i64 0, .int .i64 0, .int .i64 0, ds], .int .i64 0]) ∧ w'.ownsRow w2.heap.size 9 1 nv 0 [] ∧ w'.ownsRow w2.heap.size 3 1 ds 2 [.int .i64 1, .int .i64 3] ∧ Below w2.heap.size w2 w' := cG0
  obtain ⟨a2, n2, c2, hn2, rfl⟩ : ∃ a n c, n = 33 ∧ v = .slice a n c := by obtain ⟨a, c, e⟩ := hO.form; rw [fB_len] at e; exact ⟨_, _, _, rfl, e⟩
  have hq1 : ((n2 : Int) == 33) = true := by rw [hn2]; rfl
  have hq2 : (n2 == 33) = true := by rw [hn2]; rfl
  have hb2' := Lib.hid (hb1'.out.trans (hb2.mono hb1'.out.size))
  clear cP hO hb2 hn2 hw1 cG0 hG
  go_wp2_with fail
  go_at_call 12
  refine cG.mono ?_
  rintro e w3 ⟨nv, ds, rfl, hO1, hO2, hb3⟩
  obtain ⟨a3, c3, rfl⟩ := own_form hO1
  obtain ⟨a4, c4, rfl⟩ := own_form hO2
  have hb3' := Lib.hid (hb2'.out.trans (hb3.mono hb2'.out.size))
  clear cG hO1 hO2 hb3
  have hXC := heap_alloc_new w3 (.cells #[.int .i64 2, .int .i64 2, .int .i64 0, .string ⟨#[]⟩, .string ⟨#[]⟩, .string ⟨#[]⟩, .string ⟨#[]⟩, .string ⟨#[]⟩, .string ⟨#[]⟩, .slice a3 0 c3, .int .i64 0, .int .i64 0, .int .i64 0, .slice a4 2 c4] 39)
  have hbX := below_one w3 (.cells #[.int .i64 2, .int .i64 2, .int .i64 0, .string ⟨#[]⟩, .string ⟨#[]⟩, .string ⟨#[]⟩, .string ⟨#[]⟩, .string ⟨#[]⟩, .string ⟨#[]⟩, .slice a3 0 c3, .int .i64 0, .int .i64 0, .int .i64 0, .slice a4 2 c4] 39)
  go_upto_region 3 with fail
  obtain ⟨w4, hw4⟩ : ∃ x, w3.alloc (.cells #[.int .i64 2, .int .i64 2, .int .i64 0, .string ⟨#[]⟩, .string ⟨#[]⟩, .string ⟨#[]⟩, .string ⟨#[]⟩, .string ⟨#[]⟩, .string ⟨#[]⟩, .slice a3 0 c3, .int .i64 0, .int .i64 0, .int .i64 0, .slice a4 2 c4] 39) = x := ⟨_, rfl⟩
  rw [hw4] at hXC hbX ⊢
  obtain ⟨LB, hLB⟩ : ∃ x, w3.heap.size = x := ⟨_, rfl⟩
  rw [hLB] at hXC
  have hLl := (Array.getElem?_eq_some_iff.1 hXC).1
  have hb4' := Lib.hid (hb3'.out.trans (hbX.mono hb3'.out.size))
  have hXC' := Lib.hid hXC
  obtain ⟨w5, hw5⟩ : ∃ x, w4.alloc (.cells #[.string ⟨#[120]⟩] 9) = x := ⟨_, rfl⟩
  have hb5 : Below w4.heap.size w4 w5 := by rw [← hw5]; exact below_one _ _
  have hS : StrsAt w5 (.slice (some ⟨w4.heap.size, 0, none⟩) 1 1) [[120]] := by rw [← hw5]; exact rows_new (f := sv) (fun _ => rfl) w4 _ [[120]] 1 rfl (by unfold maxLen; omega) _ rfl
  have cP : Calls Try.prog 21 #[.agg #[.int .i64 3, .string ⟨#[97]⟩, .string ⟨#[]⟩, .string ⟨#[]⟩, .string ⟨#[]⟩, .string ⟨#[]⟩, .string ⟨#[]⟩, .slice (some ⟨w4.heap.size, 0, none⟩) 1 1, .int .i64 0, .int .i64 0, .int .i64 0]] w5 fun e w' => ∃ v', e = .returned v' ∧ BOwn w5.heap.size v' (comB fCom) w' ∧ Below w5.heap.size w5 w' :=
    putCom_any w5 fCom _ hS (by decide +kernel)
  have hb5' := Lib.hid (hb4'.out.trans (hb5.mono hb4'.out.size))
  have hs45 := hb5.size
  have hk5 := Lib.hid ((hb5.block LB hLl).trans hXC)
  clear hXC hbX hw4 hS hb5
  go_wp2_with fail
  go_at_call 21
  refine cP.mono ?_
  rintro e w6 ⟨v6, rfl, hO6, hb6⟩
  have cG0 := getCom_any w6 v6 (comB fCom) hO6.bin (by decide +kernel)
  rw [got_com fCom_ok] at cG0
  have cG : Calls Try.prog 10 #[v6] w6 fun e w' => ∃ nv, e = .returned (.tuple #[.agg #[.int .i64 3, .string ⟨#[97]⟩, .string ⟨#[]⟩, .string ⟨#[]⟩, .string ⟨#[]⟩, .string ⟨#[]⟩, .string ⟨#[]⟩, nv, .int .i64 0, .int .i64 0, .int .i64 0], .int .i64 0]) ∧ w'.ownsRow w6.heap.size 9 1 nv 1 [.string ⟨#[120]⟩] ∧ Below w6.heap.size w6 w' := cG0
  obtain ⟨a6, n6, c6, rfl⟩ : ∃ a n c, v6 = .slice a n c := by obtain ⟨a, c, e⟩ := hO6.form; exact ⟨_, _, _, e⟩
  have hb6' := Lib.hid (hb5'.out.trans (hb6.mono hb5'.out.size))
  have hs56 := hb6.size
  have hk6 := Lib.hid ((hb6.block LB (by omega)).trans hk5.out)
  clear cP hO6 hb6 cG0
  go_wp2_with fail
  go_at_call 10
  refine cG.mono ?_
  rintro e w7 ⟨nv, rfl, hO7, hb7⟩
  obtain ⟨a7, c7, rfl⟩ := own_form hO7
  have hb7' := Lib.hid (hb6'.out.trans (hb7.mono hb6'.out.size))
  have hs67 := hb7.size
  obtain ⟨xa, hxa⟩ : ∃ x : ByteArray, (⟨#[97]⟩ : ByteArray) = x := ⟨_, rfl⟩
  have hE : (xa.toList == [97]) = true := by rw [← hxa]; simp
  rw [hxa]
  have hbx7 := (hb7.block LB (by omega)).trans hk6.out
  have t0 := Lib.cell_of_heap hbx7 0
  have t3 := Lib.cell_of_heap hbx7 3
  have t13 := Lib.cell_of_heap hbx7 13
  have hLB7 : LB < w7.heap.size := by omega
  clear hxa cG hO7 hb7 hbx7
  go_wp2
  go_ret
  exact ⟨rfl, hb7'.out.alloc hb7'.out.size _⟩
end Go.Proofs.Ytpngbfmbjldieaa.Ly
