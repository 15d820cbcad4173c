/- Texts brought together, and only what the theorem reaches. -/
import Derived.Test.YtiahokfglboefaaGreatDoorHz41
import Derived.Laws.DeepStrings4
import Derived.Test.YtiahokfglboefaaGreatDoorCards
import Derived.Test.YtiahokfglboefaaGreatDoorTie
import Derived.PinnedBridge
import Derived.Lib.LaidIn
import Derived.Deep.DeepHandedRow
import Derived.Deep.DeepWitnessRowRef
import Derived.ProofKit
import Derived.OpenShut
import Derived.Test.YtiahokfglboefaaGreatDoorRows
import Derived.JoinedCond
set_option linter.unusedVariables false
set_option maxHeartbeats 16000000
set_option maxRecDepth 100000
namespace Go.Proofs.YtiahokfglboefaaGreatDoor
namespace Bo
open Go.Lib Go.RowKit
def modL (z:Int) (m:Nat):Nat:=(IntKind.u64.wrap z % (m:Int)).toNat
theorem modL_lt (z:Int) {m:Nat} (h:0 < m):modL z m < m:=by
  unfold modL
  have h1:=Int.emod_nonneg (IntKind.u64.wrap z) (b:=(m:Int)) (by omega)
  have h2:=Int.emod_lt_of_pos (IntKind.u64.wrap z) (b:=(m:Int)) (by omega)
  omega
theorem modL_is (z:Int) {m:Nat} (h:0 < m):(IntKind.u64.wrap z).tmod (m:Int)=(modL z m:Int):=by
  have h0:=wrap_pos z
  have h1:=Int.emod_nonneg (IntKind.u64.wrap z) (b:=(m:Int)) (by omega)
  unfold modL
  rw [Int.tmod_eq_emod_of_nonneg h0,Int.toNat_of_nonneg h1]
def nmB (k:Nat):ByteArray:=⟨(nmN k).toArray⟩
theorem name_any (z:Int) (w:World):Calls Tryz.prog 26 #[.int .i64 z] w fun e w'=>e=.returned (.string (nmB (modL z 5)))∧Below w.heap.size w w':=by
  have hm:(IntKind.u64.wrap z).tmod 5=(modL z 5:Int):=modL_is z (m:=5) (by decide)
  have hl:=modL_lt z (m:=5) (by decide)
  generalize modL z 5=k at hm hl ⊢
  have hal:Below w.heap.size w (w.alloc (.cells #[.string ⟨#[97]⟩,.string ⟨#[98]⟩,.string ⟨#[99,46,118,99,102]⟩,.string ⟨#[100,32,101]⟩,.string ⟨#[122]⟩] 9)):=(Below.refl _ _).alloc (Nat.le_refl _) _
  have hk:=heap_alloc_new w (.cells #[.string ⟨#[97]⟩,.string ⟨#[98]⟩,.string ⟨#[99,46,118,99,102]⟩,.string ⟨#[100,32,101]⟩,.string ⟨#[122]⟩] 9)
  have d0:=Lib.cell_of_heap hk 0
  have d1:=Lib.cell_of_heap hk 1
  have d2:=Lib.cell_of_heap hk 2
  have d3:=Lib.cell_of_heap hk 3
  have d4:=Lib.cell_of_heap hk 4
  have hal':=Lib.hid hal
  clear hk hal
  rcases (by omega:k=0∨k=1∨k=2∨k=3∨k=4) with rfl | rfl | rfl | rfl | rfl
  all_goals
    clear hl
    go_enter Tryz.func26,Tryz.ntmps26
    go_wp2
    go_ret
    exact ⟨rfl,hal'.out⟩
def tagB (n:Nat):Row:=34 :: (digF 6 n++[34])
theorem dig8 {n:Nat} (h:n < 10):IntKind.u8.wrap (48+(n:Int))=((UInt8.ofNat (48+n)).toNat:Int):=by
  have h2:(UInt8.ofNat (48+n)).toNat=48+n:=by
    rw [UInt8.toNat_ofNat']
    omega
  rw [h2]
  unfold IntKind.wrap
  simp only [IntKind.bits,IntKind.signed,Bool.false_and,Bool.false_eq_true,if_false]
  omega
theorem cat_rows (a b:Row):(⟨a.toArray⟩:ByteArray)++⟨b.toArray⟩=⟨(a++b).toArray⟩:=by
  apply ByteArray.ext
  apply Array.toList_inj.1
  simp
theorem tag_any (n:Nat) (w:World) (hn:n < 100000):Calls Tryz.prog 25 #[.int .i64 (n:Int)] w fun e w'=>e=.returned (.string ⟨(tagB n).toArray⟩)∧Below w.heap.size w w':=by
  go_enter Tryz.func25,Tryz.ntmps25
  go_wp2
  go_loopw [0,3] (fun s0 s3 wr=>∃ (f m:Nat) (acc:Row),s0=.int .i64 (m:Int)∧s3=.string ⟨acc.toArray⟩∧f≤5∧acc.length+f≤5∧m < 10 ^ (f+1)∧digF (f+1) m++acc=digF 6 n∧Below w.heap.size w wr) (fun s0 s3 wr=>(RowKit.intOf s0).toNat)
  case atStart=>exact ⟨5,n,[],rfl,rfl,Nat.le_refl _,by simp,by omega,List.append_nil _,Below.refl _ _⟩
  case round =>
    obtain ⟨f,m,acc,rfl,rfl,hf,hfl,hm,hd,hbw⟩:=hrel
    have hlen:acc.length≤5:=by omega
    have hlen2:((acc.length:Nat):Int)≤5:=by omega
    have hsz:(⟨acc.toArray⟩:ByteArray).size≤5:=by show acc.toArray.size≤5;rw [List.size_toArray];omega
    have hfl':=Lib.hid hfl
    have hmm:m < 1000000:=Nat.lt_of_lt_of_le hm (Nat.le_trans (Nat.pow_le_pow_right (by decide) (show f+1≤6 by omega)) (by decide))
    have h10:m % 10 < 10:=Nat.mod_lt _ (by decide)
    have p1:((m:Int)).tmod 10=((m % 10:Nat):Int):=by rw [Int.tmod_eq_emod_of_nonneg (by omega)];omega
    have p2:((m:Int)).tdiv 10=((m / 10:Nat):Int):=by rw [Int.tdiv_eq_ediv_of_nonneg (by omega)];omega
    have p3:=dig8 h10
    obtain ⟨x,hx⟩:∃ x,UInt8.ofNat (48+m % 10)=x:=⟨_,rfl⟩
    obtain ⟨r,hr⟩:∃ r,m % 10=r:=⟨_,rfl⟩
    obtain ⟨q,hq⟩:∃ q,m / 10=q:=⟨_,rfl⟩
    rw [hx] at p3
    rw [hr] at p1 p3 h10
    rw [hq] at p2
    have hqm:q≤m:=by omega
    have hcv:(convert 34 9 (.slice (some ⟨wr.heap.size,0,none⟩) 1 1)).run Tryz.prog (wr.alloc (.cells #[.int .u8 (x.toNat:Int)] 5))=.ok (.string ⟨#[x]⟩) (wr.alloc (.cells #[.int .u8 (x.toNat:Int)] 5)):=by
      refine run_convert_bytes_back _ 34 9 5 ⟨wr.heap.size,0,none⟩ 1 [x] Tryz.underlying34 Tryz.underlying5 Tryz.underlying9 fun j hj=>?_
      obtain rfl:j=0:=by simp at hj;omega
      rw [show ((⟨wr.heap.size,0,none⟩:Addr).add 0)=⟨wr.heap.size,0,none⟩ from rfl,Lib.cell_of_heap (heap_alloc_new wr _)]
      rfl
    have hal:Below w.heap.size w (wr.alloc (.cells #[.int .u8 (x.toNat:Int)] 5)):=hbw.alloc hbw.size _
    have hal':=Lib.hid hal
    have hx':=Lib.hid hx
    have hr':=Lib.hid hr
    have hq':=Lib.hid hq
    have hd':=Lib.hid hd
    have hm':=Lib.hid hm
    clear hal hbw hx hr hq hd hm hfl
    by_cases h0:q=0
    · have d0:((q:Int)==0)=true:=by simp;exact h0
      subst h0
      go_wp2
      go_ret
      refine ⟨congrArg (fun x=>Ending.returned (Value.string x)) ?_,hal'.out⟩
      have hdm:digF (f+1) m=[x]:=by
        rw [←hx'.out]
        have hm10:m < 10:=by have:=hq'.out;omega
        show (if m < 10 then _ else _)=_
        rw [if_pos hm10,Nat.mod_eq_of_lt hm10]
      have e:=hd'.out
      rw [hdm] at e
      show (⟨([34]:Row).toArray⟩:ByteArray)++(⟨([x]:Row).toArray⟩++⟨acc.toArray⟩)++⟨([34]:Row).toArray⟩=_
      rw [cat_rows,cat_rows,cat_rows]
      unfold tagB
      rw [←e]
      simp
    · have d0:((q:Int)==0)=false:=by simp;exact h0
      have hm10:¬ m < 10:=fun h=>h0 (by rw [←hq'.out];omega)
      obtain ⟨f',rfl⟩:∃ f',f=f'+1:=by
        cases f with
        | zero=>have:=hm'.out;exact absurd this (by simpa using hm10)
        | succ f'=>exact ⟨f',rfl⟩
      have hdm:digF (f'+1+1) m=digF (f'+1) q++[x]:=by
        rw [←hx'.out,←hq'.out]
        show (if m < 10 then _ else _)=_
        rw [if_neg hm10]
      have e:=hd'.out
      rw [hdm,List.append_assoc] at e
      have hq10:q < 10 ^ (f'+1):=by
        have:=hm'.out
        rw [Nat.pow_succ] at this
        rw [←hq'.out]
        exact Nat.div_lt_of_lt_mul (by rw [Nat.mul_comm];exact this)
      have hcat:=cat_rows [x] acc
      have hlt:q < m:=by have:=hq'.out;omega
      have e':=Lib.hid e
      have hq10':=Lib.hid hq10
      have hcat':=Lib.hid hcat
      clear e hq10 hcat hdm
      go_wp2
      refine ⟨⟨f',q,[x]++acc,rfl,congrArg Value.string hcat'.out,by omega,by have:=hfl'.out;simp;omega,hq10'.out,e'.out,hal'.out⟩,by simp [RowKit.intOf];omega⟩
def At (B sb:Nat) (w:World) (s:Sh) (wr:World):Prop:=∃ F,Shf B sb F s wr∧Grd w wr∧Below w.heap.size w wr
theorem At.kept {B sb:Nat} {w wr w':World} {s:Sh} (h:At B sb w s wr) (hb:Below wr.heap.size wr w'):At B sb w s w':=by
  obtain ⟨F,h1,h2,h3⟩:=h
  exact ⟨F,h1.kept hb,h2.below hb,h3.trans (hb.mono h3.size)⟩
theorem At.doN {B sb:Nat} {w wr:World} {s:Sh} (h:At B sb w s wr) (hB:w.heap.size≤B) (op:Int) (bk nm dt mt nn tk:ByteArray) (pos:Int) (hl:bk.size≤1048576∧nm.size≤1048576∧dt.size≤1048576∧mt.size≤1048576∧nn.size≤1048576∧tk.size≤1048576∧0≤pos∧pos≤1048576) (hchg:s.chg < 4611686018427387904) :
    Calls Tryz.prog 14 #[pv sb,.agg #[.int .i64 op,.string bk,.string nm,.string dt,.string mt,.string nn,.string tk,.slice none 0 0,.int .i64 pos,.int .i64 0,.int .i64 0]] wr fun e w'=>(∃ data tok ao m c,e=.returned (repV ((doC envP s (cmdD op bk nm dt mt nn tk [] pos)).2.st:Int) ((doC envP s (cmdD op bk nm dt mt nn tk [] pos)).2.tag:Int) data (.slice ao m c) tok))∧At B sb w (doC envP s (cmdD op bk nm dt mt nn tk [] pos)).1 w':=by
  obtain ⟨F,h1,h2,h3⟩:=h
  refine (Bo.doN w wr B sb F s op bk nm dt mt nn tk pos h2 h1 hB hl hchg).mono ?_
  rintro e w' ⟨v,rfl,⟨ev,rfl,hrow⟩,F',k1,k2,k3,k4,_⟩
  obtain ⟨ao,m,c,rfl⟩:=row_form hrow
  exact ⟨⟨_,_,_,_,_,rfl⟩,F',k1,k4,k3.below h3 (fun k hk=>Nat.le_trans hB (h1.low k hk)) h3.size⟩
theorem wrapU_le {n:Nat} (h:n≤1000):IntKind.u64.wrap ((n:Int)+1)=(n:Int)+1:=by
  unfold IntKind.wrap
  simp only [IntKind.bits,IntKind.signed,Bool.false_and,Bool.false_eq_true,if_false]
  omega
theorem put_may (i:Int):May envP (cmdD 3 aB (nmB (modL i 5)) ⟨(cardN (letN i)).toArray⟩ zB zB zB [] 0):=by
  have h1:(cmdD 3 aB (nmB (modL i 5)) ⟨(cardN (letN i)).toArray⟩ zB zB zB [] 0).name=nmN (modL i 5):=rfl
  have h2:(cmdD 3 aB (nmB (modL i 5)) ⟨(cardN (letN i)).toArray⟩ zB zB zB [] 0).data=cardN (letN i):=rfl
  have h3:(cmdD 3 aB (nmB (modL i 5)) ⟨(cardN (letN i)).toArray⟩ zB zB zB [] 0).mat=[]:=rfl
  have h4:(cmdD 3 aB (nmB (modL i 5)) ⟨(cardN (letN i)).toArray⟩ zB zB zB [] 0).non=[]:=rfl
  have h5:(cmdD 3 aB (nmB (modL i 5)) ⟨(cardN (letN i)).toArray⟩ zB zB zB [] 0).op=3:=rfl
  have e1:envP.fits=Pa.fits:=rfl
  have e2:envP.norm=normE:=rfl
  refine ⟨h5,?_,fun t=>?_,?_⟩
  · rw [h1,e1];exact nm_fits _
  · rw [h3,h4];exact hol_none t
  · rw [h2,e2];exact cardN_norm (letN_lt i)
theorem nm_size (k:Nat):(nmB k).size≤5:=by
  match k with
  | 0=>decide
  | 1=>decide
  | 2=>decide
  | 3=>decide
  | k+4=>show (⟨#[122]⟩:ByteArray).size≤5;decide
theorem digF_len:∀ f n,(digF f n).length≤f
  | 0,n=>Nat.le_refl _
  | f + 1,n=>by
    unfold digF
    split
    · simp
    · have:=digF_len f (n / 10)
      rw [List.length_append]
      simp;omega
theorem tagB_size (n:Nat):(⟨(tagB n).toArray⟩:ByteArray).size=(digF 6 n).length+2:=by
  show (tagB n).toArray.size=_
  rw [List.size_toArray]
  unfold tagB
  simp
theorem tagB_cut (n:Nat):(⟨(tagB n).toArray⟩:ByteArray).extract 1 ((digF 6 n).length+1)=⟨(digF 6 n).toArray⟩:=by
  apply ByteArray.ext
  rw [ByteArray.data_extract]
  unfold tagB
  apply Array.toList_inj.1
  simp
theorem hor_walk (puts at_:Int) (w:World) (hG:Grd w w) :
    Calls Tryz.prog 9 #[.int .i64 puts,.int .i64 at_] w fun e w'=>e=.returned (.bool true)∧Below w.heap.size w w':=by
  have cF:=first_any w w hG
  have hG':=Lib.hid hG
  clear hG
  go_enter Tryz.func9,Tryz.ntmps9
  go_wp2_with fail
  go_at_call 10
  refine cF.mono ?_
  rintro e w1 ⟨rfl,hb1⟩
  have cN:=newS w w1 (hG'.out.below hb1)
  have hB:=hb1.size
  have hb1':=Lib.hid hb1
  clear cF hb1
  go_wp2_with fail
  go_at_call 11
  refine cN.mono ?_
  rintro e w2 ⟨sb,F2,rfl,hS2,hb2,hG2⟩
  have hA2:At w1.heap.size sb w ⟨0,[]⟩ w2:=⟨F2,hS2,hG2,hb1'.out.trans (hb2.mono hB)⟩
  obtain ⟨B,hBe⟩:∃ B,w1.heap.size=B:=⟨_,rfl⟩
  rw [hBe] at hA2 hB
  have cM:=hA2.doN hB 1 aB zB zB zB zB zB 0 (by decide) (by decide)
  rw [f_make] at cM
  have hB':=Lib.hid hB
  clear cN hS2 hb2 hG2 hA2 hB hBe hb1'
  go_wp2_with fail
  go_at_call 14
  refine cM.mono ?_
  rintro e w3 ⟨⟨_,_,_,_,_,rfl⟩,hA3⟩
  have hA3':=Lib.hid hA3
  have hm:(IntKind.u64.wrap puts).tmod 100=(modL puts 100:Int):=modL_is puts (m:=100) (by decide)
  have hn:=modL_lt puts (m:=100) (by decide)
  obtain ⟨n,hne⟩:∃ n,modL puts 100=n:=⟨_,rfl⟩
  rw [hne] at hm hn
  clear cM hA3 hne
  go_wp2
  go_loopw [24] (fun s24 wr=>∃ (i:Nat) (s:Sh) (b:Bk),s24=.int .i64 (i:Int)∧i≤n∧HorInv s b i∧At B sb w s wr) (fun s24 wr=>n - (RowKit.intOf s24).toNat)
  case atStart=>exact ⟨0,sh1,bk1,rfl,Nat.zero_le _,hor_start rfl rfl rfl rfl rfl rfl,hA3'.out⟩
  case round =>
    obtain ⟨i,s,b,rfl,hi,hI,hA⟩:=hrel
    have hI':=Lib.hid hI
    by_cases hlt:i < n
    · have cN:=name_any (i:Int) wr
      have hA':=Lib.hid hA
      clear hI hA
      go_wp2_with fail
      go_at_call 26
      refine cN.mono ?_
      rintro e w4 ⟨rfl,hb4⟩
      have hA4:=Lib.hid (hA'.out.kept hb4)
      have cC:=card_any (i:Int) w4
      clear cN hb4
      go_wp2_with fail
      go_at_call 24
      refine cC.mono ?_
      rintro e w5 ⟨rfl,hb5⟩
      have cD:=(hA4.out.kept hb5).doN hB'.out 3 aB (nmB (modL (i:Int) 5)) ⟨(cardN (letN (i:Int))).toArray⟩ zB zB zB 0 ⟨by decide,Nat.le_trans (nm_size _) (by decide),by show (cardN _).toArray.size≤_;rw [List.size_toArray,cardN_len];decide,by decide,by decide,by decide,by decide,by decide⟩ (by rw [hI'.out.chg];omega)
      obtain ⟨s',b',r,e1,hI2⟩:=hor_put hI'.out (by omega) (put_may (i:Int)) rfl
      rw [e1] at cD
      have hI2':=Lib.hid hI2
      generalize nmB (modL (i:Int) 5)=nm at cD ⊢
      generalize (⟨(cardN (letN (i:Int))).toArray⟩:ByteArray)=dt at cD ⊢
      clear cC hb5 e1 hI2
      go_wp2_with fail
      go_at_call 14
      refine cD.mono ?_
      rintro e w6 ⟨⟨_,_,_,_,_,rfl⟩,hA6⟩
      have hA6':=Lib.hid hA6
      clear cD hA6
      go_wp2
      exact ⟨⟨i+1,s',b',by go_num,by omega,hI2'.out,hA6'.out⟩,by simp [RowKit.intOf];omega⟩
    · obtain rfl:i=n:=by omega
      have hk:=modL_lt at_ (m:=i+1) (by omega)
      have hk2:(IntKind.u64.wrap at_).tmod ((i:Int)+1)=(modL at_ (i+1):Int):=modL_is at_ (m:=i+1) (by omega)
      obtain ⟨k,hke⟩:∃ k,modL at_ (i+1)=k:=⟨_,rfl⟩
      rw [hke] at hk hk2
      have p7:=wrapU_le (n:=i) (by omega)
      have cT:=hA.doN hB'.out 9 aB zB zB zB zB zB ((1:Int)+(k:Int)) ⟨by decide,by decide,by decide,by decide,by decide,by decide,by omega,by omega⟩ (by rw [hI'.out.chg];omega)
      obtain ⟨s2,b2,e1,hat,hchg,hmade,hhor⟩:=hor_trim hI'.out (k:=1+k) ⟨by omega,by omega⟩
      have e2:doC envP s (cmdD 9 aB zB zB zB zB zB [] ((1:Int)+(k:Int)))=(s2,{ st:=204 }):=by
        rw [←e1]
        have hc:cmdD 9 aB zB zB zB zB zB [] ((1:Int)+(k:Int))={ cmd0 with op:=9,book:=aN,pos:=((1+k:Nat):Int) }:=by
          show (⟨9,[97],[],[],[],[],[],[],(1:Int)+(k:Int)⟩:Cmd)=⟨9,[97],[],[],[],[],[],[],((1+k:Nat):Int)⟩
          rw [Int.natCast_add]
          rfl
        rw [hc]
      rw [e2] at cT
      have hat':=Lib.hid (And.intro hat (And.intro hchg (And.intro hmade hhor)))
      clear hI hA hke e1 e2 hat hchg hmade hhor
      go_wp2_with fail
      go_at_call 14
      refine cT.mono ?_
      rintro e w4 ⟨⟨_,_,_,_,_,rfl⟩,hA4⟩
      have hA4':=Lib.hid hA4
      clear cT hA4
      go_wp2
      obtain ⟨low,hlow⟩:∃ low:Int,max 1 (max (1+(i:Int) - 64) (1+(k:Int)))=low:=⟨_,rfl⟩
      have hlw:(b2.hor:Int)=low:=by have:=hat'.out.2.2.2;omega
      rw [hlow]
      have hlw':=Lib.hid hlw
      clear hlow hlw hk2 p7
      go_loopw [10] (fun s10 wr=>∃ j:Nat,s10=.int .i64 ((j:Int)+1)∧j≤i+2∧At B sb w s2 wr) (fun s10 wr=>i+3 - (RowKit.intOf s10).toNat)
      case atStart=>exact ⟨0,rfl,Nat.zero_le _,hA4'.out⟩
      case round =>
        obtain ⟨j,rfl,hj,hA⟩:=hrel
        by_cases hlt2:j < i+2
        · have cG:=tag_any (j+1) wr (by omega)
          rw [show ((j+1:Nat):Int)=(j:Int)+1 from by omega] at cG
          have hA':=Lib.hid hA
          clear hA
          go_wp2_with fail
          go_at_call 25
          refine cG.mono ?_
          rintro e w5 ⟨rfl,hb5⟩
          have hA5:=Lib.hid (hA'.out.kept hb5)
          obtain ⟨X,hX⟩:∃ X:ByteArray,(⟨(tagB (j+1)).toArray⟩:ByteArray)=X:=⟨_,rfl⟩
          obtain ⟨Ln,hLn⟩:∃ Ln,(digF 6 (j+1)).length=Ln:=⟨_,rfl⟩
          have hL6:Ln≤6:=by rw [←hLn];exact digF_len 6 _
          have hXs:X.size=Ln+2:=by rw [←hX,←hLn];exact tagB_size _
          have hXe:X.extract 1 (Ln+1)=⟨(digF 6 (j+1)).toArray⟩:=by rw [←hX,←hLn];exact tagB_cut _
          rw [hX]
          have hsl:∀ W,(Instr.slice 9 (.string X) (some (.int .i64 1)) (some (.int .i64 ((Ln:Int)+2 - 1))) none).run Tryz.prog W=.ok (.string ⟨(digF 6 (j+1)).toArray⟩) W:=fun W=>by
            rw [run_slice_string_if W 9 X .i64 .i64 1 _ Tryz.underlying9,if_pos ⟨by omega,by rw [hXs];omega⟩,if_pos ⟨by omega,by omega⟩,←hXe]
            congr 2
            show X.extract 1 ((Ln:Int)+2 - 1).toNat=_
            rw [show ((Ln:Int)+2 - 1).toNat=Ln+1 by omega]
          have hcat:=cat_rows [117,114,110,58,99,97,108,101,112,105,110,58,49,46] (digF 6 (j+1))
          have htk:=tok_is (i:=j+1) (by omega) (by omega)
          have cD:=fun W (hW:At B sb w s2 W)=>hW.doN hB'.out 7 aB zB zB zB zB ⟨(tokI (j+1)).toArray⟩ 0 ⟨by decide,by decide,by decide,by decide,by decide,by show (tokI (j+1)).toArray.size≤_;rw [List.size_toArray];unfold tokI;rw [List.length_append,hLn];simp;omega,by decide,by decide⟩ (by rw [hat'.out.2.1];omega)
          obtain ⟨r,e3,e4⟩:=horizon_ask (E:=envP) hat'.out.1 hat'.out.2.2.1 (i:=j+1) (by omega) htk.2.1 htk.2.2
          have e5:doC envP s2 (cmdD 7 aB zB zB zB zB ⟨(tokI (j+1)).toArray⟩ [] 0)=(s2,r):=by
            rw [←e3,htk.1]
            rfl
          rw [e5] at cD
          have cD':=Lib.hid cD
          have hcat':=Lib.hid hcat
          have hlen2:(digF 6 (j+1)).length≤6:=by rw [hLn];exact hL6
          have hcase:(r.st=207∧low≤(j:Int)+1∧(j:Int)+1≤(i:Int)+1)∨(r.st=403∧¬ (low≤(j:Int)+1∧(j:Int)+1≤(i:Int)+1)):=by
            have h1:=hlw'.out
            have h2:=hat'.out.2.1
            rcases e4 with ⟨k1,k2,k3⟩ | ⟨k1,k3⟩
            · exact .inl ⟨k3,by omega,by omega⟩
            · exact .inr ⟨k3,fun h=>k1 ⟨by omega,by omega⟩⟩
          have hcase':=Lib.hid hcase
          clear cG hb5 hX hLn hXe hcat cD e3 e4 e5 htk hcase
          go_wp2_with fail
          rw [show ((⟨#[117,114,110,58,99,97,108,101,112,105,110,58,49,46]⟩:ByteArray)++⟨(digF 6 (j+1)).toArray⟩)=⟨(tokI (j+1)).toArray⟩ from hcat'.out]
          generalize (⟨(tokI (j+1)).toArray⟩:ByteArray)=tk at cD' ⊢
          go_at_call 14
          refine (cD'.out w5 hA5.out).mono ?_
          rintro e w6 ⟨⟨d6,t6,ao6,m6,c6,rfl⟩,hA6⟩
          have hal6:Below w6.heap.size w6 (w6.alloc (.cells #[.int .i64 (r.st:Int),.int .i64 (r.tag:Int),.string d6,.slice ao6 m6 c6,.string t6] 38)):=(Below.refl _ _).alloc (Nat.le_refl _) _
          have hA7:=Lib.hid (hA6.kept hal6)
          have hcs:=hcase'.out
          obtain ⟨st,hst⟩:∃ st,r.st=st:=⟨_,rfl⟩
          rw [hst] at hA7 hcs ⊢
          clear cD' hA6 hal6 hcase' hcat' hst hXs hsl
          rcases hcs with ⟨rfl,h1,h2⟩ | ⟨rfl,h1⟩
          · have d1:decide (low≤(j:Int)+1)=true:=decide_eq_true h1
            have d2:decide ((j:Int)+1≤(i:Int)+1)=true:=decide_eq_true h2
            go_wp2
            exact ⟨⟨j+1,by go_num,by omega,hA7.out⟩,by simp [RowKit.intOf];omega⟩
          · by_cases h2:low≤(j:Int)+1
            · have h3:¬ (j:Int)+1≤(i:Int)+1:=fun h=>h1 ⟨h2,h⟩
              have d1:decide (low≤(j:Int)+1)=true:=decide_eq_true h2
              have d2:decide ((j:Int)+1≤(i:Int)+1)=false:=decide_eq_false h3
              clear h1
              go_wp2
              exact ⟨⟨j+1,by go_num,by omega,hA7.out⟩,by simp [RowKit.intOf];omega⟩
            · have d1:decide (low≤(j:Int)+1)=false:=decide_eq_false h2
              clear h1
              go_wp2
              exact ⟨⟨j+1,by go_num,by omega,hA7.out⟩,by simp [RowKit.intOf];omega⟩
        · obtain ⟨_,_,_,hbw⟩:=hA
          have hbw':=Lib.hid hbw
          clear hbw
          go_wp2
          go_ret
          exact ⟨rfl,hbw'.out⟩
end Bo
namespace Ch
open Go.Lib Go.RowKit Go.Shelf Go.ChangeShapes Go.WideShapes Go.ChangeAt
theorem own:ownKnob Tryz.prog.godebug=none:=by kernel_rfl
theorem accept_eq:Rows.laid_unicode_utf8_acceptRanges=Lib.acceptData:=by kernel_rfl
theorem first_eq:Rows.laid_unicode_utf8_first=Lib.firstData:=Pinned.utf8First_eq
theorem tabs_of {W : World} (h1 : VarReads Tryz.prog W "unicode/utf8.first" Lib.firstData) (h2 : VarReads Tryz.prog W "unicode/utf8.acceptRanges" Lib.acceptData) : Tabs W :=
  utf8Tabs_of_readsT (U8Types.of196 Tryz.laysValid) ⟨by kernel_rfl,by kernel_rfl,by kernel_rfl,by kernel_rfl,by kernel_rfl,by kernel_rfl,by kernel_rfl⟩ h1 h2
theorem gPow : Tryz.prog.globalNamed "internal/strconv.uint64pow10" = some 3 := by kernel_rfl
theorem tPow:(Tryz.prog.globals[3]?).map (·.type)=some 338:=by kernel_rfl
theorem cPow:Tryz.prog.cellsOf 338=20:=by kernel_rfl
theorem cU64:Tryz.prog.cellsOf 124=1:=by kernel_rfl
theorem pow_eq:(Rows.laid_internal_strconv_uint64pow10:DataW Unit)=Lib.tabData .u64 Lib.pow10Tab:=by kernel_rfl
theorem pow_of {W : World} (h : VarReads Tryz.prog W "internal/strconv.uint64pow10" (Lib.tabData .u64 Lib.pow10Tab)) : Pow W := by
  obtain ⟨g,t,cs,fuel,p,hg,hty,hvar,hd⟩:=h
  obtain rfl:=Option.some.inj (gPow.symm.trans hg)
  obtain rfl:=Option.some.inj (tPow.symm.trans hty)
  unfold Pow Lib.TabIs
  rw [hvar,←cells_of_tab Tryz.underlying338 Tryz.underlying124 cU64 cPow hd]
def de32:List Int:=[0,1,28,2,29,14,24,3,30,22,20,15,25,17,4,8,31,27,13,23,21,19,16,7,26,12,18,6,11,5,10,9]
def de64:List Int:=[0,1,56,2,57,49,28,3,61,58,42,50,38,29,17,4,62,47,59,36,45,43,51,22,53,39,33,30,24,18,12,5,63,55,48,27,60,41,37,16,46,35,44,21,52,32,23,11,54,26,40,15,34,20,31,10,25,14,19,9,13,8,7,6]
end Ch
namespace lawBookHorizon
open Go.Lib Go.RowKit Go.Shelf Go.ChangeShapes Go.WideShapes Go.ChangeAt Ch Bo
open Go.ChangeMaps (open_string shut_string)
theorem laid_tabs {W:World} (hL:laidMetH Tryz.prog Rows.bookHorizonRow.laid W):Tabs W :=
  tabs_of (first_eq▸Lib.laidMet.reads hL (.tail _ (.tail _ (.tail _ (.tail _ (.head _)))))) (accept_eq▸Lib.laidMet.reads hL (.tail _ (.tail _ (.tail _ (.head _)))))
theorem laid_pow {W:World} (hL:laidMetH Tryz.prog Rows.bookHorizonRow.laid W):Pow W :=
  pow_of (pow_eq▸Lib.laidMet.reads hL (.tail _ (.tail _ (.head _))))
noncomputable def laidWorld (os:Os):World :=
  let w0:=World.holding Tryz.prog os ⟨#[],#[],[]⟩
  let put (h:Array Obj) (g:Nat) (cs:Array Value):Array Obj:=h.modify g fun
    | .cells _ t frozen=>.cells cs t frozen
    | o=>o
  let h1:=put w0.heap 1 (Lib.firstTab.map fun z=>Value.int .u8 z).toArray
  let h2:=put h1 2 ((List.range 16).flatMap fun i=>[Value.int .u8 (Lib.accLo i),Value.int .u8 (Lib.accHi i)]).toArray
  let h3:=put h2 3 (Lib.pow10Tab.map fun z=>Value.int .u64 z).toArray
  let h4:=put h3 4 (de32.map fun z=>Value.int .u8 z).toArray
  let h5:=put h4 5 (de64.map fun z=>Value.int .u8 z).toArray
  { w0 with heap:=h5 }
theorem laid_met (os:Os) (args:Array Value):laidMet Tryz.prog Rows.bookHorizonRow.laid ((laidWorld os).forCall (fun _ _=>0) ⟨#[],args,[]⟩).memory :=
  (LaidIn.of_run (l:=Rows.bookHorizonRow.laid) [4,5,3,2,1] 8 (by kernel_rfl) (by kernel_rfl) (by kernel_rfl) (by kernel_rfl)).met
theorem witness_row (os:Os) {H:Type} (enc:TypeId × Value→H) :
    (OpenSpec.ofChange Rows.bookHorizonSpec).preRow enc Tryz.prog Tryz.f9 Rows.bookHorizonRow.domain false Rows.bookHorizonRow.laid ((laidWorld os).forCall (fun _ _=>0) ⟨#[],#[.int .i64 0,.int .i64 0],[]⟩).memory #[.int .i64 0,.int .i64 0]:=by
  have hw:(DataW.whole enc Tryz.prog ((laidWorld os).forCall (fun _ _=>0) ⟨#[],#[.int .i64 0,.int .i64 0],[]⟩).memory Tryz.f9.params.toList Rows.bookHorizonSpec.vars false (#[Value.int .i64 0,Value.int .i64 0]:Array Value).toList 8).map (fun x=>(x.1,x.2.1)) =
      some ([.lit (.int .i64 0),.lit (.int .i64 0)],[]):=by kernel_rfl
  obtain ⟨⟨x1,x2,x3⟩,hx,hx1⟩:=Option.map_eq_some_iff.1 hw
  simp only [Prod.mk.injEq] at hx1
  obtain ⟨rfl,rfl⟩:=hx1
  exact OpenSpec.preRow_of_cond 8 hx (by kernel_rfl) (fun k hk=>by cases hk) (by kernel_rfl) (laid_met os _)
theorem lifted (os:Os) (started:os.Started) (H:Type) (enc:TypeId × Value→H) (F:Stop.Interp) :
    ReturnsInHanded {} Tryz.checked os 9 .any ((OpenSpec.ofChange Rows.bookHorizonSpec).preRow enc Tryz.prog Tryz.f9 Rows.bookHorizonRow.domain false Rows.bookHorizonRow.laid) (((OpenSpec.ofChange Rows.bookHorizonSpec).at F).post enc Tryz.prog Tryz.f9 false true false false):=by
  refine returnsInHanded_of_row (C:=Tryz.checked) (s:=(OpenSpec.ofChange Rows.bookHorizonSpec)) own started (by kernel_rfl) Tryz.func9
    (witness_row_atRef (enc:=enc) (C:=Tryz.checked) false (laidWorld os) #[.int .i64 0,.int .i64 0] rfl (by kernel_rfl) (by kernel_rfl) (by kernel_rfl) (witness_row os enc)) ?_
  intro W base args ds gs before hval0 hW _ hcond hsz hL hsh _
  have hval:∀ (j:Nat) t v,Tryz.f9.params[j]?=some t→args[j]?=some v→Value.okWide Tryz.prog W .any base t v:=hval0
  have hW':=hW
  obtain ⟨p,q,hA0,hV0,rfl,_,_⟩:=hW
  have hA:DataW.TrodAll enc Tryz.prog W 0 (fun _=>true) true Tryz.f9.params.toList args.toList ds p:=hA0
  rw [Tryz.params9] at hA hval
  obtain ⟨v0,v1,d0,d1,p0,p1,rfl,rfl,rfl,h0,h1⟩:=trodAll_two hA
  obtain ⟨rfl,rfl⟩:=trodVars_none hV0
  obtain ⟨s0,rfl,rfl,rfl,ws0⟩:=open_int Tryz.underlying3 (hval 0 3 v0 rfl rfl) h0
  obtain ⟨s1,rfl,rfl,rfl,ws1⟩:=open_int Tryz.underlying3 (hval 1 3 v1 rfl rfl) h1
  clear hA0 hV0 hval0 hsz
  refine (hor_walk s0 s1 W ⟨laid_tabs hL,laid_pow hL,Below.refl _ _⟩).mono ?_
  rintro e W' ⟨rfl,bel⟩
  have e1:((OpenSpec.ofChange Rows.bookHorizonSpec).at F).fn H ([.lit (.int .i64 s0),.lit (.int .i64 s1)]++[])={ results:=[.lit (.bool true)],args:=[.lit (.int .i64 s0),.lit (.int .i64 s1)] }:=rfl
  refine ⟨_,rfl,_,_,_,[],[],[],hW',?_,?_,?_,bel.frame _,fun h=>by cases h⟩
  · rw [e1];exact trodAll_mk1 (shut_bool Tryz.underlying4 _)
  · rw [e1];exact trodAll_mk2 (shut_int Tryz.underlying3 ws0) (shut_int Tryz.underlying3 ws1)
  · rw [e1];rfl
end lawBookHorizon
namespace lawBookHorizon
theorem fact_inPlace:(Rows.bookHorizonRow.inPlace==Tryz.pinned.checked.prog.inPlace 9)=true:=by kernel_rfl
theorem fact_unfollowed:(Rows.bookHorizonRow.unfollowed==Tryz.pinned.checked.prog.unfollowed 9)=true:=by kernel_rfl
theorem fact_recurses:(Rows.bookHorizonRow.recurses==Tryz.pinned.checked.prog.recurses 9)=true:=by kernel_rfl
theorem fact_named:(Rows.bookHorizonRow.named==Tryz.pinned.checked.prog.varsNamed 9)=true:=by kernel_rfl
end lawBookHorizon
namespace lawBookHorizon
open Go.Lib Go.RowKit Go.Shelf Go.ChangeShapes Go.WideShapes Go.ChangeAt Ch Bo
open Go.ChangeMaps (open_string shut_string)
theorem closed:joinedFacts Tryz.pinned.checked.prog 9 Tryz.f9 (OpenSpec.ofChange Rows.bookHorizonSpec).bare Rows.bookHorizonRow=true:=by
  unfold joinedFacts
  rw [fact_inPlace,fact_unfollowed,fact_recurses,fact_named]
  kernel_rfl
theorem said:Rows.BookHorizonSaid :=
  OpenClaim.holds_of_cond 9 Tryz.f9 rfl rfl rfl rfl rfl rfl rfl ⟨rfl,rfl,rfl,rfl,rfl⟩ rfl rfl rfl rfl rfl (by kernel_rfl) Tryz.func9 closed
    (of_decide_eq_true (by kernel_rfl)) (by unfold Func.isWrapper;rw [if_neg (of_decide_eq_false (by kernel_rfl))];exact ⟨rfl,rfl⟩)
    (fun os started H enc _ F=>by rw [OpenClaim.pre_eq_preRow];exact lifted os started H enc F)
open Go.ChangeMaps (open_string shut_string)
theorem plain (f:FuncId) (fn:Func) (hf:Tryz.pinned.checked.prog.funcNamed Rows.bookHorizonRow.func=some f) (hfn:Tryz.pinned.checked.prog.funcs[f]?=some fn) :
    true=Tryz.pinned.checked.prog.looks []∧∀ (j:Nat) t,fn.params[j]?=some t→Tryz.pinned.checked.prog.wantsStandIn t=false:=by
  obtain rfl:f=9:=Option.some.inj ((show Tryz.prog.funcNamed Rows.bookHorizonRow.func=some 9 by kernel_rfl).symm.trans hf) |>.symm
  obtain rfl:fn=Tryz.f9:=(Option.some.inj (Tryz.func9.symm.trans hfn)).symm
  refine ⟨by kernel_rfl,fun j t ht=>?_⟩
  rw [Tryz.params9] at ht
  obtain rfl:t=3:=by simpa using Array.mem_of_getElem? ht
  exact (show Tryz.prog.wantsStandIn 3=false by kernel_rfl)
theorem card:Rows.BookHorizonCardSaid :=
  Claim7.holds_tied_plain_at .later [] _ _ _ _ said (fun _ h=>by cases h) (by kernel_rfl) (fun _ h=>by cases h) bookHorizon_row_tie rfl ⟨rfl,rfl⟩ (by kernel_rfl) rfl plain (by kernel_rfl)
end lawBookHorizon
end Go.Proofs.YtiahokfglboefaaGreatDoor
