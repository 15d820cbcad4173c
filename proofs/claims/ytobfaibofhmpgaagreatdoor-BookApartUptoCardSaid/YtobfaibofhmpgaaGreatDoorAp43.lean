/- Texts brought together, and only what the theorem reaches. -/
import Derived.Test.YtobfaibofhmpgaaGreatDoorAp42
import Derived.Test.YtobfaibofhmpgaaGreatDoorCards
import Derived.Test.YtobfaibofhmpgaaGreatDoorTie
import Derived.PinnedBridge
import Derived.Lib.LaidIn
import Derived.Deep.DeepHandedRow
import Derived.Deep.DeepWitnessRowRef
import Derived.ProofKit
import Derived.OpenShut
import Derived.JoinedCond
set_option linter.unusedVariables false
set_option maxHeartbeats 16000000
set_option maxRecDepth 100000
namespace Go.Proofs.YtobfaibofhmpgaaGreatDoor
namespace Bo
open Go.Lib Go.RowKit
theorem row_zero {w:World} {B:Nat} {e:TypeId} {size:Nat} {v:Value} {xs:List Value} (h:w.ownsRow B e size v 0 xs):∃ ao cp,v=.slice ao 0 cp:=by
  rcases h.2 with ⟨hv,_⟩ | ⟨g,cap,cur,e1,_⟩
  · exact ⟨none,0,hv⟩
  · exact ⟨_,_,e1⟩
theorem strs_li {w:World} {v:Value} {ls:List Row} (h:Cd.StrsAt w v ls):Li.StrsAt w v ls:=by
  obtain ⟨A,b,off,c,h1,h2,h3,h4,h5⟩:=Cd.rows_one (f:=sv) (fun _=>rfl) h
  exact ⟨A,b,off,c,h1,h2,h3,h4,fun j x hj=>h5 j x hj⟩
theorem sum_mem {l:List Kc.Cm} {c:Kc.Cm} (h:c∈l):c.sz<=(l.map Kc.Cm.sz).sum:=by
  induction l with
  | nil=>cases h
  | cons y r ih =>
    simp only [List.map_cons,List.sum_cons]
    rcases List.mem_cons.1 h with rfl | h
    · omega
    · have:=ih h;omega
theorem cm_ok {c:Kc.Cm} (hw:c.Wf) (hs:c.sz<=1048576):CmdOk c.bk c.nm c.dt c.mt c.nn c.tk c.names c.pos:=by
  unfold Kc.Cm.sz at hs
  have h1:=Kc.szN_sum c.names
  have h2:=hw.pos
  unfold Kc.i64 at h2
  exact ⟨by omega,by omega,by omega,by omega,by omega,by omega,by omega,fun x hx=>by have:=Kc.szN_mem hx;omega,h2⟩
theorem apart_walk (v:Value) (cs:List Kc.Cm) (w:World) (hv:Kc.CmsAt w v cs) (hsz:(cs.map Kc.Cm.sz).sum<=1048576) (hG:Grd w w) :
    Calls Tryz.prog 5 #[v] w fun e w'=>e=.returned (.bool true)/\Below w.heap.size w w':=by
  have cF:=first_any w w hG
  have hG':=Lib.hid hG
  obtain ⟨A,pb,off,cap,rfl,hcl,hcm,hA0,hcell⟩:=hv
  have hzc:=Lib.hid (And.intro hA0 hcell)
  obtain ⟨n,hne⟩:∃ n,cs.length=n:=⟨_,rfl⟩
  rw [hne] at hcl ⊢
  have hn63:n<=9223372036854775807:=by unfold maxLen at hcm;omega
  have hne':=Lib.hid hne
  have hsz':=Lib.hid hsz
  clear hG hA0 hcell hne hsz
  go_enter Tryz.func5,Tryz.ntmps5
  go_wp2_with fail
  go_at_call 7
  refine cF.mono ?_
  rintro e w1 ⟨rfl,hb1⟩
  have cN:=newS w w1 (hG'.out.below hb1)
  have hB:=hb1.size
  have hb1':=Lib.hid hb1
  clear cF hb1
  go_wp2_with fail
  go_at_call 8
  refine cN.mono ?_
  rintro e w2 ⟨sb,F2,rfl,hS2,hb2,hG2⟩
  have hA2:At w1.heap.size sb w ⟨0,[]⟩ w2:=⟨F2,hS2,hG2,hb1'.out.trans (hb2.mono hB)⟩
  obtain ⟨B,hBe⟩:∃ B,w1.heap.size=B:=⟨_,rfl⟩
  rw [hBe] at hA2 hB
  have cM:=hA2.x.doN hB 1 oB zB zB zB zB zB 0 (by decide) (by decide)
  rw [o_make] at cM
  have hB':=Lib.hid hB
  clear cN hS2 hb2 hG2 hA2 hB hBe hb1'
  go_wp2_with fail
  go_at_call 9
  refine cM.mono ?_
  rintro e w3 ⟨⟨_,_,_,_,rfl⟩,hA3,_⟩
  have hA3':=Lib.hid hA3
  clear cM hA3
  go_wp2_with fail
  go_at_call 12
  refine (card_any 3 w3).mono ?_
  rintro e w4 ⟨rfl,hb4⟩
  have cP:=(hA3'.out.kept hb4).doN hB'.out 3 oB xB ⟨(cardN (letN 3)).toArray⟩ zB zB zB 0 ⟨by decide,by decide,by rw [size_of,cardN_len];decide,by decide,by decide,by decide,by decide,by decide⟩ (by decide)
  rw [o_put] at cP
  generalize (⟨(cardN (letN 3)).toArray⟩:ByteArray)=dt at cP ⊢
  clear hb4
  go_wp2_with fail
  go_at_call 9
  refine cP.mono ?_
  rintro e w5 ⟨⟨_,_,_,_,rfl⟩,hA5,_⟩
  have cL:=hA5.doE hB'.out 6 oB zB zB zB zB zB 0 (by decide) (by decide)
  rw [ap_list ap_start] at cL
  have hT2:(⟨(envP.prT 1 so2.chg).toArray⟩:ByteArray)=⟨t2R.toArray⟩:=by rw [show envP.prT 1 so2.chg=t2R from o_tok]
  simp only [hT2] at cL
  obtain ⟨T,hT⟩:∃ T:ByteArray,(⟨t2R.toArray⟩:ByteArray)=T:=⟨_,rfl⟩
  rw [hT] at cL
  have hTs:T.size<=1048576:=by rw [<-hT];decide
  have hT':=Lib.hid hT
  clear cP hA5 hT2 hT
  go_wp2_with fail
  go_at_call 9
  refine cL.mono ?_
  rintro e w6 ⟨ev,rfl,hrow,hA6,_⟩
  obtain ⟨eb,ecap,rfl,hE6,hel,hec1,hec2⟩:=row_one hrow
  unfold repV
  obtain ⟨ww,hww⟩:∃ ww,w6.heap.size=ww:=⟨_,rfl⟩
  obtain ⟨w7,hw7⟩:∃ w7,w6.alloc (.cells #[.int .i64 207,.int .i64 0,.string ⟨#[]⟩,.slice (some ⟨eb,0,none⟩) 1 ecap,.string T] 29)=w7:=⟨_,rfl⟩
  have hA7:=hA6.add (.cells #[.int .i64 207,.int .i64 0,.string ⟨#[]⟩,.slice (some ⟨eb,0,none⟩) 1 ecap,.string T] 29)
  have hW7:=heap_alloc_new w6 (.cells #[.int .i64 207,.int .i64 0,.string ⟨#[]⟩,.slice (some ⟨eb,0,none⟩) 1 ecap,.string T] 29)
  have hE7:EAt w7 eb:=by
    rw [<-hw7]
    exact hE6.heap (heap_alloc_old _ _ _ hel)
  rw [hw7,hww] at hA7 hW7
  have hX7:AtX B sb [ww,eb] w so2 w7:=hA7.sub fun k hk=>by
    simp [Value.ownBlock] at hk ⊢
    exact hk
  have hX7':=Lib.hid (And.intro hX7 (And.intro hW7 hE7))
  clear cL hrow hA6 hE6 hel hec1 hec2 hA7 hW7 hE7 hX7
  go_wp2
  go_loopw [24] (fun s24 wr=>∃ (k:Nat) (s:Sh),s24=.int .i64 (k:Int)/\k<=n/\k<=40/\ApInv s k/\AtX B sb [ww,eb] w s wr/\wr.heap[ww]?=some (.cells #[.int .i64 207,.int .i64 0,.string ⟨#[]⟩,.slice (some ⟨eb,0,none⟩) 1 ecap,.string T] 29 (0,0))/\EAt wr eb) (fun s24 wr=>n - (RowKit.intOf s24).toNat)
  case atStart=>exact ⟨0,so2,by rfl,Nat.zero_le _,by decide,ap_start,hX7'.out.1,hX7'.out.2.1,hX7'.out.2.2⟩
  case round =>
    obtain ⟨k,s,rfl,hkn,hk40,hI,hA,hW,hE⟩:=hrel
    have hbw:=Lib.hid hA.below
    by_cases hlt:k < n
    · obtain ⟨c,hc⟩:∃ c,cs[k]?=some c:=⟨_,List.getElem?_eq_getElem (by rw [hne'.out];exact hlt)⟩
      have hcs:c.sz<=1048576:=Nat.le_trans (sum_mem (List.mem_of_getElem? hc)) hsz'.out
      obtain ⟨hwf,nv,hns,hcc⟩:=hzc.out.2 k c hc
      obtain ⟨rfl,hpb⟩:=hzc.out.1 (by rw [hne'.out];omega)
      have hcl2:∀ q u,(Kc.cells c nv)[q]?=some u->wr.cell? ⟨pb,off+k*11+q,none⟩=some u:=fun q u hu=>by
        rw [hbw.out.cell (p:=⟨pb,off+k*11+q,none⟩) hpb]
        exact hcc q u hu
      have hns':=hns.kept hbw.out
      obtain ⟨nA,nb,noff,ncp,rfl,nh1,nh2,nh3,nh4⟩:=Cd.rows_one (f:=sv) (fun _=>rfl) hns
      have k0:wr.cell? ⟨pb,off+k*11,none⟩=some (.int .i64 c.op):=hcl2 0 _ rfl
      have k1:wr.cell? ⟨pb,off+k*11+1,none⟩=some (.string c.bk):=hcl2 1 _ rfl
      have k2:wr.cell? ⟨pb,off+k*11+2,none⟩=some (.string c.nm):=hcl2 2 _ rfl
      have k3:wr.cell? ⟨pb,off+k*11+3,none⟩=some (.string c.dt):=hcl2 3 _ rfl
      have k4:wr.cell? ⟨pb,off+k*11+4,none⟩=some (.string c.mt):=hcl2 4 _ rfl
      have k5:wr.cell? ⟨pb,off+k*11+5,none⟩=some (.string c.nn):=hcl2 5 _ rfl
      have k6:wr.cell? ⟨pb,off+k*11+6,none⟩=some (.string c.tk):=hcl2 6 _ rfl
      have k7:wr.cell? ⟨pb,off+k*11+7,none⟩=some (.slice nA c.names.length ncp):=hcl2 7 _ rfl
      have k8:wr.cell? ⟨pb,off+k*11+8,none⟩=some (.int .i64 c.pos):=hcl2 8 _ rfl
      have k9:wr.cell? ⟨pb,off+k*11+9,none⟩=some (.int .i64 c.ses):=hcl2 9 _ rfl
      have k10:wr.cell? ⟨pb,off+k*11+10,none⟩=some (.int .i64 c.seq):=hcl2 10 _ rfl
      have hok:=cm_ok hwf hcs
      have hds:c.dt.size<=1048576:=by unfold Kc.Cm.sz at hcs;omega
      have hnl:c.names.length<=1048576:=by unfold Kc.Cm.sz at hcs;have:=Kc.szN_sum c.names;omega
      obtain ⟨op,bk,nm,dt,mt,nn,tk,ns,pos,ses,sq⟩:=c
      simp only at k0 k1 k2 k3 k4 k5 k6 k7 k8 k9 k10 hok hns' nh1 hds hnl
      have hsw:IntKind.i64.wrap ((dt.size:Int)+(ns.length:Int))=(dt.size:Int)+(ns.length:Int):=by rw [IntKind.wrap_i64];omega
      obtain ⟨bC,hbC⟩:∃ bC,wr.heap.size=bC:=⟨_,rfl⟩
      obtain ⟨wC,hwC⟩:∃ wC,wr.alloc (.cells #[.int .i64 op,.string bk,.string nm,.string dt,.string mt,.string nn,.string tk,.slice nA ns.length ncp,.int .i64 pos,.int .i64 ses,.int .i64 sq] 34)=wC:=⟨_,rfl⟩
      have hAC:=hA.add (.cells #[.int .i64 op,.string bk,.string nm,.string dt,.string mt,.string nn,.string tk,.slice nA ns.length ncp,.int .i64 pos,.int .i64 ses,.int .i64 sq] 34)
      have hHC:=heap_alloc_new wr (.cells #[.int .i64 op,.string bk,.string nm,.string dt,.string mt,.string nn,.string tk,.slice nA ns.length ncp,.int .i64 pos,.int .i64 ses,.int .i64 sq] 34)
      have hWC:wC.heap[ww]?=some (.cells #[.int .i64 207,.int .i64 0,.string ⟨#[]⟩,.slice (some ⟨eb,0,none⟩) 1 ecap,.string T] 29 (0,0)):=by rw [<-hwC];exact (heap_alloc_old _ _ _ (Array.getElem?_eq_some_iff.1 hW).1).trans hW
      have hEC:EAt wC eb:=by rw [<-hwC];exact hE.heap (heap_alloc_old _ _ _ (hA.lt (by simp)))
      have hnC:Li.StrsAt wC (.slice nA ns.length ncp) ns:=strs_li (hns'.kept (by rw [<-hwC];exact (Below.refl _ _).alloc (Nat.le_refl _) _))
      rw [hwC,hbC] at hAC hHC
      have m0:=Lib.cell_of_heap hHC 0
      have m1:=Lib.cell_of_heap hHC 1
      have m2:=Lib.cell_of_heap hHC 2
      have m3:=Lib.cell_of_heap hHC 3
      have m4:=Lib.cell_of_heap hHC 4
      have m5:=Lib.cell_of_heap hHC 5
      have m6:=Lib.cell_of_heap hHC 6
      have m7:=Lib.cell_of_heap hHC 7
      have m8:=Lib.cell_of_heap hHC 8
      have m9:=Lib.cell_of_heap hHC 9
      have m10:=Lib.cell_of_heap hHC 10
      have hC':=Lib.hid (And.intro hAC (And.intro hWC (And.intro hEC hnC)))
      have hI':=Lib.hid hI
      have hok':=Lib.hid hok
      have hbe:=Lib.hid (hAC.below)
      clear hW hE hA hAC hHC hWC hEC hnC hI hok hcl2 hns' hns hwf hc hcs hcc nh3 nh4
      by_cases h40:k < 40
      · have d40:¬ (40:Int)<=(k:Int):=by omega
        by_cases h3:3000 < dt.size+ns.length
        · have d3:(3000:Int) < (dt.size:Int)+(ns.length:Int):=by omega
          go_wp2
          go_ret
          exact ⟨rfl,hbe.out⟩
        · have d3:¬ (3000:Int) < (dt.size:Int)+(ns.length:Int):=by omega
          by_cases hbk:bk.data.toList=oN
          · have hb1:(bk.toList==[111,119,110])=true:=by rw [Lib.toList_data,hbk];rfl
            have hrel2:Hid (AtX B sb [ww,eb] w s wC/\wC.heap[ww]?=some (.cells #[.int .i64 207,.int .i64 0,.string ⟨#[]⟩,.slice (some ⟨eb,0,none⟩) 1 ecap,.string T] 29 (0,0))/\EAt wC eb):=Lib.hid ⟨hC'.out.1.sub fun x hx=>by simp at hx ⊢;omega,hC'.out.2.1,hC'.out.2.2.1⟩
            clear hbk hC'
            go_wp2
            go_roundw
            case rel=>exact ⟨k+1,s,by go_num,by omega,by omega,⟨hI'.out.at_,hI'.out.low,by have:=hI'.out.high;omega⟩,hrel2.out⟩
            case measure=>simp [RowKit.intOf];omega
          · have hb1:(bk.toList==[111,119,110])=false:=by rw [Lib.toList_data];exact beq_eq_false_iff_ne.2 hbk
            have cDo:=hC'.out.1.doS hB'.out op bk nm dt mt nn tk ns _ hC'.out.2.2.2 pos ses sq hok'.out (by have:=hI'.out.high;omega)
            have hI2:=ap_do hI'.out (cmdD op bk nm dt mt nn tk ns pos) hbk
            obtain ⟨s',hs'⟩:∃ s',(doC envP s (cmdD op bk nm dt mt nn tk ns pos)).1=s':=⟨_,rfl⟩
            rw [hs'] at cDo hI2
            have hI2':=Lib.hid hI2
            have hWC':=Lib.hid hC'.out.2.1
            have hEC':=Lib.hid hC'.out.2.2.1
            clear hbk hs' hI' hok' hC' hI2
            go_wp2_with fail
            go_at_call 9
            refine cDo.mono ?_
            rintro e wD ⟨⟨vD,rfl⟩,hAD,hXD⟩
            have hWD:=Lib.hid ((hXD ww (by simp)).trans hWC'.out)
            have hED:=Lib.hid (hEC'.out.heap (hXD eb (by simp)))
            have cL2:=hAD.doE hB'.out 6 oB zB zB zB zB zB 0 (by decide) (by have:=hI2'.out.high;omega)
            rw [ap_list hI2'.out] at cL2
            obtain ⟨TK,hTK⟩:∃ TK:ByteArray,(⟨(envP.prT 1 s'.chg).toArray⟩:ByteArray)=TK:=⟨_,rfl⟩
            simp only [hTK] at cL2
            have hTK':=Lib.hid hTK
            clear cDo hAD hXD hWC' hEC' hTK m0 m1 m2 m3 m4 m5 m6 m7 m8 m9 m10
            go_wp2_with fail
            go_at_call 9
            refine cL2.mono ?_
            rintro e wL ⟨ev2,rfl,hrow2,hAL,hXL⟩
            obtain ⟨eb2,ecap2,rfl,hE2,hel2,_,_⟩:=row_one hrow2
            unfold repV
            obtain ⟨nb',hnb'⟩:∃ nb',wL.heap.size=nb':=⟨_,rfl⟩
            obtain ⟨wN,hwN⟩:∃ wN,wL.alloc (.cells #[.int .i64 207,.int .i64 0,.string ⟨#[]⟩,.slice (some ⟨eb2,0,none⟩) 1 ecap2,.string TK] 29)=wN:=⟨_,rfl⟩
            have hAN:=hAL.add (.cells #[.int .i64 207,.int .i64 0,.string ⟨#[]⟩,.slice (some ⟨eb2,0,none⟩) 1 ecap2,.string TK] 29)
            have hNN:=heap_alloc_new wL (.cells #[.int .i64 207,.int .i64 0,.string ⟨#[]⟩,.slice (some ⟨eb2,0,none⟩) 1 ecap2,.string TK] 29)
            have hWL:=(hXL ww (by simp)).trans hWD.out
            have hEL:=hED.out.heap (hXL eb (by simp))
            have hWN:wN.heap[ww]?=some (.cells #[.int .i64 207,.int .i64 0,.string ⟨#[]⟩,.slice (some ⟨eb,0,none⟩) 1 ecap,.string T] 29 (0,0)):=by rw [<-hwN];exact (heap_alloc_old _ _ _ (Array.getElem?_eq_some_iff.1 hWL).1).trans hWL
            have hEN:EAt wN eb:=by rw [<-hwN];exact hEL.heap (heap_alloc_old _ _ _ (hAL.lt (by simp)))
            have hE2N:EAt wN eb2:=by rw [<-hwN];exact hE2.heap (heap_alloc_old _ _ _ hel2)
            rw [hwN,hnb'] at hAN hNN
            have hAN2:AtX B sb [nb',eb2,ww,eb] w s' wN:=hAN.sub fun x hx=>by
              simp [Value.ownBlock] at hx ⊢
              omega
            have hN':=Lib.hid (And.intro hAN2 (And.intro hNN (And.intro hWN (And.intro hEN hE2N))))
            have hT4:=Lib.cell_of_heap hWN 4
            have hsy:doC envP s' (cmdD 7 oB zB zB zB zB T [] 0)=(s',{ st:=207,ents:=[],tok:=envP.prT 1 s'.chg }):=by rw [<-hT'.out];exact ap_sync hI2'.out
            have cS2:=hAN2.doE hB'.out 7 oB zB zB zB zB T 0 ⟨by decide,by decide,by decide,by decide,by decide,hTs,by decide,by decide⟩ (by have:=hI2'.out.high;omega)
            rw [hsy] at cS2
            simp only [hTK'.out] at cS2
            clear cL2 hrow2 hAL hXL hE2 hel2 hAN hNN hWL hEL hWN hEN hE2N hAN2 hsy
            go_wp2_with fail
            go_at_call 9
            refine cS2.mono ?_
            rintro e wS ⟨ev3,rfl,hrow3,hAS,hXS⟩
            obtain ⟨ao3,cp3,rfl⟩:=row_zero hrow3
            unfold repV
            obtain ⟨db',hdb'⟩:∃ db',wS.heap.size=db':=⟨_,rfl⟩
            obtain ⟨wF,hwF⟩:∃ wF,wS.alloc (.cells #[.int .i64 207,.int .i64 0,.string ⟨#[]⟩,.slice ao3 0 cp3,.string TK] 29)=wF:=⟨_,rfl⟩
            have hAF:=hAS.add (.cells #[.int .i64 207,.int .i64 0,.string ⟨#[]⟩,.slice ao3 0 cp3,.string TK] 29)
            have hDF:=heap_alloc_new wS (.cells #[.int .i64 207,.int .i64 0,.string ⟨#[]⟩,.slice ao3 0 cp3,.string TK] 29)
            have hkp:∀ x∈[nb',eb2,ww,eb],wF.heap[x]?=wN.heap[x]?:=fun x hx=>by
              rw [<-hwF]
              exact (heap_alloc_old _ _ _ (hAS.lt (List.mem_append_right _ hx))).trans (hXS x hx)
            rw [hwF,hdb'] at hAF hDF
            obtain ⟨_,hNN,hWN,hEN,hE2N⟩:=hN'.out
            have hNF:=(hkp nb' (by simp)).trans hNN
            have hWF:=(hkp ww (by simp)).trans hWN
            have hEF:=hEN.heap (hkp eb (by simp))
            have hE2F:=hE2N.heap (hkp eb2 (by simp))
            have hAF2:AtX B sb [db',nb',eb2,ww,eb] w s' wF:=hAF.sub fun x hx=>by
              simp at hx ⊢
              omega
            have cSame:=same_any wF eb2 eb ecap2 ecap hE2F hEF (hAF2.lt (by simp)) (hAF2.lt (by simp))
            have n3:=Lib.cell_of_heap hNF 3
            have v3:=Lib.cell_of_heap hWF 3
            have hF':=Lib.hid (And.intro hAF2 (And.intro hDF (And.intro hNF (And.intro hWF hEF))))
            clear cS2 hrow3 hAS hXS hAF hDF hkp hNN hWN hEN hE2N hNF hWF hEF hE2F hAF2 hT4 hN'
            go_wp2_with fail
            go_at_call 14
            refine cSame.mono ?_
            rintro e wG ⟨rfl,hbG⟩
            obtain ⟨hAF2,hDF,hNF,hWF,hEF⟩:=hF'.out
            have hDG:=(hbG.block _ (Array.getElem?_eq_some_iff.1 hDF).1).trans hDF
            have hNG:=(hbG.block _ (Array.getElem?_eq_some_iff.1 hNF).1).trans hNF
            have z0:=Lib.cell_of_heap hDG 0
            have z3:=Lib.cell_of_heap hDG 3
            have z4:=Lib.cell_of_heap hDG 4
            have y4:=Lib.cell_of_heap hNG 4
            have hrel3:Hid (AtX B sb [ww,eb] w s' wG/\wG.heap[ww]?=some (.cells #[.int .i64 207,.int .i64 0,.string ⟨#[]⟩,.slice (some ⟨eb,0,none⟩) 1 ecap,.string T] 29 (0,0))/\EAt wG eb):=Lib.hid ⟨(hAF2.kept hbG).sub fun x hx=>by simp at hx ⊢;omega,(hbG.block _ (Array.getElem?_eq_some_iff.1 hWF).1).trans hWF,hEF.heap (hbG.block eb (hAF2.lt (by simp)))⟩
            clear cSame hAF2 hDF hNF hWF hEF hDG hNG hbG hF'
            go_wp2
            go_roundw
            case rel=>exact ⟨k+1,s',by go_num,by omega,by omega,hI2'.out,hrel3.out⟩
            case measure=>simp [RowKit.intOf];omega
      · have d40:(40:Int)<=(k:Int):=by omega
        go_wp2
        go_ret
        exact ⟨rfl,hbe.out⟩
    · obtain rfl:k=n:=by omega
      clear hW hE hA hI
      go_wp2
      go_ret
      exact ⟨rfl,hbw.out⟩
end Bo
namespace La
open Go.Lib Go.RowKit Go.ChangeShapes Go.WideShapes
theorem laidOut:laidOutB Tryz.prog=true:=by kernel_rfl
theorem post_left {P:Program} {f:Func} {s:OpenSpec} {F:Stop.Interp} {apart fresh handsOn again:Bool} {H:Type} {enc:TypeId × Value->H} {W W':World} {args:Array Value} {v:Value} {ds gs:List (DataW H)} {before pa pv:List MemPlace}
    (hW:DataW.Whole enc P f.params.toList s.vars apart W args.toList ds gs before)
    (hres:∀ (b:Nat) (sp:Nat->Bool) (hd:Bool),DataW.TrodAll enc P W' b sp hd f.resultTypes.toList (v.resultList f.resultTypes.size) ((s.at F).fn H (ds++gs)).results [])
    (hargs:DataW.TrodAll enc P W' 0 (fun b=>decide (b < W.heap.size)) true f.params.toList args.toList ((s.at F).fn H (ds++gs)).args pa)
    (hvars:DataW.TrodVars enc P W' (fun b=>decide (b < W.heap.size)) s.vars ((s.at F).fn H (ds++gs)).vars pv)
    (hps:before=pa++pv) (hb:Below W.heap.size W W') (hag:again=false) :
    (s.at F).post enc P f apart fresh handsOn again W args v W':=by
  subst hag
  exact ⟨ds,gs,before,[],pa,pv,hW,hres _ _ _,hargs,hvars,World.keptBut_mono (fun p hp=>⟨hp,by rw [hps,List.mem_append] at hp;exact Or.inr hp⟩) (hb.frame (·∈before)),fun h=>by cases h⟩
end La
namespace La
open Go.Lib Go.RowKit Go.Shelf Go.ChangeShapes Go.WideShapes Go.ChangeAt
theorem bulk_le {H:Type} {d:DataW H} {l:List (DataW H)} (h:d∈l):Rows.uptoBulk d<=Rows.uptoBulkAll l:=by
  induction l with
  | nil=>cases h
  | cons x r ih =>
    rw [Rows.uptoBulkAll]
    rcases List.mem_cons.1 h with rfl | h
    · omega
    · have:=ih h;omega
theorem bulk_all {H:Type} {l:List (DataW H)} (hk:Rows.uptoSmall H l=true):Rows.uptoBulkAll l<=1048576:=of_decide_eq_true hk
end La
namespace Ch
open Go.Lib Go.RowKit Go.Shelf Go.ChangeShapes Go.WideShapes Go.ChangeAt
theorem own:ownKnob Tryz.prog.godebug=none:=by kernel_rfl
theorem accept_eq:Rows.laid_unicode_utf8_acceptRanges=Lib.acceptData:=by kernel_rfl
theorem first_eq:Rows.laid_unicode_utf8_first=Lib.firstData:=Pinned.utf8First_eq
theorem tabs_of {W : World} (h1 : VarReads Tryz.prog W "unicode/utf8.first" Lib.firstData) (h2 : VarReads Tryz.prog W "unicode/utf8.acceptRanges" Lib.acceptData) : Tabs W :=
  utf8Tabs_of_readsT (U8Types.of196 Tryz.laysValid) ⟨by kernel_rfl,by kernel_rfl,by kernel_rfl,by kernel_rfl,by kernel_rfl,by kernel_rfl,by kernel_rfl⟩ h1 h2
theorem gPow : Tryz.prog.globalNamed "internal/strconv.uint64pow10" = some 3 := by kernel_rfl
theorem tPow:(Tryz.prog.globals[3]?).map (·.type)=some 276:=by kernel_rfl
theorem cPow:Tryz.prog.cellsOf 276=20:=by kernel_rfl
theorem cU64:Tryz.prog.cellsOf 71=1:=by kernel_rfl
theorem pow_eq:(Rows.laid_internal_strconv_uint64pow10:DataW Unit)=Lib.tabData .u64 Lib.pow10Tab:=by kernel_rfl
theorem pow_of {W : World} (h : VarReads Tryz.prog W "internal/strconv.uint64pow10" (Lib.tabData .u64 Lib.pow10Tab)) : Pow W := by
  obtain ⟨g,t,cs,fuel,p,hg,hty,hvar,hd⟩:=h
  obtain rfl:=Option.some.inj (gPow.symm.trans hg)
  obtain rfl:=Option.some.inj (tPow.symm.trans hty)
  unfold Pow Lib.TabIs
  rw [hvar,<-cells_of_tab Tryz.underlying276 Tryz.underlying71 cU64 cPow hd]
def de32:List Int:=[0,1,28,2,29,14,24,3,30,22,20,15,25,17,4,8,31,27,13,23,21,19,16,7,26,12,18,6,11,5,10,9]
def de64:List Int:=[0,1,56,2,57,49,28,3,61,58,42,50,38,29,17,4,62,47,59,36,45,43,51,22,53,39,33,30,24,18,12,5,63,55,48,27,60,41,37,16,46,35,44,21,52,32,23,11,54,26,40,15,34,20,31,10,25,14,19,9,13,8,7,6]
end Ch
namespace lawBookApart
open Go.Lib Go.RowKit Go.Shelf Go.ChangeShapes Go.WideShapes Go.ChangeAt Ch Bo
open Go.ChangeMaps (open_string shut_string)
theorem laid_tabs {W:World} (hL:laidMetH Tryz.prog Rows.bookApartUptoRow.laid W):Tabs W :=
  tabs_of (first_eq▸Lib.laidMet.reads hL (.tail _ (.tail _ (.tail _ (.tail _ (.head _)))))) (accept_eq▸Lib.laidMet.reads hL (.tail _ (.tail _ (.tail _ (.head _)))))
theorem laid_pow {W:World} (hL:laidMetH Tryz.prog Rows.bookApartUptoRow.laid W):Pow W :=
  pow_of (pow_eq▸Lib.laidMet.reads hL (.tail _ (.tail _ (.head _))))
noncomputable def laidWorld (os:Os):World :=
  let w0:=World.holding Tryz.prog os ⟨#[],#[],[]⟩
  let put (h:Array Obj) (g:Nat) (cs:Array Value):Array Obj:=h.modify g fun
    | .cells _ t frozen=>.cells cs t frozen
    | o=>o
  let h1:=put w0.heap 1 (Lib.firstTab.map fun z=>Value.int .u8 z).toArray
  let h2:=put h1 2 ((List.range 16).flatMap fun i=>[Value.int .u8 (Lib.accLo i),Value.int .u8 (Lib.accHi i)]).toArray
  let h3:=put h2 3 (Lib.pow10Tab.map fun z=>Value.int .u64 z).toArray
  let h4:=put h3 4 (de32.map fun z=>Value.int .u8 z).toArray
  let h5:=put h4 5 (de64.map fun z=>Value.int .u8 z).toArray
  { w0 with heap:=h5 }
theorem laid_met (os:Os) (args:Array Value):laidMet Tryz.prog Rows.bookApartUptoRow.laid ((laidWorld os).forCall (fun _ _=>0) ⟨#[],args,[]⟩).memory :=
  (LaidIn.of_run (l:=Rows.bookApartUptoRow.laid) [4,5,3,2,1] 8 (by kernel_rfl) (by kernel_rfl) (by kernel_rfl) (by kernel_rfl)).met
theorem witness_row (os:Os) {H:Type} (enc:TypeId × Value->H) :
    (Rows.OpenSpec.upto Rows.bookApartSpec).preRow enc Tryz.prog Tryz.f5 Rows.bookApartUptoRow.domain false Rows.bookApartUptoRow.laid ((laidWorld os).forCall (fun _ _=>0) ⟨#[],#[.slice none 0 0],[]⟩).memory #[.slice none 0 0]:=by
  have hw:(DataW.whole enc Tryz.prog ((laidWorld os).forCall (fun _ _=>0) ⟨#[],#[.slice none 0 0],[]⟩).memory Tryz.f5.params.toList Rows.bookApartSpec.vars false (#[Value.slice none 0 0]:Array Value).toList 8).map (fun x=>(x.1,x.2.1)) =
      some ([.nil],[]):=by kernel_rfl
  obtain ⟨⟨x1,x2,x3⟩,hx,hx1⟩:=Option.map_eq_some_iff.1 hw
  simp only [Prod.mk.injEq] at hx1
  obtain ⟨rfl,rfl⟩:=hx1
  exact OpenSpec.preRow_of_cond 8 hx (by kernel_rfl) (fun k hk=>by cases hk;kernel_rfl) (by kernel_rfl) (laid_met os _)
theorem lifted (os:Os) (started:os.Started) (H:Type) (enc:TypeId × Value->H) (F:Stop.Interp) :
    ReturnsInHanded {} Tryz.checked os 5 .any ((Rows.OpenSpec.upto Rows.bookApartSpec).preRow enc Tryz.prog Tryz.f5 Rows.bookApartUptoRow.domain false Rows.bookApartUptoRow.laid) (((Rows.OpenSpec.upto Rows.bookApartSpec).at F).post enc Tryz.prog Tryz.f5 false true false false):=by
  refine returnsInHanded_of_row (C:=Tryz.checked) (s:=(Rows.OpenSpec.upto Rows.bookApartSpec)) own started (by kernel_rfl) Tryz.func5
    (witness_row_atRef (enc:=enc) (C:=Tryz.checked) false (laidWorld os) #[.slice none 0 0] rfl (by kernel_rfl) (by kernel_rfl) (by kernel_rfl) (witness_row os enc)) ?_
  intro W base args ds gs before hval0 hW _ hcond hsz hL hsh _
  have hval:∀ (j:Nat) t v,Tryz.f5.params[j]?=some t->args[j]?=some v->Value.okWide Tryz.prog W .any base t v:=hval0
  have hW':=hW
  obtain ⟨p,q,hA0,hV0,rfl,_,_⟩:=hW
  have hA:DataW.TrodAll enc Tryz.prog W 0 (fun _=>true) true Tryz.f5.params.toList args.toList ds p:=hA0
  rw [Tryz.params5] at hA hval
  obtain ⟨v0,d0,rfl,rfl,h0⟩:=trodAll_one hA
  obtain ⟨rfl,rfl⟩:=trodVars_none hV0
  have hWlt:=hW'.lt
  obtain ⟨C0,lv0,lb0⟩:=Kc.cmds_open (hval 0 22 v0 rfl rfl) h0
  have hbulk:=La.bulk_all (hcond _ rfl)
  have u0:(C0.map Kc.Cm.sz).sum<=1048576:=by have h:=Nat.le_trans (La.bulk_le (d:=d0) (by simp)) hbulk;omega
  clear hA0 hV0 hval0 hsz
  refine (apart_walk v0 C0 W lv0 u0 ⟨laid_tabs hL,laid_pow hL,Below.refl _ _⟩).mono ?_
  rintro e W' ⟨rfl,bel⟩
  have e1:((Rows.OpenSpec.upto Rows.bookApartSpec).at F).fn H ([d0]++[])={ results:=[.lit (.bool true)],args:=[d0] }:=rfl
  refine ⟨_,rfl,La.post_left (pa:=p) (pv:=[]) hW' ?_ ?_ ?_ (by simp) bel rfl⟩
  · intro b sp hd;rw [e1];exact trodAll_mk1 (shut_bool Tryz.underlying4 _)
  · rw [e1];exact trodAll_mk1 (Below.trod La.laidOut (by kernel_rfl) (of_decide_eq_true (by kernel_rfl)) h0 bel (fun q hq=>hWlt q (by simp [hq])))
  · rw [e1];rfl
end lawBookApart
namespace lawBookApart
theorem fact_inPlace:(Rows.bookApartUptoRow.inPlace==Tryz.pinned.checked.prog.inPlace 5)=true:=by kernel_rfl
theorem fact_unfollowed:(Rows.bookApartUptoRow.unfollowed==Tryz.pinned.checked.prog.unfollowed 5)=true:=by kernel_rfl
theorem fact_recurses:(Rows.bookApartUptoRow.recurses==Tryz.pinned.checked.prog.recurses 5)=true:=by kernel_rfl
theorem fact_named:(Rows.bookApartUptoRow.named==Tryz.pinned.checked.prog.varsNamed 5)=true:=by kernel_rfl
end lawBookApart
namespace lawBookApart
open Go.Lib Go.RowKit Go.Shelf Go.ChangeShapes Go.WideShapes Go.ChangeAt Ch Bo
open Go.ChangeMaps (open_string shut_string)
theorem closed:joinedFacts Tryz.pinned.checked.prog 5 Tryz.f5 (Rows.OpenSpec.upto Rows.bookApartSpec).bare Rows.bookApartUptoRow=true:=by
  unfold joinedFacts
  rw [fact_inPlace,fact_unfollowed,fact_recurses,fact_named]
  kernel_rfl
theorem said:Rows.BookApartUptoSaid :=
  OpenClaim.holds_of_cond 5 Tryz.f5 rfl rfl rfl rfl rfl rfl rfl ⟨rfl,rfl,rfl,rfl,rfl⟩ rfl rfl rfl rfl rfl (by kernel_rfl) Tryz.func5 closed
    (of_decide_eq_true (by kernel_rfl)) (by unfold Func.isWrapper;rw [if_neg (of_decide_eq_false (by kernel_rfl))];exact ⟨rfl,rfl⟩)
    (fun os started H enc _ F=>by rw [OpenClaim.pre_eq_preRow];exact lifted os started H enc F)
open Go.ChangeMaps (open_string shut_string)
theorem plain (f:FuncId) (fn:Func) (hf:Tryz.pinned.checked.prog.funcNamed Rows.bookApartUptoRow.func=some f) (hfn:Tryz.pinned.checked.prog.funcs[f]?=some fn) :
    false=Tryz.pinned.checked.prog.looks []/\∀ (j:Nat) t,fn.params[j]?=some t->Tryz.pinned.checked.prog.wantsStandIn t=false:=by
  obtain rfl:f=5:=Option.some.inj ((show Tryz.prog.funcNamed Rows.bookApartUptoRow.func=some 5 by kernel_rfl).symm.trans hf) |>.symm
  obtain rfl:fn=Tryz.f5:=(Option.some.inj (Tryz.func5.symm.trans hfn)).symm
  refine ⟨by kernel_rfl,fun j t ht=>?_⟩
  rw [Tryz.params5] at ht
  obtain rfl:t=22:=by simpa using Array.mem_of_getElem? ht
  exact (show Tryz.prog.wantsStandIn 22=false by kernel_rfl)
theorem card:Rows.BookApartUptoCardSaid :=
  Claim7.holds_tied_plain_at .later [] _ _ _ _ said (fun _ h=>by cases h) (by kernel_rfl) (fun _ h=>by cases h) bookApartUpto_row_tie rfl ⟨rfl,rfl⟩ (by kernel_rfl) rfl plain (by kernel_rfl)
end lawBookApart
end Go.Proofs.YtobfaibofhmpgaaGreatDoor
