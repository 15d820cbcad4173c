import Derived.Test.YtobfaibofhmpgaaGreatDoorAp8
import Derived.KernelRfl
set_option linter.unusedVariables false
set_option maxHeartbeats 8000000
set_option maxRecDepth 100000
namespace Go.Proofs.YtobfaibofhmpgaaGreatDoor
namespace Li
open Go.Lib Go.RowKit
def sv (l:Row):Value:=.string ⟨l.toArray⟩
theorem sv_data (s:ByteArray):sv s.data.toList=.string s:=by unfold sv;rw [Lib.mk_data]
def Own (B:Nat) (v:Value) (ls:List Row) (w:World):Prop:=w.ownsRow B 9 1 v ls.length (ls.map sv)
theorem Own.nil (B:Nat) (w:World):Own B (.slice none 0 0) [] w:=World.ownsRow_nil w B _ 1
theorem ownsRow_kept {w w':World} {B:Nat} {e:TypeId} {size:Nat} {v:Value} {n:Nat} {xs:List Value} (h:w.ownsRow B e size v n xs) (hb:Below w.heap.size w w'):w'.ownsRow B e size v n xs:=by
  refine ⟨h.1,?_⟩
  rcases h.2 with h | ⟨g,cap,cur,e1,e2,e3,e4⟩
  · exact .inl h
  · exact .inr ⟨g,cap,cur,e1,e2,by rw [hb.block g (Array.getElem?_eq_some_iff.1 e3).1];exact e3,e4⟩
theorem ownsRow_less {w:World} {B B':Nat} {e:TypeId} {size:Nat} {v:Value} {n:Nat} {xs:List Value} (h:w.ownsRow B e size v n xs) (hb:B'<=B):w.ownsRow B' e size v n xs:=by
  refine ⟨h.1,?_⟩
  rcases h.2 with h | ⟨g,cap,cur,e1,e2,e3,e4⟩
  · exact .inl h
  · exact .inr ⟨g,cap,cur,e1,Nat.le_trans hb e2,e3,e4⟩
theorem ownsRow_beside {w w':World} {B B':Nat} {e e':TypeId} {size size':Nat} {v v':Value} {n n':Nat} {xs xs':List Value} (h:w.ownsRow B e size v n xs) (k:w.ownsRow B' e' size' v' n' xs') (hne:e≠e') (hg:w.grownBy w' v'.ownBlock):w'.ownsRow B e size v n xs:=by
  refine ⟨h.1,?_⟩
  rcases h.2 with h | ⟨g,cap,cur,e1,e2,e3,e4⟩
  · exact .inl h
  · refine .inr ⟨g,cap,cur,e1,e2,?_,e4⟩
    rw [hg.block g (Array.getElem?_eq_some_iff.1 e3).1 ?_]
    · exact e3
    · intro hk
      rcases k.2 with k | ⟨g',cap',cur',f1,f2,f3,f4⟩
      · rw [k.1] at hk;cases hk
      · rw [f1] at hk
        obtain rfl:g=g':=by simpa [Value.ownBlock] using hk
        rw [e3] at f3
        have:=Option.some.inj f3
        injection this with _ ht
        exact hne ht
theorem Own.kept {w w':World} {B:Nat} {v:Value} {ls:List Row} (h:Own B v ls w) (hb:Below w.heap.size w w'):Own B v ls w':=ownsRow_kept h hb
theorem Own.less {w:World} {B B':Nat} {v:Value} {ls:List Row} (h:Own B v ls w) (hb:B'<=B):Own B' v ls w:=ownsRow_less h hb
theorem infoStr:(Tryz.prog.info? 9).map (fun i=>(i.zero,i.size,i.bytes))=some (some (.string ⟨#[]⟩),1,16):=by kernel_rfl
theorem infoPrm:(Tryz.prog.info? 246).map (fun i=>(i.zero,i.size,i.bytes))=some (some (.agg #[.string ⟨#[]⟩,.slice none 0 0]),2,40):=by kernel_rfl
theorem strPrm_ne:(9:TypeId)≠246:=by decide
def pcells:List PD->List Value->List Value
  | p :: ps,v :: vs=>sv p.name :: v :: pcells ps vs
  | _,_=>[]
theorem pcells_snoc:∀ (ps:List PD) (vs:List Value) (p:PD) (v:Value),ps.length=vs.length->pcells (ps++[p]) (vs++[v])=pcells ps vs++[sv p.name,v]
  | [],[],_,_,_=>rfl
  | q :: ps,u :: vs,p,v,h=>by
    have:=pcells_snoc ps vs p v (by simpa using h)
    simp only [List.cons_append,pcells,this]
  | [],_ :: _,_,_,h=>by simp at h
  | _ :: _,[],_,_,h=>by simp at h
theorem pcells_at:∀ (ps:List PD) (vs:List Value) (j:Nat) (p:PD) (v:Value),ps.length=vs.length->ps[j]?=some p->vs[j]?=some v->(pcells ps vs)[j*2]?=some (sv p.name)/\(pcells ps vs)[j*2+1]?=some v
  | q :: ps,u :: vs,0,p,v,h,h1,h2=>by
    simp at h1 h2;subst h1;subst h2
    exact ⟨rfl,rfl⟩
  | q :: ps,u :: vs,j+1,p,v,h,h1,h2=>by
    have:=pcells_at ps vs j p v (by simpa using h) (by simpa using h1) (by simpa using h2)
    rw [show (j+1)*2=j*2+1+1 by omega]
    simpa [pcells] using this
  | [],[],j,p,v,_,h1,_=>by simp at h1
  | [],_ :: _,_,_,_,h,_,_=>by simp at h
  | _ :: _,[],_,_,_,h,_,_=>by simp at h
def POwn (B:Nat) (v:Value) (ps:List PD) (w:World):Prop :=
  ∃ vs:List Value,ps.length=vs.length/\w.ownsRow B 246 2 v ps.length (pcells ps vs)/\∀ (j:Nat) (p:PD) (u:Value),ps[j]?=some p->vs[j]?=some u->Own B u p.vals w
theorem POwn.nil (B:Nat) (w:World):POwn B (.slice none 0 0) [] w:=⟨[],rfl,World.ownsRow_nil w B _ 2,fun j p u h=>by simp at h⟩
theorem POwn.kept {w w':World} {B:Nat} {v:Value} {ps:List PD} (h:POwn B v ps w) (hb:Below w.heap.size w w'):POwn B v ps w':=by
  obtain ⟨vs,h1,h2,h3⟩:=h
  exact ⟨vs,h1,ownsRow_kept h2 hb,fun j p u hp hu=>(h3 j p u hp hu).kept hb⟩
theorem POwn.less {w:World} {B B':Nat} {v:Value} {ps:List PD} (h:POwn B v ps w) (hb:B'<=B):POwn B' v ps w:=by
  obtain ⟨vs,h1,h2,h3⟩:=h
  exact ⟨vs,h1,ownsRow_less h2 hb,fun j p u hp hu=>(h3 j p u hp hu).less hb⟩
def StrsAt (w:World) (v:Value) (ls:List Row):Prop :=
  ∃ (A:Option Addr) (b off c:Nat),v=.slice A ls.length c/\ls.length<=c/\c<=maxLen/\(0 < ls.length->A=some ⟨b,off,none⟩/\b < w.heap.size)/\∀ j l,ls[j]?=some l->w.cell? ⟨b,off+j,none⟩=some (sv l)
theorem StrsAt.kept {w w':World} {v:Value} {ls:List Row} (h:StrsAt w v ls) (hb:Below w.heap.size w w'):StrsAt w' v ls:=by
  obtain ⟨A,b,off,c,h1,h2,h3,h4,h5⟩:=h
  refine ⟨A,b,off,c,h1,h2,h3,fun hl=>⟨(h4 hl).1,Nat.lt_of_lt_of_le (h4 hl).2 hb.size⟩,fun j l hj=>?_⟩
  have hlt:=(h4 (by have:=(List.getElem?_eq_some_iff.1 hj).1;omega)).2
  rw [hb.cell (p:=⟨b,off+j,none⟩) hlt]
  exact h5 j l hj
theorem Own.at {B:Nat} {v:Value} {ls:List Row} {w:World} (h:Own B v ls w):StrsAt w v ls:=by
  obtain ⟨h1,h2 | ⟨g,cap,cur,e1,e2,e3,e4,e5,e6,e7⟩⟩:=h
  · obtain rfl:ls=[]:=List.eq_nil_of_length_eq_zero h2.2
    exact ⟨none,0,0,0,h2.1,by simp,by unfold maxLen;omega,fun h=>absurd h (by simp),fun j l hj=>by simp at hj⟩
  · refine ⟨_,g,0,cap,e1,e4,e5,fun _=>⟨rfl,(Array.getElem?_eq_some_iff.1 e3).1⟩,fun j l hj=>?_⟩
    have hlt:=(List.getElem?_eq_some_iff.1 hj).1
    rw [Lib.cell_of_heap e3,Nat.zero_add]
    have:(cur.toList.take (ls.length*1))[j]?=(ls.map sv)[j]?:=by rw [e7]
    rw [List.getElem?_take,if_pos (by omega),List.getElem?_map,hj] at this
    rw [<-Array.getElem?_toList,this];rfl
def PrmsAt (w:World) (v:Value) (ps:List PD):Prop :=
  ∃ (A:Option Addr) (b off c:Nat),v=.slice A ps.length c/\ps.length<=c/\c<=maxLen/\(0 < ps.length->A=some ⟨b,off,none⟩/\b < w.heap.size)/\
    ∀ (j:Nat) (p:PD),ps[j]?=some p->w.cell? ⟨b,off+j*2,none⟩=some (sv p.name)/\∃ u,w.cell? ⟨b,off+j*2+1,none⟩=some u/\StrsAt w u p.vals
theorem PrmsAt.kept {w w':World} {v:Value} {ps:List PD} (h:PrmsAt w v ps) (hb:Below w.heap.size w w'):PrmsAt w' v ps:=by
  obtain ⟨A,b,off,c,h1,h2,h3,h4,h5⟩:=h
  refine ⟨A,b,off,c,h1,h2,h3,fun hl=>⟨(h4 hl).1,Nat.lt_of_lt_of_le (h4 hl).2 hb.size⟩,fun j p hj=>?_⟩
  have hlt:=(h4 (by have:=(List.getElem?_eq_some_iff.1 hj).1;omega)).2
  obtain ⟨g1,u,g2,g3⟩:=h5 j p hj
  rw [hb.cell (p:=⟨b,off+j*2,none⟩) hlt,hb.cell (p:=⟨b,off+j*2+1,none⟩) hlt]
  exact ⟨g1,u,g2,g3.kept hb⟩
theorem POwn.at {B:Nat} {v:Value} {ps:List PD} {w:World} (h:POwn B v ps w):PrmsAt w v ps:=by
  obtain ⟨vs,hl,⟨h1,h2 | ⟨g,cap,cur,e1,e2,e3,e4,e5,e6,e7⟩⟩,hv⟩:=h
  · obtain rfl:ps=[]:=List.eq_nil_of_length_eq_zero h2.2
    exact ⟨none,0,0,0,h2.1,by simp,by unfold maxLen;omega,fun h=>absurd h (by simp),fun j l hj=>by simp at hj⟩
  · refine ⟨_,g,0,cap,e1,e4,e5,fun _=>⟨rfl,(Array.getElem?_eq_some_iff.1 e3).1⟩,fun j p hj=>?_⟩
    have hlt:=(List.getElem?_eq_some_iff.1 hj).1
    have hu:vs[j]?=some (vs[j]'(by omega)):=List.getElem?_eq_getElem (by omega)
    obtain ⟨c1,c2⟩:=pcells_at ps vs j p _ hl hj hu
    have key:∀ i x,i < ps.length*2->(pcells ps vs)[i]?=some x->w.cell? ⟨g,0+i,none⟩=some x:=fun i x hi hx=>by
      rw [Lib.cell_of_heap e3,Nat.zero_add]
      have:(cur.toList.take (ps.length*2))[i]?=(pcells ps vs)[i]?:=by rw [e7]
      rw [List.getElem?_take,if_pos hi,hx] at this
      rw [<-Array.getElem?_toList,this]
    refine ⟨key _ _ (by omega) c1,_,?_,(hv j p _ hj hu).at⟩
    have:=key (j*2+1) _ (by omega) c2
    rwa [<-Nat.add_assoc] at this
def LineAt (w:World) (v:Value) (L:LD):Prop:=∃ pv,v=.agg #[sv L.group,sv L.name,pv,sv L.value]/\PrmsAt w pv L.params
theorem LineAt.kept {w w':World} {v:Value} {L:LD} (h:LineAt w v L) (hb:Below w.heap.size w w'):LineAt w' v L:=by
  obtain ⟨pv,h1,h2⟩:=h
  exact ⟨pv,h1,h2.kept hb⟩
def LOwn (B:Nat) (v:Value) (L:LD) (w:World):Prop:=∃ pv,v=.agg #[sv L.group,sv L.name,pv,sv L.value]/\POwn B pv L.params w
end Li
namespace Li
open Go.Lib Go.RowKit Bu
def ValsP (B:Nat) (t:Row) (e:Ending) (w':World):Prop :=
  (vals t=none/\e=.returned (.tuple #[.slice none 0 0,.string ⟨#[]⟩,.bool false]))\/
  ∃ (v:Value) (out:List Row) (r:ByteArray),vals t=some (out,r.data.toList)/\e=.returned (.tuple #[v,.string r,.bool true])/\Own B v out w'
def strLen:Value->Nat
  | .string s=>s.size
  | _=>0
def bit:Value->Nat
  | .bool true=>1
  | _=>0
def ValsRel (T:ByteArray) (w:World) (s0 s2 s5:Value) (wr:World):Prop :=
  ∃ (t:ByteArray) (out:List Row) (m:Bool) (v:Value),s0=.string t/\v=s2/\s5=.bool m/\Own w.heap.size s2 out wr/\Below w.heap.size w wr/\out.length+t.size<=T.size+1/\t.size<=T.size/\
    (m=true->vals T.data.toList=(vals t.data.toList).map fun p=>(out++p.1,p.2))/\(m=false->vals T.data.toList=some (out,t.data.toList))/\(m=true->out.length+t.size<=T.size)
theorem cutValues_any (T:ByteArray) (w:World) (hs:T.size<=1099511627776) :
    Calls Tryz.prog 215 #[.string T] w fun e w'=>ValsP w.heap.size T.data.toList e w'/\Below w.heap.size w w':=by
  obtain ⟨i0,hi,hz0,hz1,hz2⟩:=info_parts infoStr
  go_enter Tryz.func215,Tryz.ntmps215
  go_wp2
  go_loopw [0,2,5] (fun s0 s2 s5 wr=>ValsRel T w s0 s2 s5 wr) (fun s0 s2 s5 wr=>strLen s0+bit s5)
  case atStart =>
    refine ⟨T,[],true,_,rfl,rfl,rfl,Own.nil _ _,Below.refl _ _,by simp,Nat.le_refl _,fun _=>?_,(fun h=>by cases h),fun _=>by simp⟩
    simp
  case round =>
    obtain ⟨t,out,m,s2,rfl,rfl,rfl,hown,hbw,hL,hT,hm1,hm2,hm3⟩:=hrel
    cases m
    · have hfin:ValsP w.heap.size T.data.toList (.returned (.tuple #[s2,.string t,.bool true])) wr:=.inr ⟨s2,out,t,hm2 rfl,rfl,hown⟩
      have hfin':=Lib.hid hfin
      clear hfin hm1 hm2 hm3 hown
      go_wp2
      go_ret3
      exact ⟨hfin'.out,hbw⟩
    · have hR := Lib.hid (hm1 rfl)
      have hL3:=hm3 rfl
      clear hm1 hm2 hm3 hL
      go_wp2_with fail
      go_at_call 240
      refine (cutValue_any t wr (by omega)).mono ?_
      rintro e w1 ⟨hc,hb1⟩
      rcases hc with ⟨h1,a,r,rfl⟩ | ⟨a,r,h1,rfl⟩
      · have hfin:ValsP w.heap.size T.data.toList (.returned (.tuple #[.slice none 0 0,.string ⟨#[]⟩,.bool false])) w1:=.inl ⟨by rw [hR.out,vals_none h1];rfl,rfl⟩
        have hfin':=Lib.hid hfin
        clear hfin h1
        go_wp2
        go_ret3
        exact ⟨hfin'.out,below_then hbw hb1⟩
      · have hlen:=(rawC_tells h1).2
        have hla:a.size<=T.size:=by
          obtain ⟨⟨p,q,e,_⟩,_⟩:=rawC_tells h1
          have:=congrArg List.length e
          simp only [List.length_append] at this
          rw [Lib.size_eq a]
          have:=Lib.size_eq t
          omega
        rw [<-Lib.size_eq,<-Lib.size_eq] at hlen
        have cM:=meant_any a w1 (by omega)
        have h1':=Lib.hid h1
        have hown1:Own w.heap.size s2 out w1:=hown.kept hb1
        have hbw1:=below_then hbw hb1
        clear h1 hown hbw hb1
        go_wp2_with fail
        go_at_call 241
        refine cM.mono ?_
        rintro e w2 ⟨rfl,hb2⟩
        have hown2:Own w.heap.size s2 out w2:=hown1.kept hb2
        have hbw2:=below_then hbw1 hb2
        clear hown1 hbw1 hb2 cM
        unfold Own at hown2
        go_wp2_with (at_builtin;refine wpList_append_own _ rfl _ _ 32 rfl w.heap.size 9 i0 (.string ⟨#[]⟩) 1 16 Tryz.underlying32 hi hz0 hz1 hz2 rfl (by decide) _ _ _ rfl (hown2.alloc _) ⟨w2.heap.size,0,none⟩ 1 1 [.string ⟨(mean a.data.toList).toArray⟩] rfl rfl ?c1 ?c2 ?c3 ?c4 ?c5 ?_)
        case c1 =>
          intro j u hj
          match j,hj with
          | 0,hj=>simp at hj;subst hj;simp [Addr.add]
        case c2=>intro u hu;simp at hu;subst hu;rfl
        case c3=>unfold maxLen;omega
        case c4=>omega
        case c5=>have:=hbw2.size;simp;omega
        intro v' w3 hown' hgrow _
        have hown3:Own w.heap.size v' (out++[mean a.data.toList]) w3:=by
          unfold Own
          rw [List.map_append,List.length_append]
          simpa [sv] using hown'
        have hbw3:Below w.heap.size w w3:=(hbw2.alloc hbw2.size _).grown hgrow (by have:=hbw2.size;simp;omega) (fun k hk=>(hown2.lt k hk).1)
        clear hown' hgrow hown2 hbw2
        by_cases h44:r.data.toList.head?=some 44
        · have hC:=cutPre_any r 44 w3
          have hstep:=Lib.hid (vals_more h1'.out h44)
          have hr1:=tail_lt h44
          have hol:(out++[mean a.data.toList]).length=out.length+1:=by simp
          obtain ⟨out2,hout2⟩:∃ o,out++[mean a.data.toList]=o:=⟨_,rfl⟩
          rw [hout2] at hown3 hol
          have hol':=Lib.hid hol
          have hr1':=Lib.hid hr1
          have hout2':=Lib.hid hout2
          have h44':=Lib.hid h44
          clear h44 hol hr1 hout2
          go_wp2_with fail
          go_at_call 22
          refine hC.mono ?_
          rintro e w4 ⟨hc,rfl⟩
          rcases hc with ⟨h5,rfl⟩ | ⟨h5,q,hq,rfl⟩
          · exact absurd h44'.out h5
          · have hR2:vals T.data.toList=(vals q.data.toList).map fun p=>(out2++p.1,p.2):=by
              rw [hR.out,hstep.out,hq,<-hout2'.out]
              cases vals r.data.toList.tail with
              | none=>rfl
              | some p=>simp
            have hqs:q.size < r.size:=by rw [Lib.size_eq,Lib.size_eq,hq];exact hr1'.out
            have hR2':=Lib.hid hR2
            clear h5 hq hR2 hC
            go_wp2
            go_roundw
            case rel=>exact ⟨q,out2,true,_,rfl,rfl,rfl,hown3,hbw3,by have:=hol'.out;omega,by omega,fun _=>hR2'.out,(fun h=>by cases h),fun _=>by have:=hol'.out;omega⟩
            case measure=>simp only [strLen,bit];omega
        · have hC:=cutPre_any r 44 w3
          have hstep:=Lib.hid (vals_last h1'.out h44)
          have hol:(out++[mean a.data.toList]).length=out.length+1:=by simp
          obtain ⟨out2,hout2⟩:∃ o,out++[mean a.data.toList]=o:=⟨_,rfl⟩
          rw [hout2] at hown3 hol
          have hol':=Lib.hid hol
          have hout2':=Lib.hid hout2
          have h44':=Lib.hid h44
          clear h44 hol hout2
          go_wp2_with fail
          go_at_call 22
          refine hC.mono ?_
          rintro e w4 ⟨hc,rfl⟩
          rcases hc with ⟨h5,rfl⟩ | ⟨h5,q,hq,rfl⟩
          · have hR2:vals T.data.toList=some (out2,r.data.toList):=by
              rw [hR.out,hstep.out,<-hout2'.out];rfl
            have hR2':=Lib.hid hR2
            clear h5 hR2 hC
            go_wp2
            go_roundw
            case rel=>exact ⟨r,out2,false,_,rfl,rfl,rfl,hown3,hbw3,by have:=hol'.out;omega,by omega,(fun h=>by cases h),fun _=>hR2'.out,(fun h=>by cases h)⟩
            case measure=>simp only [strLen,bit];omega
          · exact absurd h5 h44'.out
theorem Own.form {B:Nat} {v:Value} {ls:List Row} {w:World} (h:Own B v ls w):∃ ao c,v=.slice ao ls.length c:=by
  rcases h.2 with ⟨h1,h2⟩ | ⟨g,cap,cur,h1,_⟩
  · exact ⟨none,0,by rw [h1,h2]⟩
  · exact ⟨_,_,h1⟩
def CutParamP (B:Nat) (t:Row) (e:Ending) (w':World):Prop :=
  (∃ n:Nat,(∀ s g m acc,s.head?=some 59->s.tail=t->fin g m acc s=.bad n)/\n≠0/\n < 100/\e=.returned (.tuple #[.agg #[.string ⟨#[]⟩,.slice none 0 0],.string ⟨#[]⟩,.int .i64 (n:Int)]))\/
  ∃ (n r:ByteArray) (v:Value) (vs:List Row),(∀ s g m acc,s.head?=some 59->s.tail=t->fin g m acc s=fin g m (acc++[⟨n.data.toList,vs⟩]) r.data.toList)/\r.size < t.length/\
    e=.returned (.tuple #[.agg #[.string n,v],.string r,.int .i64 0])/\Own B v vs w'
theorem cutParam_any (s:ByteArray) (w:World) (hs:s.size<=1099511627776) :
    Calls Tryz.prog 191 #[.string s] w fun e w'=>CutParamP w.heap.size s.data.toList e w'/\Below w.heap.size w w':=by
  have hsz:=Lib.hid (Lib.size_eq s)
  go_enter Tryz.func191,Tryz.ntmps191
  go_wp2_with fail
  go_at_call 189
  refine (cutName_any s _ (by omega)).mono ?_
  rintro e w1 ⟨hc,hb0⟩
  have hz1:w.heap.size < w1.heap.size:=by have:=hb0.size;simp at this;omega
  have hk1:w1.heap[w.heap.size]?=some (.cells #[.string ⟨#[]⟩,.slice none 0 0] 246 (0,0)):=by
    rw [hb0.block w.heap.size (by simp)]
    exact heap_alloc_new w _
  have hb1:Below w.heap.size w w1:=((Below.refl _ _).alloc (Nat.le_refl _) _).trans (hb0.mono (by simp))
  clear hb0
  have hk1':=Lib.hid hk1
  have c0:w1.cell? ⟨w.heap.size,0,none⟩=some (.string ⟨#[]⟩):=by rw [Lib.cell_of_heap hk1];rfl
  have c1:w1.cell? ⟨w.heap.size,1,none⟩=some (.slice none 0 0):=by rw [Lib.cell_of_heap hk1];rfl
  have f0:w1.frozen? ⟨w.heap.size,0,none⟩=false:=Lib.frozen_of_heap hk1 0
  have f1:w1.frozen? ⟨w.heap.size,1,none⟩=false:=Lib.frozen_of_heap hk1 1
  clear hk1
  rcases hc with ⟨h1,rfl⟩ | ⟨n,r,h1,rfl⟩
  · have hfin:∀ W,CutParamP w.heap.size s.data.toList (.returned (.tuple #[.agg #[.string ⟨#[]⟩,.slice none 0 0],.string ⟨#[]⟩,.int .i64 30])) W:=fun W=>.inl ⟨30,fun t g m acc h59 ht=>fin_bad1 h59 (by rw [ht];exact h1),by decide,by decide,rfl⟩
    have hfin':=Lib.hid hfin
    clear hfin h1
    go_wp2
    exact bodyPost_ret (v:=.tuple #[.agg #[.string ⟨#[]⟩,.slice none 0 0],.string ⟨#[]⟩,.int .i64 30]) (by simp [results,Tryz.results191,go_sem,c0,c1]) rfl ⟨hfin'.out _,(hb1.setCell (p:=⟨w.heap.size,0,none⟩) (Nat.le_refl _) _).setCell (p:=⟨w.heap.size,1,none⟩) (Nat.le_refl _) _⟩
  · have hnr:=nameC_len h1
    rw [<-Lib.size_eq] at hnr
    have hn1:1<=n.size:=by
      have:=(nameC_some h1).2
      unfold nameB at this
      simp only [Bool.and_eq_true,decide_eq_true_eq] at this
      rw [Lib.size_eq];omega
    have hC:=cutPre_any r 61 w1
    have h1':=Lib.hid h1
    clear h1
    go_wp2_with fail
    go_at_call 22
    refine hC.mono ?_
    rintro e w' ⟨hc,rfl⟩
    clear hC
    rcases hc with ⟨h5,rfl⟩ | ⟨h5,q,hq,rfl⟩
    · have hfin:∀ W,CutParamP w.heap.size s.data.toList (.returned (.tuple #[.agg #[.string ⟨#[]⟩,.slice none 0 0],.string ⟨#[]⟩,.int .i64 31])) W:=fun W=>.inl ⟨31,fun t g m acc h59 ht=>fin_bad2 h59 (by rw [ht];exact h1'.out) h5,by decide,by decide,rfl⟩
      have hfin':=Lib.hid hfin
      clear hfin h5
      go_wp2
      exact bodyPost_ret (v:=.tuple #[.agg #[.string ⟨#[]⟩,.slice none 0 0],.string ⟨#[]⟩,.int .i64 31]) (by simp [results,Tryz.results191,go_sem,c0,c1]) rfl ⟨hfin'.out _,(hb1.setCell (p:=⟨w.heap.size,0,none⟩) (Nat.le_refl _) _).setCell (p:=⟨w.heap.size,1,none⟩) (Nat.le_refl _) _⟩
    · have hqs:q.size < r.size:=by rw [Lib.size_eq,Lib.size_eq,hq];exact tail_lt h5
      have hV:=cutValues_any q w1 (by omega)
      have h5':=Lib.hid h5
      have hq':=Lib.hid hq
      clear h5 hq c0 c1 f0 f1
      go_wp2_with fail
      go_at_call 215
      refine hV.mono ?_
      rintro e w2 ⟨hc,hb2⟩
      clear hV
      have hk2:w2.heap[w.heap.size]?=some (.cells #[.string ⟨#[]⟩,.slice none 0 0] 246 (0,0)):=by
        rw [hb2.block w.heap.size hz1]
        exact hk1'.out
      have hz2:w.heap.size < w2.heap.size:=Nat.lt_of_lt_of_le hz1 hb2.size
      have hB:=below_then hb1 hb2
      have c0:w2.cell? ⟨w.heap.size,0,none⟩=some (.string ⟨#[]⟩):=by rw [Lib.cell_of_heap hk2];rfl
      have c1:w2.cell? ⟨w.heap.size,1,none⟩=some (.slice none 0 0):=by rw [Lib.cell_of_heap hk2];rfl
      have f0:w2.frozen? ⟨w.heap.size,0,none⟩=false:=Lib.frozen_of_heap hk2 0
      have f1:w2.frozen? ⟨w.heap.size,1,none⟩=false:=Lib.frozen_of_heap hk2 1
      clear hk2
      rcases hc with ⟨h6,rfl⟩ | ⟨v,out,r2,h6,rfl,hown⟩
      · have hfin:∀ W,CutParamP w.heap.size s.data.toList (.returned (.tuple #[.agg #[.string ⟨#[]⟩,.slice none 0 0],.string ⟨#[]⟩,.int .i64 31])) W:=fun W=>.inl ⟨31,fun t g m acc h59 ht=>fin_bad3 h59 (by rw [ht];exact h1'.out) h5'.out (by rw [<-hq'.out];exact h6),by decide,by decide,rfl⟩
        have hfin':=Lib.hid hfin
        clear hfin h6
        go_wp2
        exact bodyPost_ret (v:=.tuple #[.agg #[.string ⟨#[]⟩,.slice none 0 0],.string ⟨#[]⟩,.int .i64 31]) (by simp [results,Tryz.results191,go_sem,c0,c1]) rfl ⟨hfin'.out _,(hB.setCell (p:=⟨w.heap.size,0,none⟩) (Nat.le_refl _) _).setCell (p:=⟨w.heap.size,1,none⟩) (Nat.le_refl _) _⟩
      · have hr2:r2.size < s.data.toList.length:=by
          have:=(vals_len _ (Nat.le_refl _) h6).1
          have h7:=List.length_pos_iff.2 (vals_len _ (Nat.le_refl _) h6).2
          rw [Lib.size_eq r2]
          have h8:=hsz.out
          have h9:=Lib.size_eq q
          omega
        have hown2:∀ x y,Own w.heap.size v out ((w2.setCell ⟨w.heap.size,0,none⟩ x).setCell ⟨w.heap.size,1,none⟩ y):=fun x y=>by
          have h:=ownsRow_setCell_below (ownsRow_setCell_below hown (a:=⟨w.heap.size,0,none⟩) hz1 x) (a:=⟨w.heap.size,1,none⟩) hz1 y
          exact Own.less h (by omega)
        have hfin:∀ W,Own w.heap.size v out W->CutParamP w.heap.size s.data.toList (.returned (.tuple #[.agg #[.string n,v],.string r2,.int .i64 0])) W:=fun W hW=>.inr ⟨n,r2,v,out,fun t g m acc h59 ht=>fin_more h59 (by rw [ht];exact h1'.out) h5'.out (by rw [<-hq'.out];exact h6),hr2,rfl,hW⟩
        obtain ⟨ao,c,rfl⟩:=hown.form
        have hfin':=Lib.hid hfin
        have hown2':=Lib.hid hown2
        obtain ⟨l,hl⟩:∃ l,out.length=l:=⟨_,rfl⟩
        rw [hl] at hfin' hown2' ⊢
        clear hfin h6 hown hown2 hl
        go_wp2
        exact bodyPost_ret (v:=.tuple #[.agg #[.string n,.slice ao l c],.string r2,.int .i64 0]) (by simp [results,Tryz.results191,go_sem,c0,c1]) rfl ⟨hfin'.out _ (hown2'.out _ _),(hB.setCell (p:=⟨w.heap.size,0,none⟩) (Nat.le_refl _) _).setCell (p:=⟨w.heap.size,1,none⟩) (Nat.le_refl _) _⟩
def ParamsP (B:Nat) (t:Row) (e:Ending) (w':World):Prop :=
  (∃ n:Nat,(∀ g m acc,fin g m acc t=.bad n)/\n≠0/\n < 100/\e=.returned (.tuple #[.slice none 0 0,.string ⟨#[]⟩,.int .i64 (n:Int)]))\/
  ∃ (r:ByteArray) (v:Value) (ps:List PD),(∀ g m acc,fin g m acc t=fin g m (acc++ps) r.data.toList)/\r.data.toList.head?≠some 59/\r.size<=t.length/\
    e=.returned (.tuple #[v,.string r,.int .i64 0])/\POwn B v ps w'
def ParamsRel (T:ByteArray) (w:World) (s0 s2:Value) (wr:World):Prop :=
  ∃ (t:ByteArray) (acc:List PD) (v:Value),s0=.string t/\v=s2/\POwn w.heap.size s2 acc wr/\Below w.heap.size w wr/\acc.length+t.size<=T.size/\∀ g m a,fin g m a T.data.toList=fin g m (a++acc) t.data.toList
theorem POwn.more {B:Nat} {v v' u:Value} {ps:List PD} {p:PD} {vs:List Value} {W w':World} (hl:ps.length=vs.length) (hrow:W.ownsRow B 246 2 v ps.length (pcells ps vs)) (hv:∀ (j:Nat) (p:PD) (u:Value),ps[j]?=some p->vs[j]?=some u->Own B u p.vals W)
    (hu:Own B u p.vals W) (hown':w'.ownsRow B 246 2 v' (ps.length+1) (pcells ps vs++[sv p.name,u])) (hg:W.grownBy w' v.ownBlock):POwn B v' (ps++[p]) w':=by
  refine ⟨vs++[u],by simp [hl],?_,fun j q x hq hx=>?_⟩
  · rw [pcells_snoc _ _ _ _ hl,List.length_append]
    exact hown'
  · by_cases hj:j < ps.length
    · rw [List.getElem?_append_left hj] at hq
      rw [List.getElem?_append_left (by omega)] at hx
      exact ownsRow_beside (hv j q x hq hx) hrow strPrm_ne hg
    · rw [List.getElem?_append_right (by omega)] at hq
      rw [List.getElem?_append_right (by omega)] at hx
      have hj0:j=ps.length:=by
        have:=(List.getElem?_eq_some_iff.1 hq).1
        simp at this;omega
      subst hj0
      rw [Nat.sub_self] at hq
      rw [hl,Nat.sub_self] at hx
      simp at hq hx
      subst hq;subst hx
      exact ownsRow_beside hu hrow strPrm_ne hg
theorem cutParams_any (T:ByteArray) (w:World) (hs:T.size<=1099511627776) :
    Calls Tryz.prog 159 #[.string T] w fun e w'=>ParamsP w.heap.size T.data.toList e w'/\Below w.heap.size w w':=by
  obtain ⟨i0,hi,hz0,hz1,hz2⟩:=info_parts infoPrm
  have hTl:=Lib.hid (Lib.size_eq T)
  go_enter Tryz.func159,Tryz.ntmps159
  go_wp2
  go_loopw [0,2] (fun s0 s2 wr=>ParamsRel T w s0 s2 wr) (fun s0 s2 wr=>strLen s0)
  case atStart=>exact ⟨T,[],_,rfl,rfl,POwn.nil _ _,Below.refl _ _,by simp,fun g m a=>by simp⟩
  case round =>
    obtain ⟨t,acc,s2,rfl,rfl,hown,hbw,hL,hF⟩:=hrel
    have hF':=Lib.hid hF
    clear hF
    by_cases h59:t.data.toList.head?=some 59
    · have cH:=fun W=>hasPre_is t 59 true W (decide_eq_true h59)
      have ht1:=size_pos t h59
      have hxs:(t.extract 1 t.size).data.toList=t.data.toList.tail:=cut_tail t
      have hxl:(t.extract 1 t.size).size=t.size - 1:=by rw [Lib.size_eq,hxs,List.length_tail,<-Lib.size_eq]
      have cP:=cutParam_any (t.extract 1 t.size) (wr.alloc (.cells #[.string ⟨#[]⟩,.slice none 0 0] 246)) (by omega)
      rw [hxs] at cP
      have htl:=Lib.hid (show t.data.toList.tail.length=t.size - 1 by rw [List.length_tail,<-Lib.size_eq])
      have h59':=Lib.hid h59
      clear hxs hxl h59
      go_wp2_with (go_at_call 190;refine (cH _).mono ?_;rintro e w' ⟨rfl,rfl⟩)
      go_at_call 191
      refine cP.mono ?_
      rintro e w1 ⟨hc,hb0⟩
      clear cP cH
      have hz1':wr.heap.size < w1.heap.size:=by have:=hb0.size;simp at this;omega
      have hk1:w1.heap[wr.heap.size]?=some (.cells #[.string ⟨#[]⟩,.slice none 0 0] 246 (0,0)):=by
        rw [hb0.block wr.heap.size (by simp)]
        exact heap_alloc_new wr _
      have hb1:Below wr.heap.size wr w1:=((Below.refl _ _).alloc (Nat.le_refl _) _).trans (hb0.mono (by simp))
      have c0:w1.cell? ⟨wr.heap.size,0,none⟩=some (.string ⟨#[]⟩):=by rw [Lib.cell_of_heap hk1];rfl
      have c1:w1.cell? ⟨wr.heap.size,1,none⟩=some (.slice none 0 0):=by rw [Lib.cell_of_heap hk1];rfl
      have f0:w1.frozen? ⟨wr.heap.size,0,none⟩=false:=Lib.frozen_of_heap hk1 0
      have f1:w1.frozen? ⟨wr.heap.size,1,none⟩=false:=Lib.frozen_of_heap hk1 1
      clear hk1 hb0
      rcases hc with ⟨n,h1,hn0,hn1,rfl⟩ | ⟨n,r,v,vs,h1,hr,rfl,hown1⟩
      · have hfin:∀ W,ParamsP w.heap.size T.data.toList (.returned (.tuple #[.slice none 0 0,.string ⟨#[]⟩,.int .i64 (n:Int)])) W:=fun W=>.inl ⟨n,fun g m a=>by rw [hF'.out,h1 _ _ _ _ h59'.out rfl],hn0,hn1,rfl⟩
        have hfin':=Lib.hid hfin
        have d1:((n:Int) != 0)=true:=bne_iff_ne.2 (by omega)
        have d2:((n:Int)==0)=false:=beq_eq_false_iff_ne.2 (by omega)
        clear hfin h1
        have hB:∀ x y,Below w.heap.size w ((w1.setCell ⟨wr.heap.size,0,none⟩ x).setCell ⟨wr.heap.size,1,none⟩ y):=fun x y=>((below_then hbw hb1).setCell (p:=⟨wr.heap.size,0,none⟩) hbw.size _).setCell (p:=⟨wr.heap.size,1,none⟩) hbw.size _
        go_wp2
        go_ret3
        exact ⟨hfin'.out _,hB _ _⟩
      · obtain ⟨ao,c,rfl⟩:=hown1.form
        obtain ⟨l,hl⟩:∃ l,vs.length=l:=⟨_,rfl⟩
        have hrl:r.size < t.size:=by have:=htl.out;omega
        have hstep:=Lib.hid (fun g m a=>(hF'.out g m a).trans (h1 t.data.toList g m (a++acc) h59'.out rfl))
        obtain ⟨us,hus,hrow,hvals⟩:=hown
        have hB:∀ x y,Below wr.heap.size wr ((w1.setCell ⟨wr.heap.size,0,none⟩ x).setCell ⟨wr.heap.size,1,none⟩ y):=fun x y=>(hb1.setCell (p:=⟨wr.heap.size,0,none⟩) (Nat.le_refl _) _).setCell (p:=⟨wr.heap.size,1,none⟩) (Nat.le_refl _) _
        have hbs:=hB (.string n) (.slice ao vs.length c)
        have hownv:Own w.heap.size (.slice ao vs.length c) vs ((w1.setCell ⟨wr.heap.size,0,none⟩ (.string n)).setCell ⟨wr.heap.size,1,none⟩ (.slice ao vs.length c)):=by
          have h:=ownsRow_setCell_below (ownsRow_setCell_below hown1 (a:=⟨wr.heap.size,0,none⟩) (by simp) (.string n)) (a:=⟨wr.heap.size,1,none⟩) (by simp) (.slice ao vs.length c)
          exact Own.less h (by have:=hbw.size;simp;omega)
        have hrow1:=ownsRow_kept hrow hbs
        have hvals1:=fun j p u hp hu=>(hvals j p u hp hu).kept hbs
        have hbw1:=below_then hbw hbs
        have hfinal:∀ (v':Value) (w':World),w'.ownsRow w.heap.size 246 2 v' (acc.length+1) (pcells acc us++[.string n,.slice ao vs.length c])->
            ((((w1.setCell ⟨wr.heap.size,0,none⟩ (.string n)).setCell ⟨wr.heap.size,1,none⟩ (.slice ao vs.length c)).alloc (.cells #[.string n,.slice ao vs.length c] 246))).grownBy w' s2.ownBlock->POwn w.heap.size v' (acc++[⟨n.data.toList,vs⟩]) w':=fun v' w' hx hg=>by
          have hal:Below (((w1.setCell ⟨wr.heap.size,0,none⟩ (.string n)).setCell ⟨wr.heap.size,1,none⟩ (.slice ao vs.length c))).heap.size ((w1.setCell ⟨wr.heap.size,0,none⟩ (.string n)).setCell ⟨wr.heap.size,1,none⟩ (.slice ao vs.length c)) (((w1.setCell ⟨wr.heap.size,0,none⟩ (.string n)).setCell ⟨wr.heap.size,1,none⟩ (.slice ao vs.length c)).alloc (.cells #[.string n,.slice ao vs.length c] 246)):=(Below.refl _ _).alloc (Nat.le_refl _) _
          refine POwn.more (p:=⟨n.data.toList,vs⟩) (w':=w') hus (ownsRow_kept hrow1 hal) (fun j p u hp hu=>(hvals1 j p u hp hu).kept hal) (hownv.kept hal) ?_ hg
          rw [sv_data];exact hx
        rw [hl] at hrow1 hfinal hbs
        have hrl':=Lib.hid hl
        have hus':=Lib.hid hus
        have hcnt:acc.length<=1099511627776:=by omega
        have hbw2:=hbw1
        rw [hl] at hbw1 hbw2
        rw [hl]
        have hfinal':=Lib.hid hfinal
        clear hown1 hownv hvals hvals1 hrow h1 hB hus hbw2 hl hfinal
        go_wp2_with (at_builtin;refine wpList_append_own _ rfl _ _ 201 rfl w.heap.size 246 i0 (.agg #[.string ⟨#[]⟩,.slice none 0 0]) 2 40 Tryz.underlying201 hi hz0 hz1 hz2 rfl (by decide) _ _ _ rfl (hrow1.alloc _) ⟨w1.heap.size,0,none⟩ 1 1 [.string n,.slice ao l c] rfl rfl ?c1 ?c2 ?c3 ?c4 ?c5 ?_)
        case c1 =>
          intro j u hj
          match j,hj with
          | 0,hj=>simp at hj;subst hj;simp [Addr.add];rw [World.cell?_alloc_at _ _ _ _ (by simp)];rfl
          | 1,hj=>simp at hj;subst hj;simp [Addr.add];rw [World.cell?_alloc_at _ _ _ _ (by simp)];rfl
        case c2=>intro u hu;simp at hu;rcases hu with rfl | rfl<;>rfl
        case c3=>unfold maxLen;omega
        case c4=>omega
        case c5=>have:=hbw1.size;simp at this;simp;omega
        intro v' w3 hown' hgrow _
        have hP:POwn w.heap.size v' (acc++[⟨n.data.toList,vs⟩]) w3:=hfinal'.out v' w3 hown' hgrow
        have hbw3:Below w.heap.size w w3:=(hbw1.alloc hbw1.size _).grown hgrow (by have:=hbw1.size;simp at this;simp;omega) (fun k hk=>(hrow1.lt k hk).1)
        clear hown' hgrow hrow1 hfinal'
        go_wp2
        go_roundw
        case rel=>exact ⟨r,_,_,rfl,rfl,hP,hbw3,by simp;omega,fun g m a=>by rw [hstep.out g m a,List.append_assoc]⟩
        case measure=>simp only [strLen];omega
    · have cH:=fun W=>hasPre_is t 59 false W (decide_eq_false h59)
      have hfin:ParamsP w.heap.size T.data.toList (.returned (.tuple #[s2,.string t,.int .i64 0])) wr:=.inr ⟨t,s2,acc,hF'.out,h59,by have:=hTl.out;omega,rfl,hown⟩
      have hfin':=Lib.hid hfin
      clear hfin h59 hown
      go_wp2_with (go_at_call 190;refine (cH _).mono ?_;rintro e w' ⟨rfl,rfl⟩)
      go_ret3
      exact ⟨hfin'.out,hbw⟩
theorem POwn.form {B:Nat} {v:Value} {ps:List PD} {w:World} (h:POwn B v ps w):∃ ao c,v=.slice ao ps.length c:=by
  obtain ⟨vs,_,h,_⟩:=h
  rcases h.2 with ⟨h1,h2⟩ | ⟨g,cap,cur,h1,_⟩
  · exact ⟨none,0,by rw [h1,h2]⟩
  · exact ⟨_,_,h1⟩
theorem POwn.stored {w:World} {B:Nat} {v:Value} {ps:List PD} (h:POwn B v ps w) {a:Addr} (ha:a.block < B) (u:Value):POwn B v ps (w.setCell a u):=by
  obtain ⟨vs,h1,h2,h3⟩:=h
  exact ⟨vs,h1,ownsRow_setCell_below h2 ha u,fun j p x hp hx=>ownsRow_setCell_below (h3 j p x hp hx) ha u⟩
def ParseP (B:Nat) (t:Row) (e:Ending) (w':World):Prop :=
  (∃ n:Nat,parse t=.bad n/\n≠0/\n < 100/\e=.returned (.tuple #[.agg #[.string ⟨#[]⟩,.string ⟨#[]⟩,.slice none 0 0,.string ⟨#[]⟩],.int .i64 (n:Int)]))\/
  ∃ (L:LD) (v:Value),parse t=.ok L/\e=.returned (.tuple #[v,.int .i64 0])/\LOwn B v L w'
theorem names_len {l g n r:Row} (h:namesC l=some (g,n,r)):r.length<=l.length:=by
  unfold namesC at h
  cases hc:nameC l with
  | none=>rw [hc] at h;cases h
  | some p =>
    obtain ⟨m,q⟩:=p
    have h1:=congrArg List.length (nameC_some hc).1
    rw [List.length_append] at h1
    rw [hc] at h
    dsimp only at h
    split at h
    · obtain ⟨⟨p1,p2⟩,hp,he⟩:=Option.map_eq_some_iff.1 h
      simp only [Prod.mk.injEq] at he
      obtain ⟨_,_,rfl⟩:=he
      have h2:=congrArg List.length (nameC_some hp).1
      rw [List.length_append,List.length_tail] at h2
      omega
    · have h:=Option.some.inj h
      simp only [Prod.mk.injEq] at h
      obtain ⟨_,_,rfl⟩:=h
      omega
theorem res4 {W:World} {b:Nat} {x0 x1 x2 x3:Value} {t:TypeId} (hk:W.heap[b]?=some (.cells #[x0,x1,x2,x3] t (0,0))) :
    W.cell? ⟨b,0,none⟩=some x0/\W.cell? ⟨b,1,none⟩=some x1/\W.cell? ⟨b,2,none⟩=some x2/\W.cell? ⟨b,3,none⟩=some x3/\
    W.frozen? ⟨b,0,none⟩=false/\W.frozen? ⟨b,1,none⟩=false/\W.frozen? ⟨b,2,none⟩=false/\W.frozen? ⟨b,3,none⟩=false:=by
  refine ⟨?_,?_,?_,?_,Lib.frozen_of_heap hk 0,Lib.frozen_of_heap hk 1,Lib.frozen_of_heap hk 2,Lib.frozen_of_heap hk 3⟩
  all_goals rw [Lib.cell_of_heap hk];rfl
theorem set4 {w w1:World} (h:Below w.heap.size w w1) (x0 x1 x2 x3:Value):Below w.heap.size w ((((w1.setCell ⟨w.heap.size,0,none⟩ x0).setCell ⟨w.heap.size,1,none⟩ x1).setCell ⟨w.heap.size,2,none⟩ x2).setCell ⟨w.heap.size,3,none⟩ x3) :=
  (((h.setCell (p:=⟨w.heap.size,0,none⟩) (Nat.le_refl _) _).setCell (p:=⟨w.heap.size,1,none⟩) (Nat.le_refl _) _).setCell (p:=⟨w.heap.size,2,none⟩) (Nat.le_refl _) _).setCell (p:=⟨w.heap.size,3,none⟩) (Nat.le_refl _) _
theorem parse_any (s:ByteArray) (w:World) (hT:Ch.Tabs w) (hs:s.size<=1099511627776) :
    Calls Tryz.prog 139 #[.string s] w fun e w'=>ParseP w.heap.size s.data.toList e w'/\Below w.heap.size w w':=by
  have hsz:=Lib.hid (Lib.size_eq s)
  have cT:=plainT_any s (w.alloc (.cells #[.string ⟨#[]⟩,.string ⟨#[]⟩,.slice none 0 0,.string ⟨#[]⟩] 203)) (Ch.tabs_below hT ((Below.refl _ _).alloc (Nat.le_refl _) _)) (by omega)
  have hT':=Lib.hid hT
  clear hT
  obtain ⟨O,hO⟩:∃ O,okT s.data.toList=O:=⟨_,rfl⟩
  rw [hO] at cT
  have hO':=Lib.hid hO
  clear hO
  go_enter Tryz.func139,Tryz.ntmps139
  go_wp2_with fail
  go_at_call 157
  refine cT.mono ?_
  rintro e w1 ⟨rfl,hb0⟩
  clear cT
  have hz1:w.heap.size < w1.heap.size:=by have:=hb0.size;simp at this;omega
  have hk1:w1.heap[w.heap.size]?=some (.cells #[.string ⟨#[]⟩,.string ⟨#[]⟩,.slice none 0 0,.string ⟨#[]⟩] 203 (0,0)):=by
    rw [hb0.block w.heap.size (by simp)]
    exact heap_alloc_new w _
  have hb1:Below w.heap.size w w1:=((Below.refl _ _).alloc (Nat.le_refl _) _).trans (hb0.mono (by simp))
  clear hb0
  have hfinB:∀ n:Nat,n≠0->n < 100->parse s.data.toList=.bad n->∀ W,ParseP w.heap.size s.data.toList (.returned (.tuple #[.agg #[.string ⟨#[]⟩,.string ⟨#[]⟩,.slice none 0 0,.string ⟨#[]⟩],.int .i64 (n:Int)])) W:=fun n h0 h1 h W=>.inl ⟨n,h,h0,h1,rfl⟩
  have hfinB':=Lib.hid hfinB
  clear hfinB
  cases O
  · have hf:=Lib.hid (hfinB'.out 10 (by decide) (by decide) (parse_text (fun h=>by
      have:=hO'.out
      unfold okT at this
      rw [h.1,h.2] at this
      exact absurd this (by decide))))
    obtain ⟨c0,c1,c2,c3,f0,f1,f2,f3⟩:=res4 hk1
    clear hk1
    go_wp2
    exact bodyPost_ret (v:=.tuple #[.agg #[.string ⟨#[]⟩,.string ⟨#[]⟩,.slice none 0 0,.string ⟨#[]⟩],.int .i64 10]) (by simp [results,Tryz.results139,go_sem,c0,c1,c2,c3]) rfl ⟨hf.out _,set4 hb1 _ _ _ _⟩
  · have htx:Ch.valid s.data.toList=true/\ends s.data.toList=false:=okT_tx hO'.out
    have htx':=Lib.hid htx
    have hk1':=Lib.hid hk1
    clear htx hk1
    go_wp2_with fail
    go_at_call 158
    refine (cutNames_any s w1 (by omega)).mono ?_
    rintro e w2 ⟨hc,hb0⟩
    have hk2:w2.heap[w.heap.size]?=some (.cells #[.string ⟨#[]⟩,.string ⟨#[]⟩,.slice none 0 0,.string ⟨#[]⟩] 203 (0,0)):=(hb0.block _ hz1).trans hk1'.out
    have hz2:w.heap.size < w2.heap.size:=Nat.lt_of_lt_of_le hz1 hb0.size
    have hb2:=below_then hb1 hb0
    clear hb0
    rcases hc with ⟨h1,rfl⟩ | ⟨g,n,r,h1,rfl⟩
    · have hf:=Lib.hid (hfinB'.out 30 (by decide) (by decide) (parse_name htx'.out h1))
      obtain ⟨c0,c1,c2,c3,f0,f1,f2,f3⟩:=res4 hk2
      clear hk2 h1
      go_wp2
      exact bodyPost_ret (v:=.tuple #[.agg #[.string ⟨#[]⟩,.string ⟨#[]⟩,.slice none 0 0,.string ⟨#[]⟩],.int .i64 30]) (by simp [results,Tryz.results139,go_sem,c0,c1,c2,c3]) rfl ⟨hf.out _,set4 hb2 _ _ _ _⟩
    · have hrl:r.size<=s.size:=by
        have:=names_len h1
        rw [<-Lib.size_eq,<-Lib.size_eq] at this
        exact this
      have cP:=cutParams_any r w2 (by omega)
      have h1':=Lib.hid h1
      have hk2':=Lib.hid hk2
      clear h1 hk2
      go_wp2_with fail
      go_at_call 159
      refine cP.mono ?_
      rintro e w3 ⟨hc,hb0⟩
      clear cP
      have hk3:w3.heap[w.heap.size]?=some (.cells #[.string ⟨#[]⟩,.string ⟨#[]⟩,.slice none 0 0,.string ⟨#[]⟩] 203 (0,0)):=(hb0.block _ hz2).trans hk2'.out
      have hz3:w.heap.size < w3.heap.size:=Nat.lt_of_lt_of_le hz2 hb0.size
      have hb3:=below_then hb2 hb0
      clear hb0
      rcases hc with ⟨m,h2,hm0,hm1,rfl⟩ | ⟨q,v,ps,h2,h59,hq,rfl,hown⟩
      · have hf:=Lib.hid (hfinB'.out m hm0 hm1 (by rw [parse_fin htx'.out h1'.out];exact h2 _ _ _))
        obtain ⟨c0,c1,c2,c3,f0,f1,f2,f3⟩:=res4 hk3
        have d1:((m:Int) != 0)=true:=bne_iff_ne.2 (by omega)
        have d2:((m:Int)==0)=false:=beq_eq_false_iff_ne.2 (by omega)
        clear hk3 h2
        go_wp2
        exact bodyPost_ret (v:=.tuple #[.agg #[.string ⟨#[]⟩,.string ⟨#[]⟩,.slice none 0 0,.string ⟨#[]⟩],.int .i64 (m:Int)]) (by simp [results,Tryz.results139,go_sem,c0,c1,c2,c3]) rfl ⟨hf.out _,set4 hb3 _ _ _ _⟩
      · have hpf:parse s.data.toList=if q.data.toList.head?=some 58 then .ok ⟨g.data.toList,n.data.toList,ps,q.data.toList.tail⟩ else .bad 31:=by
          rw [parse_fin htx'.out h1'.out,h2,fin_end h59,List.nil_append]
        have hC:=cutPre_any q 58 w3
        have hpf':=Lib.hid hpf
        obtain ⟨c0,c1,c2,c3,f0,f1,f2,f3⟩:=res4 hk3
        clear hk3 h2 h59 hpf
        obtain ⟨ao,c,rfl⟩:=hown.form
        have hown':=Lib.hid hown
        obtain ⟨l,hl⟩:∃ l,ps.length=l:=⟨_,rfl⟩
        rw [hl] at hown' ⊢
        clear hown hl
        go_wp2_with fail
        go_at_call 22
        refine hC.mono ?_
        rintro e w4 ⟨hc,rfl⟩
        clear hC
        rcases hc with ⟨h5,rfl⟩ | ⟨h5,x,hx,rfl⟩
        · have hf:=Lib.hid (hfinB'.out 31 (by decide) (by decide) (by rw [hpf'.out,if_neg h5]))
          clear h5
          go_wp2
          exact bodyPost_ret (v:=.tuple #[.agg #[.string ⟨#[]⟩,.string ⟨#[]⟩,.slice none 0 0,.string ⟨#[]⟩],.int .i64 31]) (by simp [results,Tryz.results139,go_sem,c0,c1,c2,c3]) rfl ⟨hf.out _,set4 hb3 _ _ _ _⟩
        · have hf:∀ W,POwn w.heap.size (.slice ao l c) ps W->ParseP w.heap.size s.data.toList (.returned (.tuple #[.agg #[.string g,.string n,.slice ao l c,.string x],.int .i64 0])) W:=fun W hW =>
            .inr ⟨⟨g.data.toList,n.data.toList,ps,x.data.toList⟩,_,by rw [hpf'.out,if_pos h5,hx],rfl,.slice ao l c,by simp only [sv_data],hW⟩
          have hf':=Lib.hid hf
          have hO4:∀ x0 x1 x2 x3,POwn w.heap.size (.slice ao l c) ps ((((w3.setCell ⟨w.heap.size,0,none⟩ x0).setCell ⟨w.heap.size,1,none⟩ x1).setCell ⟨w.heap.size,2,none⟩ x2).setCell ⟨w.heap.size,3,none⟩ x3):=fun x0 x1 x2 x3 =>
            ((((hown'.out.stored (a:=⟨w.heap.size,0,none⟩) hz2 x0).stored (a:=⟨w.heap.size,1,none⟩) hz2 x1).stored (a:=⟨w.heap.size,2,none⟩) hz2 x2).stored (a:=⟨w.heap.size,3,none⟩) hz2 x3).less (by omega)
          have hO4':=Lib.hid hO4
          clear h5 hx hf hO4
          go_wp2
          exact bodyPost_ret (v:=.tuple #[.agg #[.string g,.string n,.slice ao l c,.string x],.int .i64 0]) (by simp [results,Tryz.results139,go_sem,c0,c1,c2,c3]) rfl ⟨hf'.out _ (hO4'.out _ _ _ _),set4 hb3 _ _ _ _⟩
end Li
end Go.Proofs.YtobfaibofhmpgaaGreatDoor
