import Derived.Test.YtobfaibofhmpgaaGreatDoorAp35
set_option linter.unusedVariables false
set_option maxHeartbeats 16000000
set_option maxRecDepth 100000
namespace Go.Proofs.YtobfaibofhmpgaaGreatDoor.Bo
open Go.Lib Go.RowKit
theorem cmd_cells {w:World} {B:Nat} {op:Int} {bk nm dt mt nn tk:ByteArray} {nv:Value} {pos ses sq:Int} (h:w.heap[B]?=some (.cells (cmdA op bk nm dt mt nn tk nv pos ses sq) 34 (0,0))) :
    w.cell? ⟨B,0,none⟩=some (.int .i64 op)/\w.cell? ⟨B,1,none⟩=some (.string bk)/\w.cell? ⟨B,2,none⟩=some (.string nm)/\w.cell? ⟨B,3,none⟩=some (.string dt)/\w.cell? ⟨B,4,none⟩=some (.string mt)/\w.cell? ⟨B,5,none⟩=some (.string nn)/\w.cell? ⟨B,6,none⟩=some (.string tk)/\w.cell? ⟨B,7,none⟩=some nv/\w.cell? ⟨B,8,none⟩=some (.int .i64 pos) :=
  ⟨Lib.cell_of_heap h 0,Lib.cell_of_heap h 1,Lib.cell_of_heap h 2,Lib.cell_of_heap h 3,Lib.cell_of_heap h 4,Lib.cell_of_heap h 5,Lib.cell_of_heap h 6,Lib.cell_of_heap h 7,Lib.cell_of_heap h 8⟩
def outD (s:Sh):Option Bk × Rep->Sh × Rep
  | (none,r)=>(s,r)
  | (some b',r)=>({ chg:=s.chg+1,books:=setBk s b' },r)
theorem remove_any (w:World) (sb bm:Nat) (L:Bks) (s:Sh) (b:Bk) (p:Pl) (op:Int) (bk nm dt mt nn tk:ByteArray) (ns:List Row) (nv:Value) (hnv:∃ A n c,nv=.slice A n c) (pos ses sq:Int) (h:ShIs w sb bm L s.chg) (hL:L.map Prod.fst=s.books) (hx:(b,p)∈L) (hO:BkOk s.chg b)
    (h1:nm.size<=140737488355328) (h2:mt.size<=1099511627776) (h3:nn.size<=1099511627776) (hchg:s.chg < 4611686018427387904) :
    Calls Tryz.prog 42 #[pv sb,pv p.c,.agg (cmdA op bk nm dt mt nn tk nv pos ses sq)] w fun e w'=>∃ v,e=.returned v/\ShDid w w' sb bm L v (outD s (deleteB envP s.chg b (cmdD op bk nm dt mt nn tk ns pos))):=by
  obtain ⟨nA,nn0,ncap,rfl⟩:=hnv
  have hbk:=h.bks _ hx
  obtain ⟨c1,hc1⟩:∃ c1,s.chg+1=c1:=⟨_,rfl⟩
  obtain ⟨wB,hwB⟩:∃ wB,(w.alloc (.cells (cmdA op bk nm dt mt nn tk (.slice nA nn0 ncap) pos ses sq) 34)).alloc repO=wB:=⟨_,rfl⟩
  have hB0:Below w.heap.size w wB:=by rw [<-hwB];exact ((Below.refl _ _).alloc (Nat.le_refl _) _).alloc (by simp) _
  have hszB:wB.heap.size=w.heap.size+2:=by rw [<-hwB];simp
  have hres:wB.heap[w.heap.size+1]?=some (.cells #[.int .i64 0,.int .i64 0,.string ⟨#[]⟩,.slice none 0 0,.string ⟨#[]⟩] 29 (0,0)):=by
    rw [<-hwB]
    have:=heap_alloc_new (w.alloc (.cells (cmdA op bk nm dt mt nn tk (.slice nA nn0 ncap) pos ses sq) 34)) repO
    simpa using this
  have hcmd:wB.heap[w.heap.size]?=some (.cells (cmdA op bk nm dt mt nn tk (.slice nA nn0 ncap) pos ses sq) 34 (0,0)):=by
    rw [<-hwB,heap_alloc_old _ _ _ (by simp)]
    exact heap_alloc_new w _
  have hlt:p.c < w.heap.size:=hbk.lt p.c (by simp [Pl.fp])
  have hltm:p.m < w.heap.size:=hbk.lt p.m (by simp [Pl.fp])
  have hlts:=h.lt sb (by simp [fpS])
  obtain ⟨a1,a2,a3,a4⟩:=h.apartB hx
  obtain ⟨d1,d2,d3⟩:=fp_nodup a4
  have hk:=keyOf_str Tryz.underlying9 nm (by unfold maxLen;omega)
  obtain ⟨hlk,hsome⟩:=look_leaf b nm.data.toList
  obtain ⟨tg,htg⟩:∃ tg,((lfAt b nm.data.toList).map (·.tag)).getD 0=tg:=⟨_,rfl⟩
  obtain ⟨tx,htx⟩:∃ tx:ByteArray,(⟨(((lfAt b nm.data.toList).map (·.text)).getD []).toArray⟩:ByteArray)=tx:=⟨_,rfl⟩
  rw [htg,htx] at hlk
  -- worlds in which nothing of the shelf has turned
  have hSS:Hid (∀ W,Below wB.heap.size wB W->Below wB.heap.size wB W/\W.cell? ⟨p.c,2,none⟩=some (.map (some p.m))/\W.cell? ⟨w.heap.size,2,none⟩=some (.string nm)/\MapIs Tryz.prog 9 W p.m (cM b.cards)):=Lib.hid fun W hW =>
    ⟨hW,(col4 hbk ((below_then hB0 hW).block p.c hlt)).2.2.1,(cmd_cells ((hW.block _ (by omega)).trans hcmd)).2.2.1,hbk.map.block ((below_then hB0 hW).block p.m hltm)⟩
  have hCC:Hid (∀ W,Below wB.heap.size wB W->W.cell? ⟨w.heap.size,2,none⟩=some (.string nm)/\W.cell? ⟨w.heap.size,4,none⟩=some (.string mt)/\W.cell? ⟨w.heap.size,5,none⟩=some (.string nn)):=Lib.hid fun W hW=>by
    obtain ⟨_,_,q2,_,q4,q5,_⟩:=cmd_cells ((hW.block _ (by omega)).trans hcmd)
    exact ⟨q2,q4,q5⟩
  have hno:∀ (st:Nat) (W:World),Below wB.heap.size wB W->deleteB envP s.chg b (cmdD op bk nm dt mt nn tk ns pos)=(none,{ st:=st })->W.heap[w.heap.size+1]?=some (.cells #[.int .i64 0,.int .i64 0,.string ⟨#[]⟩,.slice none 0 0,.string ⟨#[]⟩] 29 (0,0))/\ShDid w (put5 W (w.heap.size+1) (st:Int) 0 noS noE noS) sb bm L (repV (st:Int) 0 noS noE noS) (outD s (deleteB envP s.chg b (cmdD op bk nm dt mt nn tk ns pos))):=fun st W hW hE=>by
    rw [hE]
    exact ⟨(hW.block _ (by omega)).trans hres,ShDid.same h hL (below_put5 (below_then hB0 hW) (by omega) _ _ _ _ _)⟩
  have hno':=Lib.hid hno
  have cS:=fun m W=>status_any m W
  have cH:=fun W=>Co.holds_any mt nn (tg:Int) W h2 h3
  obtain ⟨ok,hok⟩:∃ ok,(lfAt b nm.data.toList).isSome=ok:=⟨_,rfl⟩
  rw [hok] at hsome
  have hdel:deleteB envP s.chg b (cmdD op bk nm dt mt nn tk ns pos)=if ok=false then (none,{ st:=404 }) else match Co.hol mt.data.toList nn.data.toList (tg:Int) with
      | none=>(none,{ st:=400 })
      | some hh=>if hh=false then (none,{ st:=412 }) else (some { noteB b ⟨s.chg+1,nm.data.toList,true⟩ with cards:=b.cards.filter fun x=>decide (x.name≠nm.data.toList) },{ st:=204 }):=by
    unfold deleteB
    show (match lfAt b nm.data.toList with | none=>_ | some l=>_)=_
    cases hlf:lfAt b nm.data.toList with
    | none=>rw [hlf] at hok;rw [if_pos (by rw [<-hok];rfl)]
    | some l =>
      rw [hlf] at hok htg
      rw [if_neg (by rw [<-hok];simp)]
      show (match Co.hol mt.data.toList nn.data.toList ((l.tag:Nat):Int) with | none=>_ | some h=>_)=_
      rw [show l.tag=tg from htg]
      cases Co.hol mt.data.toList nn.data.toList (tg:Int)<;>rfl
  cases hokc:ok with
  | false =>
    have hE:=Lib.hid (show deleteB envP s.chg b (cmdD op bk nm dt mt nn tk ns pos)=(none,{ st:=404 }) from by rw [hdel,if_pos hokc])
    subst hokc
    clear hdel hno hO hL h hx hbk hcmd hres hB0
    go_enter Tryz.func42,Tryz.ntmps42
    go_wp2_with fail
    have hrun:=(hSS.out wB.drew (Below.drew (Below.refl _ _))).2.2.2.look_ok keyed Tryz.underlying89 (zeroK _) hk
    have hrun2:=(hSS.out (wB.alloc (.cells #[.int .i64 0,.string ⟨#[]⟩] 105)).drew (Below.drew ((Below.refl _ _).alloc (Nat.le_refl _) _))).2.2.2.look_ok keyed Tryz.underlying89 (zeroK _) hk
    rw [hlk,hsome] at hrun hrun2
    go_region_held3 (fun W=>Below wB.heap.size wB W/\W.cell? ⟨p.c,2,none⟩=some (.map (some p.m))/\W.cell? ⟨w.heap.size,2,none⟩=some (.string nm)/\MapIs Tryz.prog 9 W p.m (cM b.cards))
      (refine hSS.out _ ?_<;>first | assumption | exact Below.drew (Below.refl _ _) | exact (Below.drew (Below.refl _ _)).alloc (Nat.le_refl _) _ | exact ((Below.drew (Below.refl _ _)).alloc (Nat.le_refl _) _).setCell (Nat.le_refl _) _)
      (fail)
    all_goals
      clear hrun hrun2
      go_wp2_with fail
      go_at_call 18
      refine (cS 404 _).mono ?_
      rintro e w2 ⟨rfl,hb2⟩
      obtain ⟨hr3,hX⟩:=hno'.out 404 w2 (below_then (Below.drew ((Below.refl _ _).alloc (Nat.le_refl _) (.cells #[.int .i64 (tg:Int),.string tx] 105))) hb2) hE.out
      have hX':=Lib.hid hX
      obtain ⟨p0,p1,p2,p3,p4,f0,f1,f2,f3,f4⟩:=res5 hr3
      clear hX hb2 cS hwB
      go_wp2
      exact rep_fin rfl rfl hr3 ⟨_,rfl,hX'.out⟩
  | true =>
    rw [if_neg (by rw [hokc];simp)] at hdel
    subst hokc
    obtain ⟨wK,hwK⟩:∃ wK,(wB.alloc (.cells #[.int .i64 (tg:Int),.string tx] 105)).drew=wK:=⟨_,rfl⟩
    have hBK:Below wB.heap.size wB wK:=by rw [<-hwK];exact Below.drew ((Below.refl _ _).alloc (Nat.le_refl _) _)
    have hkb:wK.heap[wB.heap.size]?=some (.cells #[.int .i64 (tg:Int),.string tx] 105 (0,0)):=by
      rw [<-hwK]
      exact heap_alloc_new wB _
    have k0:=Lib.cell_of_heap hkb 0
    rw [hszB] at k0
    obtain ⟨q2,q4,q5⟩:=hCC.out wK hBK
    have cHK:=cH wK
    have hrun:=(hSS.out wB.drew (Below.drew (Below.refl _ _))).2.2.2.look_ok keyed Tryz.underlying89 (zeroK _) hk
    have hrun2:=(hSS.out (wB.alloc (.cells #[.int .i64 0,.string ⟨#[]⟩] 105)).drew (Below.drew ((Below.refl _ _).alloc (Nat.le_refl _) _))).2.2.2.look_ok keyed Tryz.underlying89 (zeroK _) hk
    rw [hlk,hsome] at hrun hrun2
    -- the map's delete,the next change,the note
    have hgo:∀ w2,Below wB.heap.size wB w2->Hid (∃ w5,(∀ ty,(Builtin.delete_ #[89,9] ty #[.map (some p.m),.string nm]).run Tryz.prog w2.drew=.ok (.tuple #[]) w5)/\(∀ W,Kp [p.m] w2 W->W.cell? ⟨p.c,2,none⟩=some (.map (some p.m))/\W.cell? ⟨w.heap.size,2,none⟩=some (.string nm))/\Kp [p.m] w2 w5/\
        ∃ w6,w5.drew.setCell ⟨sb,0,none⟩ (.int .i64 (c1:Int))=w6/\w6.cell? ⟨w.heap.size,2,none⟩=some (.string nm)/\w5.cell? ⟨w.heap.size,2,none⟩=some (.string nm)/\
          (Calls Tryz.prog 38 #[pv sb] w5.drew fun e w'=>e=.returned (.int .i64 (c1:Int))/\w'=w6)/\
          Calls Tryz.prog 67 #[pv p.c,.agg #[.int .i64 (c1:Int),.string nm,.bool true]] w6 fun e w7=>e=.returned (.tuple #[])/\∀ w8,Below w7.heap.size w7 w8->w8.heap[w.heap.size+1]?=some (.cells #[.int .i64 0,.int .i64 0,.string ⟨#[]⟩,.slice none 0 0,.string ⟨#[]⟩] 29 (0,0))/\
            ShDid w (put5 w8 (w.heap.size+1) 204 0 noS noE noS) sb bm L (repV 204 0 noS noE noS) ({ chg:=c1,books:=setBk s ({ noteB b ⟨c1,nm.data.toList,true⟩ with cards:=b.cards.filter fun x=>decide (x.name≠nm.data.toList) }) },{ st:=204 })):=fun w2 hb2=>Lib.hid (by
      have hw2:=below_then hB0 hb2
      have hm2:MapIs Tryz.prog 9 w2.drew p.m (cM b.cards):=(hSS.out w2 hb2).2.2.2
      obtain ⟨w5,hr5,hm5,ht5⟩:=hm2.drop keyed Tryz.underlying89 hk 0
      have hk5:Kp [p.m] w2 w5:=by
        have:=turned_kp ht5
        exact ⟨this.os,this.tape,this.output,this.size,this.block⟩
      have hlt2:w.heap.size+2<=w2.heap.size:=by have:=hb2.size;omega
      have hcm:∀ W,Kp [p.m] w2 W->W.heap[w.heap.size]?=some (.cells (cmdA op bk nm dt mt nn tk (.slice nA nn0 ncap) pos ses sq) 34 (0,0)):=fun W hW=>(hW.block _ (by omega) (by simp;omega)).trans ((hb2.block _ (by omega)).trans hcmd)
      have hpc:∀ W,Kp [p.m] w2 W->W.heap[p.c]?=w.heap[p.c]?:=fun W hW=>(hW.block _ (by omega) (by simp;exact d1)).trans (hw2.block _ hlt)
      have hsb5:w5.heap[sb]?=some (.cells #[.int .i64 (s.chg:Int),.map (some bm)] 61 (0,0)):=(hk5.block sb (by omega) (by simp;intro e;rw [e] at a1;unfold Pl.fp at a1;simp at a1)).trans ((hw2.block sb hlts).trans h.blk)
      have hcs:sb≠p.c:=fun e=>a1 (by rw [e];simp [Pl.fp])
      have hms:sb≠p.m:=fun e=>a1 (by rw [e];simp [Pl.fp])
      obtain ⟨w6,hw6⟩:∃ w6,w5.drew.setCell ⟨sb,0,none⟩ (.int .i64 (c1:Int))=w6:=⟨_,rfl⟩
      have o6:∀ k,k≠sb->w6.heap[k]?=w5.heap[k]?:=fun k hk=>by rw [<-hw6];exact Below.heap_setCell w5.drew _ _ _ hk
      have hs6:w6.heap[sb]?=some (.cells #[.int .i64 (c1:Int),.map (some bm)] 61 (0,0)):=by rw [<-hw6];exact set_heap (W:=w5.drew) hsb5 0 _
      have hz5:w5.heap.size=w6.heap.size:=by rw [<-hw6];simp
      have hk6:Kp (sb :: p.fp) wB w6:=by
        have q:Kp (sb :: p.fp) wB w5:=(Kp.of_below hb2).trans (hk5.mono fun k hk=>by simp at hk;subst hk;simp [Pl.fp])
        rw [<-hw6]
        exact Kp.setCell (w:=w5.drew) ⟨q.os,q.tape,q.output,q.size,q.block⟩ (.inl (by simp)) _
      have hB6:BkIs w6 { b with cards:=b.cards.filter fun x=>decide (x.name≠nm.data.toList) } p :=
        ⟨((o6 p.c (fun e=>hcs e.symm)).trans (hpc w5 hk5)).trans hbk.blk,by
          rw [<-cM_del]
          exact hm5.block (o6 p.m fun e=>hms e.symm),ownsRow_heap hbk.jou fun g hg=>by
          have hgl:=(hbk.jou.lt g hg).2
          rw [o6 g (fun e=>a1 (by rw [<-e];simp [Pl.fp,hg])),hk5.block g (by omega) (by simp;intro e;rw [e] at hg;exact d3 hg)]
          exact hw2.block g hgl⟩
      have cN:=next_any w5.drew sb bm s.chg hsb5 hchg
      rw [hc1,hw6] at cN
      have cT:=note_any w6 _ p c1 nm true hB6 a4 hO.few (fun n hn=>(hO.notes n hn).1) (by have:=hO.hor;show b.hor < c1;omega)
      refine ⟨w5,fun ty=>hr5,fun W hW=>⟨(col4 hbk (hpc W hW)).2.2.1,(cmd_cells (hcm W hW)).2.2.1⟩,hk5,w6,hw6,?_,?_,cN,cT.mono ?_⟩
      · exact (cmd_cells ((o6 _ (by omega)).trans (hcm w5 hk5))).2.2.1
      · exact (cmd_cells (hcm w5 hk5)).2.2.1
      · rintro e w7 ⟨rfl,hT⟩
        refine ⟨rfl,fun w8 hb8=>?_⟩
        rw [noteB_with] at hT
        obtain ⟨p',t1,t2,t3,t4,t5,t6⟩:=hT
        have hs7:=(t6.block sb (Array.getElem?_eq_some_iff.1 hs6).1 (by
          unfold Pl.fp at a1
          simp only [List.mem_cons,not_or] at a1 ⊢
          exact ⟨a1.1,a1.2.2⟩)).trans hs6
        have hTS:TurnedS wB w7 sb p { noteB b ⟨c1,nm.data.toList,true⟩ with cards:=b.cards.filter fun x=>decide (x.name≠nm.data.toList) }:=⟨p',t1,t2,fun k hk=>by
          rcases t4 k hk with h | h
          · exact .inl h
          · exact .inr (Nat.le_trans hk6.size h),t5,hk6.trans (t6.mono fun k hk=>by
            unfold Pl.fp
            rcases List.mem_cons.1 hk with rfl | hk
            · simp
            · exact List.mem_cons_of_mem _ (List.mem_cons_of_mem _ (List.mem_cons_of_mem _ hk)))⟩
        exact fin_turned hB0 (by omega) (by omega) hres h hL hx hs7 hTS (noteB_name b _) hb8 204 0)
    have hgo':=Lib.hid hgo
    -- which way it goes
    cases hol:Co.hol mt.data.toList nn.data.toList (tg:Int) with
    | none =>
      have hE:=Lib.hid (show deleteB envP s.chg b (cmdD op bk nm dt mt nn tk ns pos)=(none,{ st:=400 }) from by rw [hdel,hol])
      rw [hol] at cHK
      clear hdel hno hO hL h hx hbk hcmd hres hB0 hgo hgo' hkb
      go_enter Tryz.func42,Tryz.ntmps42
      go_wp2_with fail
      go_region_held3 (fun W=>Below wB.heap.size wB W/\W.cell? ⟨p.c,2,none⟩=some (.map (some p.m))/\W.cell? ⟨w.heap.size,2,none⟩=some (.string nm)/\MapIs Tryz.prog 9 W p.m (cM b.cards))
        (refine hSS.out _ ?_<;>first | assumption | exact Below.drew (Below.refl _ _) | exact (Below.drew (Below.refl _ _)).alloc (Nat.le_refl _) _ | exact ((Below.drew (Below.refl _ _)).alloc (Nat.le_refl _) _).setCell (Nat.le_refl _) _)
        (fail)
      all_goals
        clear hrun hrun2
        go_wp2_with fail
        go_at_call 65
        refine cHK.mono ?_
        rintro e w1 ⟨rfl,hb1⟩
        have hb1':=Lib.hid (below_then hBK hb1)
        unfold Co.namE
        clear cHK hb1
        go_wp2_with fail
        go_at_call 18
        refine (cS 400 _).mono ?_
        rintro e w2 ⟨rfl,hb2⟩
        obtain ⟨hr3,hX⟩:=hno'.out 400 w2 (below_then hb1'.out hb2) hE.out
        have hX':=Lib.hid hX
        obtain ⟨p0,p1,p2,p3,p4,f0,f1,f2,f3,f4⟩:=res5 hr3
        clear hX hb2 cS hwB hwK
        go_wp2
        exact rep_fin rfl rfl hr3 ⟨_,rfl,hX'.out⟩
    | some hh =>
      rw [hol] at cHK hdel
      cases hh with
      | false =>
        have hE:=Lib.hid (show deleteB envP s.chg b (cmdD op bk nm dt mt nn tk ns pos)=(none,{ st:=412 }) from by rw [hdel];rfl)
        clear hdel hno hO hL h hx hbk hcmd hres hB0 hgo hgo' hkb
        go_enter Tryz.func42,Tryz.ntmps42
        go_wp2_with fail
        go_region_held3 (fun W=>Below wB.heap.size wB W/\W.cell? ⟨p.c,2,none⟩=some (.map (some p.m))/\W.cell? ⟨w.heap.size,2,none⟩=some (.string nm)/\MapIs Tryz.prog 9 W p.m (cM b.cards))
          (refine hSS.out _ ?_<;>first | assumption | exact Below.drew (Below.refl _ _) | exact (Below.drew (Below.refl _ _)).alloc (Nat.le_refl _) _ | exact ((Below.drew (Below.refl _ _)).alloc (Nat.le_refl _) _).setCell (Nat.le_refl _) _)
          (fail)
        all_goals
          clear hrun hrun2
          go_wp2_with fail
          go_at_call 65
          refine cHK.mono ?_
          rintro e w1 ⟨rfl,hb1⟩
          have hb1':=Lib.hid (below_then hBK hb1)
          unfold Co.namE
          clear cHK hb1
          go_wp2_with fail
          go_at_call 18
          refine (cS 412 _).mono ?_
          rintro e w2 ⟨rfl,hb2⟩
          obtain ⟨hr3,hX⟩:=hno'.out 412 w2 (below_then hb1'.out hb2) hE.out
          have hX':=Lib.hid hX
          obtain ⟨p0,p1,p2,p3,p4,f0,f1,f2,f3,f4⟩:=res5 hr3
          clear hX hb2 cS hwB hwK
          go_wp2
          exact rep_fin rfl rfl hr3 ⟨_,rfl,hX'.out⟩
      | true =>
        have hE:outD s (deleteB envP s.chg b (cmdD op bk nm dt mt nn tk ns pos))=({ chg:=c1,books:=setBk s ({ noteB b ⟨c1,nm.data.toList,true⟩ with cards:=b.cards.filter fun x=>decide (x.name≠nm.data.toList) }) },{ st:=204 }):=by rw [hdel,<-hc1];rfl
        rw [hE]
        clear hdel hno hO hL h hx hbk hcmd hres hB0 hgo hkb hE hno'
        go_enter Tryz.func42,Tryz.ntmps42
        go_wp2_with fail
        go_region_held3 (fun W=>Below wB.heap.size wB W/\W.cell? ⟨p.c,2,none⟩=some (.map (some p.m))/\W.cell? ⟨w.heap.size,2,none⟩=some (.string nm)/\MapIs Tryz.prog 9 W p.m (cM b.cards))
          (refine hSS.out _ ?_<;>first | assumption | exact Below.drew (Below.refl _ _) | exact (Below.drew (Below.refl _ _)).alloc (Nat.le_refl _) _ | exact ((Below.drew (Below.refl _ _)).alloc (Nat.le_refl _) _).setCell (Nat.le_refl _) _)
          (fail)
        all_goals
          clear hrun hrun2
          go_wp2_with fail
          go_at_call 65
          refine cHK.mono ?_
          rintro e w1 ⟨rfl,hb1⟩
          obtain ⟨w5,hrD,hSd,hk5,w6,hw6,g6,g5,cN,cT⟩:=(hgo'.out w1 (below_then hBK hb1)).out
          have hSd':=Lib.hid hSd
          have hk5':=Lib.hid hk5
          obtain ⟨g3,g4⟩:=hSd w1 (Kp.refl _ _)
          unfold Co.namE
          clear cHK hb1 hSd hk5
          go_wp2_with fail
          go_region_held3 (fun W=>W.cell? ⟨p.c,2,none⟩=some (.map (some p.m))/\W.cell? ⟨w.heap.size,2,none⟩=some (.string nm))
            (refine hSd'.out _ ?_<;>first | exact Kp.refl _ _ | exact hk5'.out | exact ⟨rfl,rfl,rfl,Nat.le_refl _,fun _ _ _=>rfl⟩)
            (fail)
          all_goals
            clear hrD hSd' hk5'
            go_wp2_with fail
            go_region_law (first
              | (go_simp;go_at_call 38;refine cN.mono ?_;rintro e w6' ⟨rfl,rfl⟩)
              | (go_simp;go_at_call 67;refine cT.mono ?_;rintro e w7 ⟨rfl,h7⟩))
            all_goals
              have h7':=Lib.hid h7
              clear cN cT h7 g5 g6 hw6
              go_wp2_with fail
              go_at_call 18
              refine (cS 204 _).mono ?_
              rintro e w8 ⟨rfl,hb8⟩
              obtain ⟨hr3,hX⟩:=h7'.out w8 hb8
              have hX':=Lib.hid hX
              obtain ⟨p0,p1,p2,p3,p4,f0,f1,f2,f3,f4⟩:=res5 hr3
              clear hX hb8 cS hwB hwK h7'
              go_wp2
              exact rep_fin rfl rfl hr3 ⟨_,rfl,hX'.out⟩
def putCards (b:Bk) (n:Row) (y:Leaf) (was:Bool):List Leaf:=if was=true then b.cards.map fun x=>if x.name=n then y else x else insBy (fun x=>x.name) y b.cards
theorem putB_is (chg:Nat) (b:Bk) (c:Cmd) {tg:Nat} (htg:((lfAt b c.name).map (·.tag)).getD 0=tg) {was:Bool} (hok:(lfAt b c.name).isSome=was):putB envP chg b c =
    if Pa.fits c.name=false then (none,{ st:=403 }) else match Co.hol c.mat c.non (tg:Int) with
    | none=>(none,{ st:=400 })
    | some h=>if normC c.data=11 then (none,{ st:=413 }) else if normC c.data≠0 then (none,{ st:=403 }) else if h=false then (none,{ st:=412 }) else if was=false/\256<=b.cards.length then (none,{ st:=507 }) else
      (some { noteB b ⟨chg+1,c.name,was⟩ with cards:=putCards b c.name ⟨c.name,chg+1,normT c.data⟩ was },{ st:=if was=true then 204 else 201,tag:=chg+1 }):=by
  unfold putB
  show (if Pa.fits c.name=false then _ else match Co.hol c.mat c.non ((((lfAt b c.name).map (·.tag)).getD 0:Nat):Int) with | none=>_ | some h=>match normE c.data with | .error st=>_ | .ok t=>_)=_
  rw [htg]
  by_cases hf:Pa.fits c.name=false
  · rw [if_pos hf,if_pos hf]
  rw [if_neg hf,if_neg hf]
  cases Co.hol c.mat c.non (tg:Int) with
  | none=>rfl
  | some h =>
    by_cases h11:normC c.data=11
    · have e:normE c.data=.error 413:=by unfold normE;rw [if_pos h11]
      rw [e]
      simp [h11]
    by_cases h0:normC c.data≠0
    · have e:normE c.data=.error 403:=by unfold normE;rw [if_neg h11,if_pos h0]
      rw [e]
      simp [h11,h0]
    have e:normE c.data=.ok (normT c.data):=by unfold normE;rw [if_neg h11,if_neg h0]
    rw [e]
    have h0':normC c.data=0:=by omega
    simp only [h0']
    by_cases hh:h=false
    · simp [hh]
    have hh':h=true:=by simpa using hh
    subst hh'
    cases hl:lfAt b c.name with
    | some l =>
      rw [hl] at hok
      have:was=true:=by rw [<-hok];rfl
      subst this
      simp [putCards]
    | none =>
      rw [hl] at hok
      have:was=false:=by rw [<-hok];rfl
      subst this
      by_cases h256:256<=b.cards.length
      · simp [h256]
      · simp [h256,putCards]
theorem cM_put {chg:Nat} {b:Bk} (hw:Well chg b) {n:Row} {y:Leaf} (hy:y.name=n) {was:Bool} (hok:(lfAt b n).isSome=was):(putM (cM b.cards) n (lv y)).Perm (cM (putCards b n y was)):=by
  unfold putCards
  cases was with
  | true =>
    rw [if_pos rfl]
    obtain ⟨l,hl⟩:=Option.isSome_iff_exists.1 hok
    obtain ⟨h1,h2⟩:=lfAt_some hl
    exact cM_set hy hw.names ⟨l,h1,h2⟩
  | false =>
    rw [if_neg (by simp)]
    have hl:lfAt b n=none:=by simpa using hok
    exact cM_ins hy (lfAt_none hl)
theorem put_any (w0 w:World) (sb bm:Nat) (L:Bks) (s:Sh) (b:Bk) (p:Pl) (op:Int) (bk nm dt mt nn tk:ByteArray) (ns:List Row) (nv:Value) (hnv:∃ A n c,nv=.slice A n c) (pos ses sq:Int) (hG:Grd w0 w) (h:ShIs w sb bm L s.chg) (hL:L.map Prod.fst=s.books) (hx:(b,p)∈L) (hO:BkOk s.chg b)
    (h1:nm.size<=140737488355328) (h2:mt.size<=1099511627776) (h3:nn.size<=1099511627776) (h4:dt.size<=1099511627776) (hchg:s.chg < 4611686018427387904) :
    Calls Tryz.prog 41 #[pv sb,pv p.c,.agg (cmdA op bk nm dt mt nn tk nv pos ses sq)] w fun e w'=>∃ v,e=.returned v/\ShDid w w' sb bm L v (outD s (putB envP s.chg b (cmdD op bk nm dt mt nn tk ns pos))):=by
  obtain ⟨nA,nn0,ncap,rfl⟩:=hnv
  have hbk:=h.bks _ hx
  obtain ⟨c1,hc1⟩:∃ c1,s.chg+1=c1:=⟨_,rfl⟩
  obtain ⟨wB,hwB⟩:∃ wB,(w.alloc (.cells (cmdA op bk nm dt mt nn tk (.slice nA nn0 ncap) pos ses sq) 34)).alloc repO=wB:=⟨_,rfl⟩
  have hB0:Below w.heap.size w wB:=by rw [<-hwB];exact ((Below.refl _ _).alloc (Nat.le_refl _) _).alloc (by simp) _
  have hszB:wB.heap.size=w.heap.size+2:=by rw [<-hwB];simp
  have hres:wB.heap[w.heap.size+1]?=some (.cells #[.int .i64 0,.int .i64 0,.string ⟨#[]⟩,.slice none 0 0,.string ⟨#[]⟩] 29 (0,0)):=by
    rw [<-hwB]
    have:=heap_alloc_new (w.alloc (.cells (cmdA op bk nm dt mt nn tk (.slice nA nn0 ncap) pos ses sq) 34)) repO
    simpa using this
  have hcmd:wB.heap[w.heap.size]?=some (.cells (cmdA op bk nm dt mt nn tk (.slice nA nn0 ncap) pos ses sq) 34 (0,0)):=by
    rw [<-hwB,heap_alloc_old _ _ _ (by simp)]
    exact heap_alloc_new w _
  have hlt:p.c < w.heap.size:=hbk.lt p.c (by simp [Pl.fp])
  have hltm:p.m < w.heap.size:=hbk.lt p.m (by simp [Pl.fp])
  have hlts:=h.lt sb (by simp [fpS])
  obtain ⟨a1,a2,a3,a4⟩:=h.apartB hx
  obtain ⟨d1,d2,d3⟩:=fp_nodup a4
  have hk:=keyOf_str Tryz.underlying9 nm (by unfold maxLen;omega)
  obtain ⟨hlk,hsome⟩:=look_leaf b nm.data.toList
  obtain ⟨tg,htg⟩:∃ tg,((lfAt b nm.data.toList).map (·.tag)).getD 0=tg:=⟨_,rfl⟩
  obtain ⟨tx,htx⟩:∃ tx:ByteArray,(⟨(((lfAt b nm.data.toList).map (·.text)).getD []).toArray⟩:ByteArray)=tx:=⟨_,rfl⟩
  obtain ⟨ok,hok⟩:∃ ok,(lfAt b nm.data.toList).isSome=ok:=⟨_,rfl⟩
  rw [htg,htx] at hlk
  rw [hok] at hsome
  -- worlds in which nothing of the shelf has turned
  have hSS:Hid (∀ W,Below wB.heap.size wB W->W.cell? ⟨p.c,2,none⟩=some (.map (some p.m))/\W.cell? ⟨w.heap.size,2,none⟩=some (.string nm)/\MapIs Tryz.prog 9 W p.m (cM b.cards)):=Lib.hid fun W hW =>
    ⟨(col4 hbk ((below_then hB0 hW).block p.c hlt)).2.2.1,(cmd_cells ((hW.block _ (by omega)).trans hcmd)).2.2.1,hbk.map.block ((below_then hB0 hW).block p.m hltm)⟩
  have hCC:Hid (∀ W,Below wB.heap.size wB W->W.cell? ⟨w.heap.size,2,none⟩=some (.string nm)/\W.cell? ⟨w.heap.size,3,none⟩=some (.string dt)/\W.cell? ⟨w.heap.size,4,none⟩=some (.string mt)/\W.cell? ⟨w.heap.size,5,none⟩=some (.string nn)):=Lib.hid fun W hW=>by
    obtain ⟨_,_,q2,q3,q4,q5,_⟩:=cmd_cells ((hW.block _ (by omega)).trans hcmd)
    exact ⟨q2,q3,q4,q5⟩
  have hput:putB envP s.chg b (cmdD op bk nm dt mt nn tk ns pos)=if Pa.fits nm.data.toList=false then (none,{ st:=403 }) else match Co.hol mt.data.toList nn.data.toList (tg:Int) with
      | none=>(none,{ st:=400 })
      | some h=>if normC dt.data.toList=11 then (none,{ st:=413 }) else if normC dt.data.toList≠0 then (none,{ st:=403 }) else if h=false then (none,{ st:=412 }) else if ok=false/\256<=b.cards.length then (none,{ st:=507 }) else
        (some { noteB b ⟨s.chg+1,nm.data.toList,ok⟩ with cards:=putCards b nm.data.toList ⟨nm.data.toList,s.chg+1,normT dt.data.toList⟩ ok },{ st:=if ok=true then 204 else 201,tag:=s.chg+1 }):=putB_is s.chg b (cmdD op bk nm dt mt nn tk ns pos) htg hok
  rw [hc1] at hput
  have hno:∀ (st:Nat) (W:World),Below wB.heap.size wB W->putB envP s.chg b (cmdD op bk nm dt mt nn tk ns pos)=(none,{ st:=st })->W.heap[w.heap.size+1]?=some (.cells #[.int .i64 0,.int .i64 0,.string ⟨#[]⟩,.slice none 0 0,.string ⟨#[]⟩] 29 (0,0))/\ShDid w (put5 W (w.heap.size+1) (st:Int) 0 noS noE noS) sb bm L (repV (st:Int) 0 noS noE noS) (outD s (putB envP s.chg b (cmdD op bk nm dt mt nn tk ns pos))):=fun st W hW hE=>by
    rw [hE]
    exact ⟨(hW.block _ (by omega)).trans hres,ShDid.same h hL (below_put5 (below_then hB0 hW) (by omega) _ _ _ _ _)⟩
  have hno':=Lib.hid hno
  have cS:=fun m W=>status_any m W
  have cH:=fun W=>Co.holds_any mt nn (tg:Int) W h2 h3
  have cG:=Pa.segment_any nm wB h1 (hG.below hB0).t
  have cK:=fun W (hW:Below wB.heap.size wB W)=>canonical_any dt W h4 (hG.below (below_then hB0 hW)).t
  have cK':=Lib.hid cK
  have hput':=Lib.hid hput
  -- the next change,the map's store,the note
  have hgo:∀ w3 (x:ByteArray) (hx0:x.data.toList=normT dt.data.toList),Below wB.heap.size wB w3->Hid (∃ w4,w3.setCell ⟨sb,0,none⟩ (.int .i64 (c1:Int))=w4/\(Calls Tryz.prog 38 #[pv sb] w3 fun e w'=>e=.returned (.int .i64 (c1:Int))/\w'=w4)/\
        (∀ W,Kp [p.m] w4 W->W.cell? ⟨p.c,2,none⟩=some (.map (some p.m))/\W.cell? ⟨w.heap.size,2,none⟩=some (.string nm))/\
        ∃ w5,(Instr.mapUpdate 89 (.map (some p.m)) (.string nm) (.agg #[.int .i64 (c1:Int),.string x])).run Tryz.prog w4.drew=.ok () w5/\Kp [p.m] w4 w5/\
          Calls Tryz.prog 67 #[pv p.c,.agg #[.int .i64 (c1:Int),.string nm,.bool ok]] w5 fun e w7=>e=.returned (.tuple #[])/\w7.heap[w.heap.size+1]?=some (.cells #[.int .i64 0,.int .i64 0,.string ⟨#[]⟩,.slice none 0 0,.string ⟨#[]⟩] 29 (0,0))/\
            ∀ st:Nat,ShDid w (put5 w7 (w.heap.size+1) (st:Int) (c1:Int) noS noE noS) sb bm L (repV (st:Int) (c1:Int) noS noE noS) ({ chg:=c1,books:=setBk s ({ noteB b ⟨c1,nm.data.toList,ok⟩ with cards:=putCards b nm.data.toList ⟨nm.data.toList,c1,normT dt.data.toList⟩ ok }) },{ st:=st,tag:=c1 })):=fun w3 x hx0 hb3=>Lib.hid (by
    have hw3:=below_then hB0 hb3
    have hlt3:w.heap.size+2<=w3.heap.size:=by have:=hb3.size;omega
    have hcs:sb≠p.c:=fun e=>a1 (by rw [e];simp [Pl.fp])
    have hms:sb≠p.m:=fun e=>a1 (by rw [e];simp [Pl.fp])
    have hsb3:=(hw3.block sb hlts).trans h.blk
    obtain ⟨w4,hw4⟩:∃ w4,w3.setCell ⟨sb,0,none⟩ (.int .i64 (c1:Int))=w4:=⟨_,rfl⟩
    have o4:∀ k,k≠sb->w4.heap[k]?=w3.heap[k]?:=fun k hk=>by rw [<-hw4];exact Below.heap_setCell w3 _ _ _ hk
    have hs4:w4.heap[sb]?=some (.cells #[.int .i64 (c1:Int),.map (some bm)] 61 (0,0)):=by rw [<-hw4];exact set_heap hsb3 0 _
    have hz4:w3.heap.size=w4.heap.size:=by rw [<-hw4];simp
    have cN:=next_any w3 sb bm s.chg hsb3 hchg
    rw [hc1,hw4] at cN
    have hm4:MapIs Tryz.prog 9 w4.drew p.m (cM b.cards):=(hSS.out w3 hb3).2.2.block (o4 p.m fun e=>hms e.symm)
    have hlen:(cM b.cards).length < maxLen:=by unfold cM maxLen;rw [List.length_map];have:=hO.most;omega
    obtain ⟨w5,hr5,hm5,ht5⟩:=hm4.store (val:=.agg #[.int .i64 (c1:Int),.string x]) keyed Tryz.underlying89 hlen hk
    have hk5:Kp [p.m] w4 w5:=by
      have:=turned_kp ht5
      exact ⟨this.os,this.tape,this.output,this.size,this.block⟩
    have hcm:∀ W,Kp [p.m] w4 W->W.heap[w.heap.size]?=some (.cells (cmdA op bk nm dt mt nn tk (.slice nA nn0 ncap) pos ses sq) 34 (0,0)):=fun W hW=>(hW.block _ (by omega) (by simp;omega)).trans ((o4 _ (by omega)).trans ((hb3.block _ (by omega)).trans hcmd))
    have hpc:∀ W,Kp [p.m] w4 W->W.heap[p.c]?=w.heap[p.c]?:=fun W hW=>(hW.block _ (by omega) (by simp;exact d1)).trans ((o4 _ fun e=>hcs e.symm).trans (hw3.block _ hlt))
    have hs5:=(hk5.block sb (by omega) (by simp;exact hms)).trans hs4
    have hk6:Kp (sb :: p.fp) wB w5:=by
      have q:Kp (sb :: p.fp) wB w4:=by rw [<-hw4];exact (Kp.of_below hb3).setCell (.inl (by simp)) _
      exact q.trans (hk5.mono fun k hk=>by simp at hk;subst hk;simp [Pl.fp])
    have hval:lv ⟨nm.data.toList,c1,normT dt.data.toList⟩=.agg #[.int .i64 (c1:Int),.string x]:=by unfold lv;rw [<-hx0,sv_data]
    have hB6:BkIs w5 { b with cards:=putCards b nm.data.toList ⟨nm.data.toList,c1,normT dt.data.toList⟩ ok } p :=
      ⟨(hpc w5 hk5).trans hbk.blk,hm5.of_perm (by rw [<-hval];exact cM_put (n:=nm.data.toList) (y:=⟨nm.data.toList,c1,normT dt.data.toList⟩) hO.well rfl hok),ownsRow_heap hbk.jou fun g hg=>by
        have hgl:=(hbk.jou.lt g hg).2
        rw [hk5.block g (by omega) (by simp;intro e;rw [e] at hg;exact d3 hg),o4 g (fun e=>a1 (by rw [<-e];simp [Pl.fp,hg]))]
        exact hw3.block g hgl⟩
    have cT:=note_any w5 _ p c1 nm ok hB6 a4 hO.few (fun n hn=>(hO.notes n hn).1) (by have:=hO.hor;show b.hor < c1;omega)
    refine ⟨w4,hw4,cN,fun W hW=>⟨(col4 hbk (hpc W hW)).2.2.1,(cmd_cells (hcm W hW)).2.2.1⟩,w5,hr5,hk5,cT.mono ?_⟩
    rintro e w7 ⟨rfl,hT⟩
    rw [noteB_with] at hT
    obtain ⟨p',t1,t2,t3,t4,t5,t6⟩:=hT
    have hs7:=(t6.block sb (Array.getElem?_eq_some_iff.1 hs5).1 (by
      unfold Pl.fp at a1
      simp only [List.mem_cons,not_or] at a1 ⊢
      exact ⟨a1.1,a1.2.2⟩)).trans hs5
    have hTS:TurnedS wB w7 sb p { noteB b ⟨c1,nm.data.toList,ok⟩ with cards:=putCards b nm.data.toList ⟨nm.data.toList,c1,normT dt.data.toList⟩ ok }:=⟨p',t1,t2,fun k hk=>by
      rcases t4 k hk with h | h
      · exact .inl h
      · exact .inr (Nat.le_trans hk6.size h),t5,hk6.trans (t6.mono fun k hk=>by
        unfold Pl.fp
        rcases List.mem_cons.1 hk with rfl | hk
        · simp
        · exact List.mem_cons_of_mem _ (List.mem_cons_of_mem _ (List.mem_cons_of_mem _ hk)))⟩
    have hf:=fun st=>fin_turned hB0 (by omega) (by omega) hres h hL hx hs7 hTS (noteB_name b _) (Below.refl _ _) st c1
    exact ⟨rfl,(hf 0).1,fun st=>(hf st).2⟩)
  have hgo':=Lib.hid hgo
  have hlenC:(cM b.cards).length=b.cards.length:=by unfold cM;rw [List.length_map]
  clear hgo hno hput hO hL h hx hbk hcmd hres hB0 cK hG
  by_cases hf:Pa.fits nm.data.toList=true
  rotate_left
  · have hE:=Lib.hid (show putB envP s.chg b (cmdD op bk nm dt mt nn tk ns pos)=(none,{ st:=403 }) from by rw [hput'.out];exact if_pos (by simpa using hf))
    have cG2:=cG.mono (fun e w' hP=>(show e=.returned (.tuple #[.string ⟨#[]⟩,.int .i64 60])/\Below wB.heap.size wB w' from ⟨(by
      rcases hP.1 with ⟨_,h⟩ | ⟨h,_⟩
      · exact h
      · exact absurd h hf),hP.2⟩))
    obtain ⟨q2,_,_,_⟩:=hCC.out wB (Below.refl _ _)
    clear cG hf
    go_enter Tryz.func41,Tryz.ntmps41
    go_wp2_with fail
    go_at_call 37
    refine cG2.mono ?_
    rintro e w1 ⟨rfl,hb1⟩
    have hb1':=Lib.hid hb1
    clear cG2 hb1
    go_wp2_with fail
    go_at_call 18
    refine (cS 403 w1).mono ?_
    rintro e w2 ⟨rfl,hb2⟩
    obtain ⟨hr3,hX⟩:=hno'.out 403 w2 (below_then hb1'.out hb2) hE.out
    have hX':=Lib.hid hX
    obtain ⟨p0,p1,p2,p3,p4,f0,f1,f2,f3,f4⟩:=res5 hr3
    clear hX cS hb2 hwB
    go_wp2
    exact rep_fin rfl rfl hr3 ⟨_,rfl,hX'.out⟩
  have cG2:=cG.mono (fun e w' hP=>(show (∃ x:ByteArray,e=.returned (.tuple #[.string x,.int .i64 0]))/\Below wB.heap.size wB w' from ⟨(by
      rcases hP.1 with ⟨h,_⟩ | ⟨_,x,_,h⟩
      · rw [hf] at h;cases h
      · exact ⟨x,h⟩),hP.2⟩))
  have hput2:=hput'.out
  rw [if_neg (by simp [hf])] at hput2
  have hput2':=Lib.hid hput2
  obtain ⟨q2,_,_,_⟩:=hCC.out wB (Below.refl _ _)
  clear cG hf hput2 hput'
  go_enter Tryz.func41,Tryz.ntmps41
  go_wp2_with fail
  go_at_call 37
  refine cG2.mono ?_
  rintro e w1 ⟨⟨y,rfl⟩,hb1⟩
  have hb1':=Lib.hid hb1
  have hsz1:wB.heap.size<=w1.heap.size:=hb1.size
  have hrun:=(hSS.out w1.drew (below_then hb1 (Below.drew (Below.refl _ _)))).2.2.look_ok keyed Tryz.underlying89 (zeroK _) hk
  have hrun2:=(hSS.out (w1.alloc (.cells #[.int .i64 0,.string ⟨#[]⟩] 105)).drew (below_then hb1 (Below.drew ((Below.refl _ _).alloc (Nat.le_refl _) _)))).2.2.look_ok keyed Tryz.underlying89 (zeroK _) hk
  rw [hlk,hsome] at hrun hrun2
  have hD:∀ W,Below w1.heap.size w1 W->Below wB.heap.size wB W:=fun W hW=>below_then hb1'.out hW
  have hD':=Lib.hid hD
  obtain ⟨_,g2,_⟩:=hSS.out w1 hb1
  obtain ⟨wK,hwK⟩:∃ wK,(w1.alloc (.cells #[.int .i64 (tg:Int),.string tx] 105)).drew=wK:=⟨_,rfl⟩
  have hBX:Below w1.heap.size w1 wK:=by rw [<-hwK];exact Below.drew ((Below.refl _ _).alloc (Nat.le_refl _) _)
  have hkX:wK.heap[w1.heap.size]?=some (.cells #[.int .i64 (tg:Int),.string tx] 105 (0,0)):=by rw [<-hwK];exact heap_alloc_new w1 _
  have k0:=Lib.cell_of_heap hkX 0
  obtain ⟨_,g3,g4,g5⟩:=hCC.out wK (below_then hb1 hBX)
  clear hkX
  clear cG2 hb1 hD
  go_wp2_with fail
  go_region_held3 (fun W=>Below w1.heap.size w1 W/\W.cell? ⟨p.c,2,none⟩=some (.map (some p.m))/\W.cell? ⟨w.heap.size,2,none⟩=some (.string nm))
    (refine (fun W (hW:Below w1.heap.size w1 W)=>(⟨hW,(hSS.out W (hD'.out W hW)).1,(hSS.out W (hD'.out W hW)).2.1⟩:Below w1.heap.size w1 W/\W.cell? ⟨p.c,2,none⟩=some (.map (some p.m))/\W.cell? ⟨w.heap.size,2,none⟩=some (.string nm))) _ ?_<;>first | assumption | exact Below.drew (Below.refl _ _) | exact (Below.drew (Below.refl _ _)).alloc (Nat.le_refl _) _ | exact ((Below.drew (Below.refl _ _)).alloc (Nat.le_refl _) _).setCell (Nat.le_refl _) _)
    (fail)
  all_goals
    clear hrun hrun2
    have cH2:=cH wK
    go_wp2_with fail
    go_at_call 65
    refine cH2.mono ?_
    rintro e w2 ⟨rfl,hb2⟩
    have hb2':=Lib.hid (hD'.out w2 (below_then hBX hb2))
    clear cH2 hb2 g2 g3 g4 g5 hwK k0
    obtain ⟨_,g3,_,_⟩:=hCC.out w2 hb2'.out
    cases hol:Co.hol mt.data.toList nn.data.toList (tg:Int) with
    | none =>
      have hE:=Lib.hid (show putB envP s.chg b (cmdD op bk nm dt mt nn tk ns pos)=(none,{ st:=400 }) from by rw [hput2'.out,hol])
      unfold Co.namE
      go_wp2_with fail
      go_at_call 18
      refine (cS 400 w2).mono ?_
      rintro e w3 ⟨rfl,hb3⟩
      obtain ⟨hr3,hX⟩:=hno'.out 400 w3 (below_then hb2'.out hb3) hE.out
      have hX':=Lib.hid hX
      obtain ⟨p0,p1,p2,p3,p4,f0,f1,f2,f3,f4⟩:=res5 hr3
      clear hX cS hb3 hwB
      go_wp2
      exact rep_fin rfl rfl hr3 ⟨_,rfl,hX'.out⟩
    | some hh =>
      have hput3:=hput2'.out
      rw [hol] at hput3
      have cK2:=cK'.out w2 hb2'.out
      unfold Co.namE
      go_wp2_with fail
      go_at_call 66
      refine cK2.mono ?_
      rintro e w3 ⟨⟨x,hx0,rfl⟩,hb3⟩
      have hb3':=Lib.hid (below_then hb2'.out hb3)
      have hG3:=hgo'.out w3 x hx0 hb3'.out
      obtain ⟨d,hd⟩:∃ d,normC dt.data.toList=d:=⟨_,rfl⟩
      rw [hd] at hput3 ⊢
      have hput3':=Lib.hid hput3
      clear cK2 hb3 g3 hput3 hd
      by_cases h11:d=11
      · have hE:=Lib.hid (show putB envP s.chg b (cmdD op bk nm dt mt nn tk ns pos)=(none,{ st:=413 }) from by rw [hput3'.out];exact if_pos h11)
        subst h11
        clear hG3
        go_wp2_with fail
        go_at_call 18
        refine (cS 413 w3).mono ?_
        rintro e w4 ⟨rfl,hb4⟩
        obtain ⟨hr3,hX⟩:=hno'.out 413 w4 (below_then hb3'.out hb4) hE.out
        have hX':=Lib.hid hX
        obtain ⟨p0,p1,p2,p3,p4,f0,f1,f2,f3,f4⟩:=res5 hr3
        clear hX cS hb4 hwB
        go_wp2
        exact rep_fin rfl rfl hr3 ⟨_,rfl,hX'.out⟩
      have e11:((d:Int)==11)=false:=beq_false_of_ne (by omega)
      by_cases h0:d=0
      rotate_left
      · have e0:((d:Int)==0)=false:=beq_false_of_ne (by omega)
        have hE:=Lib.hid (show putB envP s.chg b (cmdD op bk nm dt mt nn tk ns pos)=(none,{ st:=403 }) from by rw [hput3'.out,if_neg h11,if_pos h0])
        clear hG3 h11 h0
        go_wp2_with fail
        go_at_call 18
        refine (cS 403 w3).mono ?_
        rintro e w4 ⟨rfl,hb4⟩
        obtain ⟨hr3,hX⟩:=hno'.out 403 w4 (below_then hb3'.out hb4) hE.out
        have hX':=Lib.hid hX
        obtain ⟨p0,p1,p2,p3,p4,f0,f1,f2,f3,f4⟩:=res5 hr3
        clear hX cS hb4 hwB
        go_wp2
        exact rep_fin rfl rfl hr3 ⟨_,rfl,hX'.out⟩
      subst h0
      have hput4:=hput3'.out
      rw [if_neg h11,if_neg (by simp)] at hput4
      clear e11 h11
      cases hh with
      | false =>
        have hE:=Lib.hid (show putB envP s.chg b (cmdD op bk nm dt mt nn tk ns pos)=(none,{ st:=412 }) from by rw [hput4];rfl)
        clear hG3 hput4
        go_wp2_with fail
        go_at_call 18
        refine (cS 412 w3).mono ?_
        rintro e w4 ⟨rfl,hb4⟩
        obtain ⟨hr3,hX⟩:=hno'.out 412 w4 (below_then hb3'.out hb4) hE.out
        have hX':=Lib.hid hX
        obtain ⟨p0,p1,p2,p3,p4,f0,f1,f2,f3,f4⟩:=res5 hr3
        clear hX cS hb4 hwB
        go_wp2
        exact rep_fin rfl rfl hr3 ⟨_,rfl,hX'.out⟩
      | true =>
        rw [if_neg (by simp)] at hput4
        obtain ⟨g6,g7,m3⟩:=hSS.out w3 hb3'.out
        have hL3:=fun ty=>m3.len Tryz.underlying89 ty
        rw [hlenC] at hL3
        clear m3
        by_cases hfull:ok=false/\256<=b.cards.length
        · have hE:=Lib.hid (show putB envP s.chg b (cmdD op bk nm dt mt nn tk ns pos)=(none,{ st:=507 }) from by rw [hput4];exact if_pos hfull)
          obtain ⟨hokf,h256⟩:=hfull
          subst hokf
          have hge:(256:Int)<=(b.cards.length:Int):=by omega
          clear hG3 hput4
          go_wp2_with fail
          go_at_call 18
          refine (cS 507 w3).mono ?_
          rintro e w4 ⟨rfl,hb4⟩
          obtain ⟨hr3,hX⟩:=hno'.out 507 w4 (below_then hb3'.out hb4) hE.out
          have hX':=Lib.hid hX
          obtain ⟨p0,p1,p2,p3,p4,f0,f1,f2,f3,f4⟩:=res5 hr3
          clear hX cS hb4 hwB
          go_wp2
          exact rep_fin rfl rfl hr3 ⟨_,rfl,hX'.out⟩
        · rw [if_neg hfull] at hput4
          have hE:outD s (putB envP s.chg b (cmdD op bk nm dt mt nn tk ns pos))=({ chg:=c1,books:=setBk s ({ noteB b ⟨c1,nm.data.toList,ok⟩ with cards:=putCards b nm.data.toList ⟨nm.data.toList,c1,normT dt.data.toList⟩ ok }) },{ st:=if ok=true then 204 else 201,tag:=c1 }):=by rw [hput4,<-hc1];rfl
          have hE':=Lib.hid hE
          clear hE hput4 hno'
          obtain ⟨w4,hw4,cN,hSd,w5,hrU,hk5,cT⟩:=hG3.out
          have hSd':=Lib.hid hSd
          have hk5':=Lib.hid hk5
          clear hSd hk5
          cases ok with
          | true =>
            go_wp2_with fail
            go_at_call 38
            refine cN.mono ?_
            rintro e w4' ⟨rfl,rfl⟩
            obtain ⟨r6,r7⟩:=hSd'.out w4' (Kp.refl _ _)
            clear cN hw4 g6 g7 hL3
            go_wp2_with fail
            go_region_held3 (fun W=>W.cell? ⟨p.c,2,none⟩=some (.map (some p.m))/\W.cell? ⟨w.heap.size,2,none⟩=some (.string nm))
              (refine hSd'.out _ ?_<;>first | exact Kp.refl _ _ | exact hk5'.out | exact ⟨rfl,rfl,rfl,Nat.le_refl _,fun _ _ _=>rfl⟩)
              (fail)
            all_goals
              obtain ⟨s6,s7⟩:=hSd'.out w5 hk5'.out
              clear hrU hSd' hk5' r6 r7
              go_wp2_with fail
              go_at_call 67
              refine cT.mono ?_
              rintro e w7 ⟨rfl,hr3,h7⟩
              have hX':=Lib.hid (h7 204)
              obtain ⟨p0,p1,p2,p3,p4,f0,f1,f2,f3,f4⟩:=res5 hr3
              clear cT h7 s6 s7 hwB
              go_wp2
              exact rep_fin rfl rfl hr3 ⟨_,rfl,by rw [hE'.out];exact hX'.out⟩
          | false =>
            have hlt:¬ (256:Int)<=(b.cards.length:Int):=by
              have:¬ 256<=b.cards.length:=fun h=>hfull ⟨rfl,h⟩
              omega
            clear hfull
            go_wp2_with fail
            go_at_call 38
            refine cN.mono ?_
            rintro e w4' ⟨rfl,rfl⟩
            obtain ⟨r6,r7⟩:=hSd'.out w4' (Kp.refl _ _)
            clear cN hw4 g6 g7 hL3
            go_wp2_with fail
            go_region_held3 (fun W=>W.cell? ⟨p.c,2,none⟩=some (.map (some p.m))/\W.cell? ⟨w.heap.size,2,none⟩=some (.string nm))
              (refine hSd'.out _ ?_<;>first | exact Kp.refl _ _ | exact hk5'.out | exact ⟨rfl,rfl,rfl,Nat.le_refl _,fun _ _ _=>rfl⟩)
              (fail)
            all_goals
              obtain ⟨s6,s7⟩:=hSd'.out w5 hk5'.out
              clear hrU hSd' hk5' r6 r7
              go_wp2_with fail
              go_at_call 67
              refine cT.mono ?_
              rintro e w7 ⟨rfl,hr3,h7⟩
              have hX':=Lib.hid (h7 201)
              obtain ⟨p0,p1,p2,p3,p4,f0,f1,f2,f3,f4⟩:=res5 hr3
              clear cT h7 s6 s7 hwB
              go_wp2
              exact rep_fin rfl rfl hr3 ⟨_,rfl,by rw [hE'.out];exact hX'.out⟩
end Go.Proofs.YtobfaibofhmpgaaGreatDoor.Bo
