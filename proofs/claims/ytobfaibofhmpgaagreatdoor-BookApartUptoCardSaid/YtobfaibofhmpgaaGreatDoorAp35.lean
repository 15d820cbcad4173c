import Derived.Test.YtobfaibofhmpgaaGreatDoorAp34
set_option linter.unusedVariables false
set_option maxHeartbeats 16000000
set_option maxRecDepth 100000
namespace Go.Proofs.YtobfaibofhmpgaaGreatDoor.Bo
open Go.Lib Go.RowKit
def TurnedS (wB w1:World) (sb:Nat) (p:Pl) (b':Bk):Prop:=∃ p',BkIs w1 b' p'/\p'.c=p.c/\(∀ k∈p'.fp,k∈p.fp\/wB.heap.size<=k)/\p'.fp.Nodup/\Kp (sb :: p.fp) wB w1
theorem Turned.s {wB w1:World} {sb:Nat} {p:Pl} {b':Bk} (h:Turned wB w1 p b'):TurnedS wB w1 sb p b':=by
  obtain ⟨p',h1,h2,h3,h4,h5,h6⟩:=h
  exact ⟨p',h1,h2,h4,h5,h6.mono fun k hk=>by
    unfold Pl.fp
    rcases List.mem_cons.1 hk with rfl | hk
    · simp
    · exact List.mem_cons_of_mem _ (List.mem_cons_of_mem _ (List.mem_cons_of_mem _ hk))⟩
theorem fin_turned {w wB w1 w2:World} {R:Nat} {sb bm:Nat} {L:Bks} {s:Sh} {b b':Bk} {p:Pl} {chg':Nat} (hB0:Below w.heap.size w wB) (hR:w.heap.size<=R) (hsB:R < wB.heap.size)
    (hres:wB.heap[R]?=some (.cells #[.int .i64 0,.int .i64 0,.string ⟨#[]⟩,.slice none 0 0,.string ⟨#[]⟩] 29 (0,0))) (h:ShIs w sb bm L s.chg) (hL:L.map Prod.fst=s.books) (hx:(b,p)∈L)
    (hs1:w1.heap[sb]?=some (.cells #[.int .i64 (chg':Int),.map (some bm)] 61 (0,0))) (hT:TurnedS wB w1 sb p b') (hn:b'.name=b.name) (hb2:Below w1.heap.size w1 w2) (st tag:Nat) :
    w2.heap[R]?=some (.cells #[.int .i64 0,.int .i64 0,.string ⟨#[]⟩,.slice none 0 0,.string ⟨#[]⟩] 29 (0,0))/\ShDid w (put5 w2 R (st:Int) (tag:Int) noS noE noS) sb bm L (repV (st:Int) (tag:Int) noS noE noS) ({ chg:=chg',books:=setBk s b' },{ st:=st,tag:=tag }):=by
  obtain ⟨p',h1,h2,h3,h4,h5⟩:=hT
  have hlts:=h.lt sb (by simp [fpS])
  have hltf:∀ k∈sb :: p.fp,k < w.heap.size:=fun k hk=>by
    rcases List.mem_cons.1 hk with rfl | hk
    · exact hlts
    · exact (h.bks _ hx).lt k hk
  have hr1:=(h5.block R hsB (fun hm=>by have:=hltf _ hm;omega)).trans hres
  have hr2:=(hb2.block R (Array.getElem?_eq_some_iff.1 hr1).1).trans hr1
  have hs2:=(hb2.block sb (Array.getElem?_eq_some_iff.1 hs1).1).trans hs1
  have hK:Kp (sb :: p.fp) w (put5 w2 R (st:Int) (tag:Int) noS noE noS):=(((Kp.of_below hB0).trans h5).belowThen hb2).put5 hR _ _ _ _ _
  have hBk:BkIs (put5 w2 R (st:Int) (tag:Int) noS noE noS) b' p':=(h1.heap fun k hk=>hb2.block k (h1.lt k hk)).heap fun k hk=>put5_block _ _ _ _ _ _ _ (fun e=>by
    rcases h3 k hk with hp | hp
    · have:=hltf k (List.mem_cons_of_mem _ hp);omega
    · omega)
  have hF:=h.setB (w':=put5 w2 R (st:Int) (tag:Int) noS noE noS) (chg':=chg') hx hK (by rw [put5_block _ _ _ _ _ _ _ (by omega)];exact hs2) hBk hn h2 (fun k hk=>by
    rcases h3 k hk with hp | hp
    · exact .inl hp
    · exact .inr (by omega)) h4
  refine ⟨hr2,⟨noE,rfl,World.ownsRow_nil _ _ _ 4⟩,setL L b' p',hF.1,setL_fst hL _ _,hK.mono fun k hk=>?_,hF.2,nilE⟩
  rcases List.mem_cons.1 hk with rfl | hk
  · simp [fpS]
  · exact mem_fpS hx hk
theorem trim_any (w:World) (sb bm:Nat) (L:Bks) (s:Sh) (b:Bk) (p:Pl) (z:Int) (h:ShIs w sb bm L s.chg) (hL:L.map Prod.fst=s.books) (hx:(b,p)∈L) (hO:BkOk s.chg b) (hz:-9223372036854775808<=z/\z<=9223372036854775807) (hchg:s.chg < 4611686018427387904) :
    Calls Tryz.prog 46 #[pv sb,pv p.c,.int .i64 z] w fun e w'=>∃ v,e=.returned v/\ShDid w w' sb bm L v ({ s with books:=setBk s (trimB b (min z s.chg).toNat) },{ st:=204 }):=by
  have hbk:=h.bks _ hx
  obtain ⟨wB,hwB⟩:∃ wB,w.alloc repO=wB:=⟨_,rfl⟩
  have hB0:Below w.heap.size w wB:=by rw [<-hwB];exact (Below.refl _ _).alloc (Nat.le_refl _) _
  have hsB:w.heap.size < wB.heap.size:=by rw [<-hwB];simp
  have hres:wB.heap[w.heap.size]?=some (.cells #[.int .i64 0,.int .i64 0,.string ⟨#[]⟩,.slice none 0 0,.string ⟨#[]⟩] 29 (0,0)):=by rw [<-hwB];exact heap_alloc_new w _
  have hlt:p.c < w.heap.size:=hbk.lt p.c (by simp [Pl.fp])
  have hlts:=h.lt sb (by simp [fpS])
  obtain ⟨a1,a2,a3,a4⟩:=h.apartB hx
  have hbkB:BkIs wB b p:=hbk.heap fun k hk=>hB0.block k (hbk.lt k hk)
  obtain ⟨_,y1,_,_,_⟩:=col4 hbk (W:=wB) (hB0.block p.c hlt)
  obtain ⟨x0,_,_⟩:=sh2 h.blk (W:=wB) (hB0.block sb hlts)
  obtain ⟨k,hk⟩:∃ k:Nat,(min z s.chg).toNat=k:=⟨_,rfl⟩
  have hmx:max (b.hor:Int) (min z (s.chg:Int))=((max b.hor k:Nat):Int):=by omega
  have htr:trimB b k={ b with hor:=max b.hor k,notes:=b.notes.filter fun n=>decide (max b.hor k < n.chg) }:=rfl
  have cR:=raise_any wB.drew b p (max b.hor k) (hbkB.heap fun k hk=>rfl) a4 (by have:=hO.few;omega)
  rw [<-htr] at cR
  rw [hk]
  have hfin:∀ w1 w2,Turned wB.drew w1 p (trimB b k)->Below w1.heap.size w1 w2->w2.heap[w.heap.size]?=some (.cells #[.int .i64 0,.int .i64 0,.string ⟨#[]⟩,.slice none 0 0,.string ⟨#[]⟩] 29 (0,0))/\ShDid w (put5 w2 w.heap.size 204 0 noS noE noS) sb bm L (repV 204 0 noS noE noS) ({ s with books:=setBk s (trimB b k) },{ st:=204 }):=fun w1 w2 hT hb=>by
    have hT2:TurnedS wB w1 sb p (trimB b k):=by
      obtain ⟨p',h1,h2,h3,h4,h5⟩:=Turned.s (sb:=sb) hT
      exact ⟨p',h1,h2,h3,h4,⟨h5.os,h5.tape,h5.output,h5.size,h5.block⟩⟩
    have hs1:w1.heap[sb]?=some (.cells #[.int .i64 (s.chg:Int),.map (some bm)] 61 (0,0)):=by
      obtain ⟨_,_,_,_,_,_,h6⟩:=hT
      refine (h6.block sb (by show sb < wB.heap.size;omega) ?_).trans ((hB0.block sb hlts).trans h.blk)
      intro hm
      unfold Pl.fp at a1
      simp only [List.mem_cons,not_or] at a1 hm
      rcases hm with e | hm
      · exact a1.1 e
      · exact a1.2.2 hm
    exact fin_turned hB0 (Nat.le_refl _) hsB hres h hL hx hs1 hT2 rfl hb 204 0
  have hfin':=Lib.hid hfin
  have cS:=fun W=>status_any 204 W
  clear hfin hbk hO h hL hx hres hbkB htr hB0
  go_enter Tryz.func46,Tryz.ntmps46
  go_wp2_with fail
  go_region_law (first | (go_simp;go_at_call 71;refine cR.mono ?_;rintro e w1 ⟨rfl,hT1⟩))
  all_goals
    go_wp2_with fail
    go_at_call 18
    refine (cS w1).mono ?_
    rintro e w2 ⟨rfl,hb2⟩
    obtain ⟨hr3,hX⟩:=hfin'.out w1 w2 hT1 hb2
    have hX':=Lib.hid hX
    obtain ⟨p0,p1,p2,p3,p4,f0,f1,f2,f3,f4⟩:=res5 hr3
    clear hX hT1 hb2 cS cR hwB
    go_wp2
    exact rep_fin rfl rfl hr3 ⟨_,rfl,hX'.out⟩
theorem cM_set {n:Row} {y:Leaf} (hy:y.name=n):∀ {C:List Leaf},(C.map (·.name)).Nodup->(∃ x∈C,x.name=n)->(putM (cM C) n (lv y)).Perm (cM (C.map fun x=>if x.name=n then y else x))
  | [],_,h=>by obtain ⟨x,hx,_⟩:=h;cases hx
  | x :: C,hn,h=>by
    rw [List.map_cons,List.nodup_cons] at hn
    by_cases hx:x.name=n
    · have hno:∀ z∈C,z.name≠n:=fun z hz e=>hn.1 (by rw [hx,<-e];exact List.mem_map_of_mem hz)
      have e1:(C.map fun z=>if z.name=n then y else z)=C:=by
        conv=>rhs;rw [<-List.map_id C]
        exact List.map_congr_left fun z hz=>if_neg (hno z hz)
      have e2:(cM C).filter (fun p=>decide (p.1≠n))=cM C:=List.filter_eq_self.2 fun p hp=>by
        obtain ⟨z,hz,rfl⟩:=List.mem_map.1 hp
        simpa using hno z hz
      rw [List.map_cons,if_pos hx,e1]
      show ((n,lv y) :: (cM (x :: C)).filter _).Perm ((y.name,lv y) :: cM C)
      rw [show cM (x :: C)=(x.name,lv x) :: cM C from rfl,List.filter_cons_of_neg (by simp [hx]),e2,hy]
    · have hC:∃ z∈C,z.name=n:=by
        obtain ⟨z,hz,hzn⟩:=h
        rcases List.mem_cons.1 hz with rfl | hz
        · exact absurd hzn hx
        · exact ⟨z,hz,hzn⟩
      have ih:=cM_set hy hn.2 hC
      rw [List.map_cons,if_neg hx]
      show ((n,lv y) :: (cM (x :: C)).filter _).Perm ((x.name,lv x) :: cM _)
      rw [show cM (x :: C)=(x.name,lv x) :: cM C from rfl,List.filter_cons_of_pos (by simpa using hx)]
      exact (List.Perm.swap _ _ _).trans (ih.cons _)
theorem cM_ins {n:Row} {y:Leaf} (hy:y.name=n) {C:List Leaf} (hno:∀ x∈C,x.name≠n):(putM (cM C) n (lv y)).Perm (cM (insBy (fun x=>x.name) y C)):=by
  have e2:(cM C).filter (fun p=>decide (p.1≠n))=cM C:=List.filter_eq_self.2 fun p hp=>by
    obtain ⟨z,hz,rfl⟩:=List.mem_map.1 hp
    simpa using hno z hz
  unfold putM
  rw [e2]
  have:=(insBy_perm (fun x:Leaf=>x.name) y C).map fun l=>(l.name,lv l)
  refine List.Perm.trans ?_ this.symm
  rw [List.map_cons,hy]
  exact List.Perm.refl _
theorem cM_del (C:List Leaf) (n:Row):delM (cM C) n=cM (C.filter fun x=>decide (x.name≠n)):=by
  unfold delM cM
  rw [List.filter_map]
  rfl
theorem noteB_with (b:Bk) (C:List Leaf) (n:Note):noteB { b with cards:=C } n={ noteB b n with cards:=C }:=by
  unfold noteB
  split<;>rfl
theorem look_leaf (b:Bk) (n:Row):(lookM (cM b.cards) n).getD (.agg #[.int .i64 0,.string ⟨#[]⟩])=.agg #[.int .i64 ((((lfAt b n).map (·.tag)).getD 0:Nat):Int),.string ⟨(((lfAt b n).map (·.text)).getD []).toArray⟩]/\(lookM (cM b.cards) n).isSome=(lfAt b n).isSome:=by
  rw [lookC,show (b.cards.find? fun l=>decide (l.name=n))=lfAt b n from rfl]
  cases lfAt b n<;>exact ⟨rfl,rfl⟩
abbrev cmdA (op:Int) (bk nm dt mt nn tk:ByteArray) (nv:Value) (pos ses sq:Int):Array Value:=#[.int .i64 op,.string bk,.string nm,.string dt,.string mt,.string nn,.string tk,nv,.int .i64 pos,.int .i64 ses,.int .i64 sq]
def cmdD (op:Int) (bk nm dt mt nn tk:ByteArray) (ns:List Row) (pos:Int):Cmd:=⟨op,bk.data.toList,nm.data.toList,dt.data.toList,mt.data.toList,nn.data.toList,tk.data.toList,ns,pos⟩
open Ca (Sorted Same)
theorem compN_mem {L1 L0:List Note} (hs:Sorted nameN L1) (hm:Same nameN L1 L0) {x:Note} (hx:x∈compN L1):x∈L0:=by
  have:=((compN_spec hs).2 x).1 hx
  have h1:=List.mem_of_find?_eq_some this
  have h2:=List.find?_some this
  have h3:x∈L1.filter (fun y=>decide (nameN y=x.name)):=List.mem_filter.2 ⟨h1,by show decide (x.name=x.name)=true;simp⟩
  rw [hm x.name] at h3
  exact (List.mem_filter.1 h3).1
theorem since_any (w:World) (b:Bk) (p:Pl) (at0 chg:Nat) (h:BkIs w b p) (hO:BkOk chg b) :
    Calls Tryz.prog 69 #[pv p.c,.int .i64 (at0:Int)] w fun e w'=>(∃ v,e=.returned v/\w'.ownsRow w.heap.size 38 4 v (since b at0).length (ec (since b at0)))/\Below w.heap.size w w':=by
  have hlt:p.c < w.heap.size:=h.lt p.c (by simp [Pl.fp])
  have cF:=firsts_any w p.j b.notes at0 b.notes.length h.jou rfl (by have:=hO.few;omega)
  obtain ⟨_,_,_,x3,_⟩:=col4 h (W:=w) rfl
  have hSS:Hid (∀ W,Below w.heap.size w W->W.cell? ⟨p.c,2,none⟩=some (.map (some p.m))/\MapIs Tryz.prog 9 W p.m (cM b.cards)):=Lib.hid fun W hW =>
    ⟨(col4 h (hW.block p.c hlt)).2.2.1,h.map.block (hW.block p.m h.map.lt)⟩
  have hsin:Hid (∀ L1,Sorted nameN L1->Same nameN L1 (b.notes.filter fun x=>decide (at0 < x.chg))->(compN L1).filterMap (entOf b)=since b at0/\∀ x∈compN L1,x.name.length<=64):=Lib.hid fun L1 h1 h2=>⟨since_eq h1 h2,fun x hx=>(hO.notes x (List.mem_filter.1 (compN_mem h1 h2 hx)).1).2.2⟩
  have hn64:b.notes.length<=64:=hO.few
  obtain ⟨pj,hpj⟩:∃ x,p.j=x:=⟨_,rfl⟩
  rw [hpj] at cF x3
  obtain ⟨S,hS⟩:∃ S,since b at0=S:=⟨_,rfl⟩
  rw [hS] at hsin ⊢
  clear h hO hpj hS
  go_enter Tryz.func69,Tryz.ntmps69
  go_wp2_with fail
  go_at_call 88
  refine cF.mono ?_
  rintro e w1 ⟨⟨v1,L1,n,rfl,s1,s2,s3,s4,hv1⟩,hb1⟩
  obtain ⟨hfm,hnm64⟩:=hsin.out L1 s1 s2
  obtain ⟨C,hC⟩:∃ C,compN L1=C:=⟨_,rfl⟩
  rw [hC] at hfm hnm64 s3 hv1
  obtain ⟨ao,cap,rfl⟩:=ownsRow_form hv1
  have hfm':=Lib.hid hfm
  have hnm64':=Lib.hid hnm64
  have hCn':=Lib.hid s3
  have hv1':=Lib.hid hv1
  have hb1':=Lib.hid hb1
  have hn64':n<=64:=by omega
  clear cF s1 s2 s3 hC hfm hnm64 hv1 hsin x3 hn64
  go_wp2
  go_loopw [5,17] (fun s5 s17 wr=>∃ k m:Nat,s17=.int .i64 (k:Int)/\k<=n/\m<=k/\Hid (((C.take k).filterMap (entOf b)).length=m/\wr.ownsRow w1.heap.size 38 4 s5 m (ec ((C.take k).filterMap (entOf b))))/\Below w1.heap.size w1 wr) (fun _ s17 wr=>n - (RowKit.intOf s17).toNat)
  case atStart=>exact ⟨0,0,rfl,Nat.zero_le _,Nat.le_refl _,Lib.hid ⟨rfl,World.ownsRow_nil _ _ _ 4⟩,Below.refl _ _⟩
  case round =>
    obtain ⟨k,m,rfl,hk,hmk,hR,hbw⟩:=hrel
    by_cases hlt2:k < n
    · obtain ⟨g,x,rfl,hx,c0,c1,c2⟩:=note_at (ownsRow_less (ownsRow_below hv1'.out hbw) (Nat.zero_le _)) hlt2
      obtain ⟨q1,q2⟩:=List.getElem?_eq_some_iff.1 hx
      have hfs:(C.take (k+1)).filterMap (entOf b)=(C.take k).filterMap (entOf b)++(entOf b x).toList:=by
        rw [List.take_succ_eq_append_getElem q1,q2,List.filterMap_append]
        cases hq2:entOf b x<;>simp [hq2]
      obtain ⟨sx,hsx⟩:∃ sx:ByteArray,(⟨x.name.toArray⟩:ByteArray)=sx:=⟨_,rfl⟩
      unfold sv at c1
      rw [hsx] at c1
      have hnm:sv x.name=.string sx:=by unfold sv;rw [hsx]
      have hxl:=hnm64'.out x (List.mem_of_getElem? hx)
      have hsd:sx.data.toList=x.name:=by rw [<-hsx]
      have hkey:=keyOf_str Tryz.underlying9 sx (by rw [Lib.size_eq,hsd];unfold maxLen;omega)
      rw [hsd] at hkey
      obtain ⟨wX,hwX⟩:∃ wX,wr.alloc (.cells #[.int .i64 (x.chg:Int),.string sx,.bool x.was] 113)=wX:=⟨_,rfl⟩
      have hbX:Below wr.heap.size wr wX:=by rw [<-hwX];exact (Below.refl _ _).alloc (Nat.le_refl _) _
      have hBX:=below_then hbw hbX
      have hXc:wX.heap[wr.heap.size]?=some (.cells #[.int .i64 (x.chg:Int),.string sx,.bool x.was] 113 (0,0)):=by rw [<-hwX];exact heap_alloc_new wr _
      have hsX:wX.heap.size=wr.heap.size+1:=by rw [<-hwX];simp
      obtain ⟨hlk,hsome⟩:=look_leaf b x.name
      obtain ⟨tg,htg⟩:∃ tg,((lfAt b x.name).map (·.tag)).getD 0=tg:=⟨_,rfl⟩
      obtain ⟨tx,htx⟩:∃ tx:ByteArray,(⟨(((lfAt b x.name).map (·.text)).getD []).toArray⟩:ByteArray)=tx:=⟨_,rfl⟩
      obtain ⟨ok,hok⟩:∃ ok,(lfAt b x.name).isSome=ok:=⟨_,rfl⟩
      rw [htg,htx] at hlk
      rw [hok] at hsome
      have hent:entOf b x=if ok=true then some ⟨x.name,tg,[],false⟩ else if x.was=true then some ⟨x.name,0,[],true⟩ else none:=by
        unfold entOf
        cases hl:lfAt b x.name with
        | none=>rw [hl] at hok;rw [<-hok];simp
        | some l=>rw [hl] at hok htg;rw [<-hok,<-htg];simp
      have hS2:Hid (∀ W,Below wX.heap.size wX W->W.cell? ⟨p.c,2,none⟩=some (.map (some p.m))/\W.cell? ⟨wr.heap.size,1,none⟩=some (.string sx)/\MapIs Tryz.prog 9 W p.m (cM b.cards)):=Lib.hid fun W hW=>by
        obtain ⟨z1,z2⟩:=hSS.out W (below_then hb1'.out (below_then hBX hW))
        exact ⟨z1,Lib.cell_of_heap ((hW.block _ (by omega)).trans hXc) 1,z2⟩
      have hrun:=(hS2.out wX.drew (Below.drew (Below.refl _ _))).2.2.look_ok keyed Tryz.underlying89 (zeroK _) hkey
      have hrun2:=(hS2.out (wX.alloc (.cells #[.int .i64 0,.string ⟨#[]⟩] 105)).drew (Below.drew ((Below.refl _ _).alloc (Nat.le_refl _) _))).2.2.look_ok keyed Tryz.underlying89 (zeroK _) hkey
      rw [hlk,hsome] at hrun hrun2
      obtain ⟨wK,hwK⟩:∃ wK,(wX.alloc (.cells #[.int .i64 (tg:Int),.string tx] 105)).drew=wK:=⟨_,rfl⟩
      have hbK:Below wX.heap.size wX wK:=by rw [<-hwK];exact Below.drew ((Below.refl _ _).alloc (Nat.le_refl _) _)
      have hKk:wK.heap[wX.heap.size]?=some (.cells #[.int .i64 (tg:Int),.string tx] 105 (0,0)):=by rw [<-hwK];exact heap_alloc_new wX _
      have hKx:=(hbK.block wr.heap.size (by omega)).trans hXc
      have k0:=Lib.cell_of_heap hKk 0
      rw [hsX] at k0
      have k1:=Lib.cell_of_heap hKx 1
      have k2:=Lib.cell_of_heap hKx 2
      have hBK:=below_then hBX hbK
      have hownK:=ownsRow_below hR.out.2 (below_then hbX hbK)
      have hlen:=hR.out.1
      have hszK:w1.heap.size<=wK.heap.size:=hBK.size
      have hszK2:wr.heap.size+2=wK.heap.size:=by rw [<-hwK];show _=(wX.alloc _).heap.size;simp;omega
      have hlen':=Lib.hid hlen
      have hownK':=Lib.hid hownK
      have hBK':=Lib.hid hBK
      have hfs':=Lib.hid hfs
      have hnm':=Lib.hid hnm
      have hent':=Lib.hid hent
      clear hR hbw hfs hx q1 q2 hsx hnm hbX hBX hXc hlk hsome htg htx hok hent hKk hKx hBK hownK hlen hxl hsd hkey
      go_wp2_with fail
      go_region_held3 (fun W=>Below wX.heap.size wX W/\W.cell? ⟨p.c,2,none⟩=some (.map (some p.m))/\W.cell? ⟨wr.heap.size,1,none⟩=some (.string sx))
        (refine (fun W (hW:Below wX.heap.size wX W)=>(⟨hW,(hS2.out W hW).1,(hS2.out W hW).2.1⟩:Below wX.heap.size wX W/\W.cell? ⟨p.c,2,none⟩=some (.map (some p.m))/\W.cell? ⟨wr.heap.size,1,none⟩=some (.string sx))) _ ?_<;>first | assumption | exact Below.drew (Below.refl _ _) | exact (Below.drew (Below.refl _ _)).alloc (Nat.le_refl _) _ | exact ((Below.drew (Below.refl _ _)).alloc (Nat.le_refl _) _).setCell (Nat.le_refl _) _)
        (fail)
      all_goals clear hrun hrun2
      all_goals
        cases ok
        · cases hxw:x.was
          · have hent:=hent'.out
            rw [if_neg (by simp),if_neg (by rw [hxw];simp)] at hent
            go_wp2
            go_roundw
            case rel=>exact ⟨k+1,m,by go_num,by omega,by omega,Lib.hid (by rw [hfs'.out,hent];exact ⟨by simp [hlen'.out],by simpa using hownK'.out⟩),hBK'.out⟩
            case measure=>simp [RowKit.intOf];omega
          · have hent:=hent'.out
            rw [if_neg (by simp),if_pos hxw] at hent
            go_wp2_with (first
              | (at_builtin;refine append_ent sx 0 ⟨#[]⟩ true rfl _ _ rfl w1.heap.size _ ((C.take k).filterMap (entOf b)) m hlen'.out ⟨x.name,0,[],true⟩ hnm'.out rfl rfl rfl _ (by first | rfl | exact hszK2) rfl rfl hownK'.out (by omega) hszK ?_;intro v5 w5 ho5 _ hA5 hg5)
              | fail)
            have ho6:=Lib.hid (show ((C.take (k+1)).filterMap (entOf b)).length=m+1/\w5.ownsRow w1.heap.size 38 4 v5 (m+1) (ec ((C.take (k+1)).filterMap (entOf b))) by rw [hfs'.out,hent];exact ⟨by simp [hlen'.out],ho5⟩)
            have hB6:=Lib.hid (hA5 w1 hBK'.out)
            clear ho5 hA5 hg5
            go_wp2
            go_roundw
            case rel=>exact ⟨k+1,m+1,by go_num,by omega,by omega,ho6,hB6.out⟩
            case measure=>simp [RowKit.intOf];omega
        · have hent:=hent'.out
          rw [if_pos rfl] at hent
          go_wp2_with (first
            | (at_builtin;refine append_ent sx (tg:Int) ⟨#[]⟩ false rfl _ _ rfl w1.heap.size _ ((C.take k).filterMap (entOf b)) m hlen'.out ⟨x.name,tg,[],false⟩ hnm'.out rfl rfl rfl _ (by first | rfl | exact hszK2) rfl rfl hownK'.out (by omega) hszK ?_;intro v5 w5 ho5 _ hA5 hg5)
            | fail)
          have ho6:=Lib.hid (show ((C.take (k+1)).filterMap (entOf b)).length=m+1/\w5.ownsRow w1.heap.size 38 4 v5 (m+1) (ec ((C.take (k+1)).filterMap (entOf b))) by rw [hfs'.out,hent];exact ⟨by simp [hlen'.out],ho5⟩)
          have hB6:=Lib.hid (hA5 w1 hBK'.out)
          clear ho5 hA5 hg5
          go_wp2
          go_roundw
          case rel=>exact ⟨k+1,m+1,by go_num,by omega,by omega,ho6,hB6.out⟩
          case measure=>simp [RowKit.intOf];omega
    · obtain rfl:k=n:=by omega
      have htk:(C.take k).filterMap (entOf b)=S:=by rw [List.take_of_length_le (by rw [hCn'.out];exact Nat.le_refl _)];exact hfm'.out
      obtain ⟨r1,r2⟩:=hR.out
      rw [htk] at r1 r2
      subst r1
      have r2':=Lib.hid r2
      have hbw':=Lib.hid hbw
      clear hR htk r2 hbw
      go_wp2
      refine ⟨rfl,_,?_,⟨_,rfl,ownsRow_less r2'.out (by have:=hb1'.out.size;omega)⟩,below_then hb1'.out hbw'.out⟩
      first | rfl | kernel_rfl | skip
theorem rep_put {w wB W:World} (hB0:Below w.heap.size w wB) (hsB:w.heap.size < wB.heap.size) (hbw:Below wB.heap.size wB W) {st tag:Int} {data tok:ByteArray} {ev:Value} {r:Rep} (h:RepIs wB.heap.size W (repV st tag data ev tok) r) :
    RepIs w.heap.size (put5 W w.heap.size st tag data ev tok) (repV st tag data ev tok) r/\Below w.heap.size w (put5 W w.heap.size st tag data ev tok):=by
  obtain ⟨ev',he,ho⟩:=h
  refine ⟨⟨ev',he,?_⟩,below_put5 (below_then hB0 hbw) (Nat.le_refl _) _ _ _ _ _⟩
  exact ownsRow_less (ownsRow_heap ho fun g hg=>put5_block _ _ _ _ _ _ _ (by have:=(ho.lt g hg).1;omega)) (by omega)
theorem below_drewN' {a w:World} {n:Nat} (h:Below (a.drewN n).heap.size (a.drewN n) w):Below a.heap.size a w:=⟨h.os,h.tape,h.output,h.size,h.block⟩
theorem sync_any (w0 w:World) (sb bm:Nat) (s:Sh) (b:Bk) (p:Pl) (tk:ByteArray) (c:Cmd) (hc:c.tok=tk.data.toList) (hG:Grd w0 w) (hs:w.heap[sb]?=some (.cells #[.int .i64 (s.chg:Int),.map (some bm)] 61 (0,0))) (h:BkIs w b p) (hO:BkOk s.chg b) (htk:tk.size<=140737488355328) (hchg:s.chg < 4611686018427387904) :
    Calls Tryz.prog 44 #[pv sb,pv p.c,.string tk] w fun e w'=>∃ v,e=.returned v/\RepIs w.heap.size w' v (syncB envP s b c)/\Below w.heap.size w w':=by
  obtain ⟨wB,hwB⟩:∃ wB,w.alloc repO=wB:=⟨_,rfl⟩
  have hB0:Below w.heap.size w wB:=by rw [<-hwB];exact (Below.refl _ _).alloc (Nat.le_refl _) _
  have hsB:w.heap.size < wB.heap.size:=by rw [<-hwB];simp
  have hres:wB.heap[w.heap.size]?=some (.cells #[.int .i64 0,.int .i64 0,.string ⟨#[]⟩,.slice none 0 0,.string ⟨#[]⟩] 29 (0,0)):=by rw [<-hwB];exact heap_alloc_new w _
  have hlts:sb < w.heap.size:=(Array.getElem?_eq_some_iff.1 hs).1
  have hbk:∀ W,Below w.heap.size w W->BkIs W b p:=fun W hW=>h.heap fun k hk=>hW.block k (h.lt k hk)
  have hltp:p.c < w.heap.size:=h.lt p.c (by simp [Pl.fp])
  have hgr:∀ W,Below w.heap.size w W->Grd w0 W:=fun W hW=>hG.below hW
  have hsh:∀ W,Below w.heap.size w W->W.heap[sb]?=some (.cells #[.int .i64 (s.chg:Int),.map (some bm)] 61 (0,0)):=fun W hW=>(hW.block sb hlts).trans hs
  by_cases ht:tk.data.toList=[]
  · have e1:tk.toList.isEmpty=true:=by rw [Lib.toList_data,ht];rfl
    have hans:syncB envP s b c=listB envP s b:=by unfold syncB;rw [hc,if_pos ht]
    rw [hans]
    have cL:=listed_any w0 wB sb bm s b p (hgr wB hB0) (hsh wB hB0) (hbk wB hB0) hO hchg
    clear hans hbk hgr hsh hG hO h hs ht
    go_enter Tryz.func44,Tryz.ntmps44
    go_wp2_with fail
    go_at_call 47
    refine cL.mono ?_
    rintro e w1 ⟨v,rfl,hr,hb1⟩
    obtain ⟨ev,rfl,ho⟩:=hr
    obtain ⟨ao,cap,rfl⟩:=ownsRow_form ho
    have hX:=Lib.hid (rep_put hB0 hsB hb1 (r:=listB envP s b) ⟨_,rfl,ho⟩)
    have hr3:=(hb1.block _ hsB).trans hres
    obtain ⟨p0,p1,p2,p3,p4,f0,f1,f2,f3,f4⟩:=res5 hr3
    clear ho hb1 cL hres hB0
    go_wp2
    exact rep_fin rfl rfl hr3 ⟨_,rfl,hX.out⟩
  · have e1:tk.toList.isEmpty=false:=by rw [Lib.toList_data,Bool.eq_false_iff];intro hq;exact ht (List.isEmpty_iff.1 hq)
    have cP:=To.parse_any tk wB htk
    have cS:∀ W,Calls Tryz.prog 18 #[.int .i64 403] W _:=fun W=>status_any 403 W
    have hsy:syncB envP s b c=match To.paT tk.data.toList with
      | none=>{ st:=403 }
      | some (m,k)=>if m=b.made/\b.hor<=k/\k<=s.chg then { st:=207,ents:=since b k,tok:=tokNow envP s b } else { st:=403 }:=by
      unfold syncB
      rw [hc,if_neg ht]
      rfl
    cases hpa:To.paT tk.data.toList with
    | none =>
      rw [hpa] at cP hsy
      rw [hsy]
      clear hbk hgr hsh hG hO h hs hsy hpa ht
      go_enter Tryz.func44,Tryz.ntmps44
      go_wp2_with fail
      go_at_call 10
      refine cP.mono ?_
      rintro e w1 ⟨rfl,hb1⟩
      unfold To.parE
      clear cP
      have hw2:Below wB.heap.size wB (w1.alloc (.cells #[.int .i64 0,.int .i64 0] 43)):=hb1.alloc hb1.size _
      go_wp2_with fail
      go_quiet (fail)
      go_wp2_with fail
      go_at_call 18
      refine (cS _).mono ?_
      rintro e w2 ⟨rfl,hb2⟩
      have hb2':=below_then hw2 (below_drewN' hb2)
      have hX:=Lib.hid (rep_put hB0 hsB hb2' (st:=((403:Nat):Int)) (tag:=((0:Nat):Int)) (r:={ st:=403 }) rep_st)
      have hr3:=(hb2'.block _ hsB).trans hres
      obtain ⟨p0,p1,p2,p3,p4,f0,f1,f2,f3,f4⟩:=res5 hr3
      clear hw2 hb2' hb2 hb1 hres hB0
      go_wp2
      exact rep_fin rfl rfl hr3 ⟨_,rfl,hX.out⟩
    | some mk =>
      obtain ⟨m,k⟩:=mk
      rw [hpa] at cP hsy
      have hsy:syncB envP s b c=if m=b.made/\b.hor<=k/\k<=s.chg then { st:=207,ents:=since b k,tok:=tokNow envP s b } else { st:=403 }:=hsy
      have hfi:To.fitsT (m:Int) (k:Int) (b.made:Int) (b.hor:Int) (s.chg:Int)=decide (m=b.made/\b.hor<=k/\k<=s.chg):=by
        unfold To.fitsT
        rw [Bool.eq_iff_iff]
        simp only [Bool.and_eq_true,decide_eq_true_eq]
        omega
      have cC:=fun W=>To.check_any (m:Int) (k:Int) (b.made:Int) (b.hor:Int) (s.chg:Int) W
      rw [hfi] at cC
      clear hpa hfi ht hs
      have hbk':=Lib.hid hbk
      have hgr':=Lib.hid hgr
      have hsh':=Lib.hid hsh
      have hcell:Hid (∀ W,Below w.heap.size w W->W.cell? ⟨p.c,0,none⟩=some (.int .i64 (b.made:Int))/\W.cell? ⟨p.c,1,none⟩=some (.int .i64 (b.hor:Int))/\W.cell? ⟨sb,0,none⟩=some (.int .i64 (s.chg:Int))):=Lib.hid fun W hW=>by
        obtain ⟨y0,y1,_⟩:=col4 h (W:=W) (hW.block p.c hltp)
        exact ⟨y0,y1,(sh2 (hsh W hW) (W:=W) rfl).1⟩
      have hB0':=Lib.hid hB0
      have hO':=Lib.hid hO
      have hG':=Lib.hid hG
      clear hbk hgr hsh h hO hG
      by_cases hq:m=b.made/\b.hor<=k/\k<=s.chg
      · rw [if_pos hq] at hsy
        rw [hsy]
        have cC:=fun W=>(show decide (m=b.made/\b.hor<=k/\k<=s.chg)=true from decide_eq_true hq)▸cC W
        clear hsy hq
        go_enter Tryz.func44,Tryz.ntmps44
        go_wp2_with fail
        go_at_call 10
        refine cP.mono ?_
        rintro e w1 ⟨rfl,hb1⟩
        have hkd:To.parE (some (m,k))=.returned (.tuple #[To.tokV (m:Int) (k:Int),.int .i64 0]):=rfl
        rw [hkd]
        clear hkd cP
        obtain ⟨wX,hwX⟩:∃ wX,w1.alloc (.cells #[.int .i64 (m:Int),.int .i64 (k:Int)] 43)=wX:=⟨_,rfl⟩
        have hbX:Below wB.heap.size wB wX:=by rw [<-hwX];exact hb1.alloc hb1.size _
        have hXc:wX.heap[w1.heap.size]?=some (.cells #[.int .i64 (m:Int),.int .i64 (k:Int)] 43 (0,0)):=by rw [<-hwX];exact heap_alloc_new w1 _
        have hXl:w1.heap.size < wX.heap.size:=by rw [<-hwX];simp
        have hS2:Hid (∀ W,Below wX.heap.size wX W->Below wX.heap.size wX W/\W.cell? ⟨w1.heap.size,0,none⟩=some (.int .i64 (m:Int))/\W.cell? ⟨w1.heap.size,1,none⟩=some (.int .i64 (k:Int))/\W.cell? ⟨p.c,0,none⟩=some (.int .i64 (b.made:Int))/\W.cell? ⟨p.c,1,none⟩=some (.int .i64 (b.hor:Int))/\W.cell? ⟨sb,0,none⟩=some (.int .i64 (s.chg:Int))):=Lib.hid fun W hW=>by
          have e1:=(hW.block _ hXl).trans hXc
          exact ⟨hW,Lib.cell_of_heap e1 0,Lib.cell_of_heap e1 1,hcell.out W (below_then hB0'.out (below_then hbX hW))⟩
        have hbX':=Lib.hid hbX
        clear hb1 hbX hXc hcell
        go_wp2_with fail
        go_region_held3 (fun W=>Below wX.heap.size wX W/\W.cell? ⟨w1.heap.size,0,none⟩=some (.int .i64 (m:Int))/\W.cell? ⟨w1.heap.size,1,none⟩=some (.int .i64 (k:Int))/\W.cell? ⟨p.c,0,none⟩=some (.int .i64 (b.made:Int))/\W.cell? ⟨p.c,1,none⟩=some (.int .i64 (b.hor:Int))/\W.cell? ⟨sb,0,none⟩=some (.int .i64 (s.chg:Int)))
          (refine hS2.out _ ?_<;>first | assumption | exact Below.drew (Below.refl _ _))
          (first | (go_at_call 68;(refine (cC _).mono ?_);rintro e wx ⟨rfl,hbx⟩;have hbx2:Below wX.heap.size wX wx:=below_undrew hbx))
        all_goals
          have hbx3:=below_then hbX'.out hbx2
          have cF:=since_any wx b p k s.chg (hbk'.out wx (below_then hB0'.out hbx3)) hO'.out
          have hwk:wx.cell? ⟨w1.heap.size,1,none⟩=some (.int .i64 (k:Int)):=(hS2.out wx hbx2).2.2.1
          go_wp2_with fail
          go_at_call 69
          refine cF.mono ?_
          rintro e w2 ⟨⟨v,rfl,ho⟩,hb2⟩
          have hb3:=below_then hbx3 hb2
          have cN:=now_any w0 w2 sb bm s b p (hgr'.out w2 (below_then hB0'.out hb3)) (hsh'.out w2 (below_then hB0'.out hb3)) (hbk'.out w2 (below_then hB0'.out hb3)) hO'.out.made hchg
          go_wp2_with fail
          go_at_call 70
          refine cN.mono ?_
          rintro e w3 ⟨rfl,hb4⟩
          unfold sv
          obtain ⟨tx,htx⟩:∃ tx:ByteArray,(⟨(tokNow envP s b).toArray⟩:ByteArray)=tx:=⟨_,rfl⟩
          rw [htx]
          have hb5:=below_then hb3 hb4
          have ho2:=ownsRow_less (ownsRow_below ho hb4) (show wB.heap.size<=wx.heap.size from hbx3.size)
          obtain ⟨ao,cap,rfl⟩:=ownsRow_form ho2
          have hX:=Lib.hid (rep_put hB0'.out hsB hb5 (st:=((207:Nat):Int)) (tag:=((0:Nat):Int)) (data:=noS) (tok:=tx) (r:={ st:=207,ents:=since b k,tok:=tokNow envP s b }) ⟨_,by rw [<-htx],ho2⟩)
          have hr3:=(hb5.block _ hsB).trans hres
          obtain ⟨p0,p1,p2,p3,p4,f0,f1,f2,f3,f4⟩:=res5 hr3
          clear hbx3 cF ho hb2 hb3 cN hb4 hb5 ho2
          go_wp2
          exact rep_fin rfl rfl hr3 ⟨_,rfl,hX.out⟩
      · rw [if_neg hq] at hsy
        rw [hsy]
        have cC:=fun W=>(show decide (m=b.made/\b.hor<=k/\k<=s.chg)=false from decide_eq_false hq)▸cC W
        clear hsy hq
        go_enter Tryz.func44,Tryz.ntmps44
        go_wp2_with fail
        go_at_call 10
        refine cP.mono ?_
        rintro e w1 ⟨rfl,hb1⟩
        have hkd:To.parE (some (m,k))=.returned (.tuple #[To.tokV (m:Int) (k:Int),.int .i64 0]):=rfl
        rw [hkd]
        clear hkd cP
        obtain ⟨wX,hwX⟩:∃ wX,w1.alloc (.cells #[.int .i64 (m:Int),.int .i64 (k:Int)] 43)=wX:=⟨_,rfl⟩
        have hbX:Below wB.heap.size wB wX:=by rw [<-hwX];exact hb1.alloc hb1.size _
        have hXc:wX.heap[w1.heap.size]?=some (.cells #[.int .i64 (m:Int),.int .i64 (k:Int)] 43 (0,0)):=by rw [<-hwX];exact heap_alloc_new w1 _
        have hXl:w1.heap.size < wX.heap.size:=by rw [<-hwX];simp
        have hS2:Hid (∀ W,Below wX.heap.size wX W->Below wX.heap.size wX W/\W.cell? ⟨w1.heap.size,0,none⟩=some (.int .i64 (m:Int))/\W.cell? ⟨w1.heap.size,1,none⟩=some (.int .i64 (k:Int))/\W.cell? ⟨p.c,0,none⟩=some (.int .i64 (b.made:Int))/\W.cell? ⟨p.c,1,none⟩=some (.int .i64 (b.hor:Int))/\W.cell? ⟨sb,0,none⟩=some (.int .i64 (s.chg:Int))):=Lib.hid fun W hW=>by
          have e1:=(hW.block _ hXl).trans hXc
          exact ⟨hW,Lib.cell_of_heap e1 0,Lib.cell_of_heap e1 1,hcell.out W (below_then hB0'.out (below_then hbX hW))⟩
        have hbX':=Lib.hid hbX
        clear hb1 hbX hXc hcell
        go_wp2_with fail
        go_region_held3 (fun W=>Below wX.heap.size wX W/\W.cell? ⟨w1.heap.size,0,none⟩=some (.int .i64 (m:Int))/\W.cell? ⟨w1.heap.size,1,none⟩=some (.int .i64 (k:Int))/\W.cell? ⟨p.c,0,none⟩=some (.int .i64 (b.made:Int))/\W.cell? ⟨p.c,1,none⟩=some (.int .i64 (b.hor:Int))/\W.cell? ⟨sb,0,none⟩=some (.int .i64 (s.chg:Int)))
          (refine hS2.out _ ?_<;>first | assumption | exact Below.drew (Below.refl _ _))
          (first | (go_at_call 68;(refine (cC _).mono ?_);rintro e wx ⟨rfl,hbx⟩;have hbx2:Below wX.heap.size wX wx:=below_undrew hbx))
        all_goals
          go_wp2_with fail
          go_at_call 18
          refine (cS _).mono ?_
          rintro e w2 ⟨rfl,hb2⟩
          have hb2':=below_then (below_then hbX'.out hbx2) hb2
          have hX:=Lib.hid (rep_put hB0'.out hsB hb2' (st:=((403:Nat):Int)) (tag:=((0:Nat):Int)) (r:={ st:=403 }) rep_st)
          have hr3:=(hb2'.block _ hsB).trans hres
          obtain ⟨p0,p1,p2,p3,p4,f0,f1,f2,f3,f4⟩:=res5 hr3
          clear hb2' hb2
          go_wp2
          exact rep_fin rfl rfl hr3 ⟨_,rfl,hX.out⟩
end Go.Proofs.YtobfaibofhmpgaaGreatDoor.Bo
