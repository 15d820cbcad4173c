import Derived.Test.YtobfaibofhmpgaaGreatDoorAp36
set_option linter.unusedVariables false
set_option maxHeartbeats 32000000
set_option maxRecDepth 100000
namespace Go.Proofs.YtobfaibofhmpgaaGreatDoor
namespace Bo
open Go.Lib Go.RowKit
theorem ShDid.asked {w w':World} {sb bm:Nat} {L:Bks} {s:Sh} {v:Value} {r:Rep} (h:ShIs w sb bm L s.chg) (hL:L.map Prod.fst=s.books) (hb:Below w.heap.size w w') (hr:RepIs w.heap.size w' v r):ShDid w w' sb bm L v (s,r):=by
  obtain ⟨ev,rfl,ho⟩:=hr
  refine ⟨⟨ev,rfl,ho⟩,L,h.kept hb,hL,Kp.of_below hb,fun k hk=>.inl hk,fun st tag data ev' tok e k hk hm=>?_⟩
  injection e with e
  simp only [Array.mk.injEq,List.cons.injEq] at e
  rw [<-e.2.2.2.1] at hk
  have:=(ho.lt k hk).1
  have:=h.lt k hm
  omega
theorem ShDid.outer {w wB w1:World} {sb bm R:Nat} {L:Bks} {chg:Nat} {st tag:Int} {data tok:ByteArray} {ev:Value} {o:Sh × Rep} (h:ShIs w sb bm L chg) (hB0:Below w.heap.size w wB) (hR:w.heap.size<=R) (hRB:R < wB.heap.size) (hd:ShDid wB w1 sb bm L (repV st tag data ev tok) o) :
    w1.heap[R]?=wB.heap[R]?/\ShDid w (put5 w1 R st tag data ev tok) sb bm L (repV st tag data ev tok) o:=by
  obtain ⟨⟨ev',he,ho⟩,L',h1,h2,h3,h4,h5⟩:=hd
  have hRf:R∉fpS sb bm L:=fun hm=>by have:=h.lt R hm;omega
  refine ⟨h3.block R hRB hRf,⟨ev',he,?_⟩,L',h1.heap fun k hk=>?_,h2,((Kp.of_below hB0).trans h3).put5 hR _ _ _ _ _,fun k hk=>?_,h5⟩
  · exact ownsRow_less (ownsRow_heap ho fun g hg=>put5_block _ _ _ _ _ _ _ (by have:=(ho.lt g hg).1;omega)) (by omega)
  · refine put5_block _ _ _ _ _ _ _ (fun e=>?_)
    rcases h4 k hk with hm | hm
    · exact hRf (e▸hm)
    · omega
  · rcases h4 k hk with hm | hm
    · exact .inl hm
    · exact .inr (by omega)
def withinD (s:Sh) (b:Bk) (c:Cmd):Sh × Rep :=
  if c.op=2 then dropC s b
  else if c.op=9 then ({ s with books:=setBk s (trimB b (min c.pos s.chg).toNat) },{ st:=204 })
  else outD s (onB envP s b c)
structure CmdOk (bk nm dt mt nn tk:ByteArray) (ns:List Row) (pos:Int):Prop where
  bk:bk.size<=140737488355328
  nm:nm.size<=140737488355328
  dt:dt.size<=1099511627776
  mt:mt.size<=1099511627776
  nn:nn.size<=1099511627776
  tk:tk.size<=140737488355328
  few:ns.length<=1099511627776
  each:∀ x∈ns,x.length<=140737488355328
  pos:-9223372036854775808<=pos/\pos<=9223372036854775807
theorem within_any (w0 w:World) (sb bm:Nat) (L:Bks) (s:Sh) (b:Bk) (p:Pl) (op:Int) (bk nm dt mt nn tk:ByteArray) (ns:List Row) (nv:Value) (hnv:Li.StrsAt w nv ns) (pos ses sq:Int) (hG:Grd w0 w) (h:ShIs w sb bm L s.chg) (hL:L.map Prod.fst=s.books) (hx:(b,p)∈L) (hb:bkAt s bk.data.toList=some b) (hO:BkOk s.chg b)
    (hC:CmdOk bk nm dt mt nn tk ns pos) (hop:2<=op/\op<=9) (hchg:s.chg < 4611686018427387904) :
    Calls Tryz.prog 21 #[pv sb,pv p.c,.agg (cmdA op bk nm dt mt nn tk nv pos ses sq)] w fun e w'=>∃ v,e=.returned v/\ShDid w w' sb bm L v (withinD s b (cmdD op bk nm dt mt nn tk ns pos)):=by
  have hnf:∃ A n c,nv=.slice A n c:=by
    obtain ⟨A,bl,off,cap,e,_⟩:=hnv
    exact ⟨_,_,_,e⟩
  obtain ⟨wB,hwB⟩:∃ wB,(w.alloc (.cells (cmdA op bk nm dt mt nn tk nv pos ses sq) 34)).alloc repO=wB:=⟨_,rfl⟩
  have hB0:Below w.heap.size w wB:=by rw [<-hwB];exact ((Below.refl _ _).alloc (Nat.le_refl _) _).alloc (by simp) _
  have hszB:wB.heap.size=w.heap.size+2:=by rw [<-hwB];simp
  have hres:wB.heap[w.heap.size+1]?=some (.cells #[.int .i64 0,.int .i64 0,.string ⟨#[]⟩,.slice none 0 0,.string ⟨#[]⟩] 29 (0,0)):=by
    rw [<-hwB]
    have:=heap_alloc_new (w.alloc (.cells (cmdA op bk nm dt mt nn tk nv pos ses sq) 34)) repO
    simpa using this
  have hcmd:wB.heap[w.heap.size]?=some (.cells (cmdA op bk nm dt mt nn tk nv pos ses sq) 34 (0,0)):=by
    rw [<-hwB,heap_alloc_old _ _ _ (by simp)]
    exact heap_alloc_new w _
  have hbk:=h.bks _ hx
  have hB:=h.kept hB0
  have hbB:=hB.bks _ hx
  have hsh:=hB.blk
  have hnB:Li.StrsAt wB nv ns:=hnv.kept hB0
  have hGB:=hG.below hB0
  -- what is left behind the callee
  have hfin:∀ (w1:World) (st tag:Int) (data tok:ByteArray) (ev:Value) (o:Sh × Rep),ShDid wB w1 sb bm L (repV st tag data ev tok) o->w1.heap[w.heap.size+1]?=some (.cells #[.int .i64 0,.int .i64 0,.string ⟨#[]⟩,.slice none 0 0,.string ⟨#[]⟩] 29 (0,0))/\ShDid w (put5 w1 (w.heap.size+1) st tag data ev tok) sb bm L (repV st tag data ev tok) o:=fun w1 st tag data tok ev o hd=>by
    obtain ⟨h1,h2⟩:=ShDid.outer h hB0 (Nat.le_succ _) (by omega) hd
    exact ⟨h1.trans hres,h2⟩
  have hform:∀ (w1:World) (v:Value) (o:Sh × Rep),ShDid wB w1 sb bm L v o->∃ st tag data ao n cap tok,v=repV st tag data (.slice ao n cap) tok:=fun w1 v o hd=>by
    obtain ⟨⟨ev,he,ho⟩,_⟩:=hd
    obtain ⟨ao,cap,rfl⟩:=ownsRow_form ho
    exact ⟨_,_,_,_,_,_,_,he⟩
  have hask:∀ (w1:World) (v:Value) (r:Rep),RepIs wB.heap.size w1 v r->Below wB.heap.size wB w1->ShDid wB w1 sb bm L v (s,r):=fun w1 v r hr hb1=>ShDid.asked hB hL hb1 hr
  obtain ⟨q0,q1,q2,q3,q4,q5,q6,q7,q8⟩:=cmd_cells hcmd
  have q9:wB.cell? ⟨w.heap.size,9,none⟩=some (.int .i64 ses):=Lib.cell_of_heap hcmd 9
  have q10:wB.cell? ⟨w.heap.size,10,none⟩=some (.int .i64 sq):=Lib.cell_of_heap hcmd 10
  obtain ⟨nA,n0,ncap,rfl⟩:=hnf
  have hfin':=Lib.hid hfin
  have hform':=Lib.hid hform
  have hh:op=2\/op=3\/op=4\/op=5\/op=6\/op=7\/op=8\/op=9:=by omega
  rcases hh with rfl | rfl | rfl | rfl | rfl | rfl | rfl | rfl
  · have cX:Calls Tryz.prog 40 #[pv sb,.string bk] wB fun e w'=>∃ v,e=.returned v/\ShDid wB w' sb bm L v (withinD s b (cmdD 2 bk nm dt mt nn tk ns pos)):=drop_any wB sb bm L s b bk hB hL hb (by have:=hC.bk;unfold maxLen;omega) hchg
    have cX':=Lib.hid cX
    clear cX hask hfin hform hnB hnv hG hGB h hB hbk hbB hL hO hx hb hop hC hres hcmd hsh hB0
    go_enter Tryz.func21,Tryz.ntmps21
    go_wp2_with fail
    go_at_call 40
    refine cX'.out.mono ?_
    rintro e w1 ⟨v,rfl,hd⟩
    obtain ⟨st,tag,data,ao,n1,cap,tok,rfl⟩:=hform'.out _ _ _ hd
    obtain ⟨hr3,hX⟩:=hfin'.out _ _ _ _ _ _ _ hd
    have hX':=Lib.hid hX
    obtain ⟨p0,p1,p2,p3,p4,f0,f1,f2,f3,f4⟩:=res5 hr3
    clear hX hd cX'
    go_wp2
    exact rep_fin rfl rfl hr3 ⟨_,rfl,hX'.out⟩
  · have cX:Calls Tryz.prog 41 #[pv sb,pv p.c,.agg (cmdA 3 bk nm dt mt nn tk (.slice nA n0 ncap) pos ses sq)] wB fun e w'=>∃ v,e=.returned v/\ShDid wB w' sb bm L v (withinD s b (cmdD 3 bk nm dt mt nn tk ns pos)):=put_any w0 wB sb bm L s b p 3 bk nm dt mt nn tk ns _ ⟨_,_,_,rfl⟩ pos ses sq hGB hB hL hx hO hC.nm hC.mt hC.nn hC.dt hchg
    have cX':=Lib.hid cX
    clear cX hask hfin hform hnB hnv hG hGB h hB hbk hbB hL hO hx hb hop hC hres hcmd hsh hB0
    go_enter Tryz.func21,Tryz.ntmps21
    go_wp2_with fail
    go_at_call 41
    refine cX'.out.mono ?_
    rintro e w1 ⟨v,rfl,hd⟩
    obtain ⟨st,tag,data,ao,n1,cap,tok,rfl⟩:=hform'.out _ _ _ hd
    obtain ⟨hr3,hX⟩:=hfin'.out _ _ _ _ _ _ _ hd
    have hX':=Lib.hid hX
    obtain ⟨p0,p1,p2,p3,p4,f0,f1,f2,f3,f4⟩:=res5 hr3
    clear hX hd cX'
    go_wp2
    exact rep_fin rfl rfl hr3 ⟨_,rfl,hX'.out⟩
  · have cX:Calls Tryz.prog 42 #[pv sb,pv p.c,.agg (cmdA 4 bk nm dt mt nn tk (.slice nA n0 ncap) pos ses sq)] wB fun e w'=>∃ v,e=.returned v/\ShDid wB w' sb bm L v (withinD s b (cmdD 4 bk nm dt mt nn tk ns pos)):=remove_any wB sb bm L s b p 4 bk nm dt mt nn tk ns _ ⟨_,_,_,rfl⟩ pos ses sq hB hL hx hO hC.nm hC.mt hC.nn hchg
    have cX':=Lib.hid cX
    clear cX hask hfin hform hnB hnv hG hGB h hB hbk hbB hL hO hx hb hop hC hres hcmd hsh hB0
    go_enter Tryz.func21,Tryz.ntmps21
    go_wp2_with fail
    go_at_call 42
    refine cX'.out.mono ?_
    rintro e w1 ⟨v,rfl,hd⟩
    obtain ⟨st,tag,data,ao,n1,cap,tok,rfl⟩:=hform'.out _ _ _ hd
    obtain ⟨hr3,hX⟩:=hfin'.out _ _ _ _ _ _ _ hd
    have hX':=Lib.hid hX
    obtain ⟨p0,p1,p2,p3,p4,f0,f1,f2,f3,f4⟩:=res5 hr3
    clear hX hd cX'
    go_wp2
    exact rep_fin rfl rfl hr3 ⟨_,rfl,hX'.out⟩
  · have cX:Calls Tryz.prog 43 #[pv p.c,.string nm] wB fun e w'=>∃ v,e=.returned v/\ShDid wB w' sb bm L v (withinD s b (cmdD 5 bk nm dt mt nn tk ns pos)):=by
      refine (get_any wB b p nm hbB (by have:=hC.nm;unfold maxLen;omega)).mono ?_
      rintro e w' ⟨rfl,hb1⟩
      refine ⟨_,rfl,hask _ _ _ ?_ hb1⟩
      show RepIs _ _ _ (match lfAt b nm.data.toList with | some l=>{ st:=200,tag:=l.tag,data:=l.text } | none=>{ st:=404 })
      cases lfAt b nm.data.toList with
      | none=>exact ⟨noE,rfl,World.ownsRow_nil _ _ _ 4⟩
      | some l=>exact ⟨noE,rfl,World.ownsRow_nil _ _ _ 4⟩
    have cX':=Lib.hid cX
    clear cX hask hfin hform hnB hnv hG hGB h hB hbk hbB hL hO hx hb hop hC hres hcmd hsh hB0
    go_enter Tryz.func21,Tryz.ntmps21
    go_wp2_with fail
    go_at_call 43
    refine cX'.out.mono ?_
    rintro e w1 ⟨v,rfl,hd⟩
    obtain ⟨st,tag,data,ao,n1,cap,tok,rfl⟩:=hform'.out _ _ _ hd
    obtain ⟨hr3,hX⟩:=hfin'.out _ _ _ _ _ _ _ hd
    have hX':=Lib.hid hX
    obtain ⟨p0,p1,p2,p3,p4,f0,f1,f2,f3,f4⟩:=res5 hr3
    clear hX hd cX'
    go_wp2
    exact rep_fin rfl rfl hr3 ⟨_,rfl,hX'.out⟩
  · have cX:Calls Tryz.prog 47 #[pv sb,pv p.c] wB fun e w'=>∃ v,e=.returned v/\ShDid wB w' sb bm L v (withinD s b (cmdD 6 bk nm dt mt nn tk ns pos)):=by
      refine (listed_any w0 wB sb bm s b p hGB hsh hbB hO hchg).mono ?_
      rintro e w' ⟨v,rfl,hr,hb1⟩
      exact ⟨v,rfl,hask _ _ _ hr hb1⟩
    have cX':=Lib.hid cX
    clear cX hask hfin hform hnB hnv hG hGB h hB hbk hbB hL hO hx hb hop hC hres hcmd hsh hB0
    go_enter Tryz.func21,Tryz.ntmps21
    go_wp2_with fail
    go_at_call 47
    refine cX'.out.mono ?_
    rintro e w1 ⟨v,rfl,hd⟩
    obtain ⟨st,tag,data,ao,n1,cap,tok,rfl⟩:=hform'.out _ _ _ hd
    obtain ⟨hr3,hX⟩:=hfin'.out _ _ _ _ _ _ _ hd
    have hX':=Lib.hid hX
    obtain ⟨p0,p1,p2,p3,p4,f0,f1,f2,f3,f4⟩:=res5 hr3
    clear hX hd cX'
    go_wp2
    exact rep_fin rfl rfl hr3 ⟨_,rfl,hX'.out⟩
  · have cX:Calls Tryz.prog 44 #[pv sb,pv p.c,.string tk] wB fun e w'=>∃ v,e=.returned v/\ShDid wB w' sb bm L v (withinD s b (cmdD 7 bk nm dt mt nn tk ns pos)):=by
      refine (sync_any w0 wB sb bm s b p tk (cmdD 7 bk nm dt mt nn tk ns pos) rfl hGB hsh hbB hO hC.tk hchg).mono ?_
      rintro e w' ⟨v,rfl,hr,hb1⟩
      exact ⟨v,rfl,hask _ _ _ hr hb1⟩
    have cX':=Lib.hid cX
    clear cX hask hfin hform hnB hnv hG hGB h hB hbk hbB hL hO hx hb hop hC hres hcmd hsh hB0
    go_enter Tryz.func21,Tryz.ntmps21
    go_wp2_with fail
    go_at_call 44
    refine cX'.out.mono ?_
    rintro e w1 ⟨v,rfl,hd⟩
    obtain ⟨st,tag,data,ao,n1,cap,tok,rfl⟩:=hform'.out _ _ _ hd
    obtain ⟨hr3,hX⟩:=hfin'.out _ _ _ _ _ _ _ hd
    have hX':=Lib.hid hX
    obtain ⟨p0,p1,p2,p3,p4,f0,f1,f2,f3,f4⟩:=res5 hr3
    clear hX hd cX'
    go_wp2
    exact rep_fin rfl rfl hr3 ⟨_,rfl,hX'.out⟩
  · have cX:Calls Tryz.prog 45 #[pv p.c,.slice nA n0 ncap] wB fun e w'=>∃ v,e=.returned v/\ShDid wB w' sb bm L v (withinD s b (cmdD 8 bk nm dt mt nn tk ns pos)):=by
      refine (multi_any wB b p _ ns hbB ⟨_,hO⟩ hnB hC.each hC.few).mono ?_
      rintro e w' ⟨v,rfl,hr,hb1⟩
      exact ⟨v,rfl,hask _ _ _ hr hb1⟩
    have cX':=Lib.hid cX
    clear cX hask hfin hform hnB hnv hG hGB h hB hbk hbB hL hO hx hb hop hC hres hcmd hsh hB0
    go_enter Tryz.func21,Tryz.ntmps21
    go_wp2_with fail
    go_at_call 45
    refine cX'.out.mono ?_
    rintro e w1 ⟨v,rfl,hd⟩
    obtain ⟨st,tag,data,ao,n1,cap,tok,rfl⟩:=hform'.out _ _ _ hd
    obtain ⟨hr3,hX⟩:=hfin'.out _ _ _ _ _ _ _ hd
    have hX':=Lib.hid hX
    obtain ⟨p0,p1,p2,p3,p4,f0,f1,f2,f3,f4⟩:=res5 hr3
    clear hX hd cX'
    go_wp2
    exact rep_fin rfl rfl hr3 ⟨_,rfl,hX'.out⟩
  · have cX:Calls Tryz.prog 46 #[pv sb,pv p.c,.int .i64 pos] wB fun e w'=>∃ v,e=.returned v/\ShDid wB w' sb bm L v (withinD s b (cmdD 9 bk nm dt mt nn tk ns pos)):=trim_any wB sb bm L s b p pos hB hL hx hO hC.pos hchg
    have cX':=Lib.hid cX
    clear cX hask hfin hform hnB hnv hG hGB h hB hbk hbB hL hO hx hb hop hC hres hcmd hsh hB0
    go_enter Tryz.func21,Tryz.ntmps21
    go_wp2_with fail
    go_at_call 46
    refine cX'.out.mono ?_
    rintro e w1 ⟨v,rfl,hd⟩
    obtain ⟨st,tag,data,ao,n1,cap,tok,rfl⟩:=hform'.out _ _ _ hd
    obtain ⟨hr3,hX⟩:=hfin'.out _ _ _ _ _ _ _ hd
    have hX':=Lib.hid hX
    obtain ⟨p0,p1,p2,p3,p4,f0,f1,f2,f3,f4⟩:=res5 hr3
    clear hX hd cX'
    go_wp2
    exact rep_fin rfl rfl hr3 ⟨_,rfl,hX'.out⟩
theorem doC_in {s:Sh} {c:Cmd} (h2:2<=c.op/\c.op<=9) (h3:¬ (c.op=6/\c.book=[])):doC envP s c=match bkAt s c.book with
    | none=>(s,{ st:=if c.op=3 then 409 else 404 })
    | some b=>withinD s b c:=by
  unfold doC
  rw [if_neg (by omega),if_neg (by omega),if_neg h3]
  cases bkAt s c.book with
  | none=>rfl
  | some b =>
    show (if c.op=2 then dropC s b else if c.op=9 then _ else _)=withinD s b c
    unfold withinD
    split
    · rfl
    · split
      · rfl
      · generalize onB envP s b c=o
        rcases o with ⟨_ | b',r⟩<;>rfl
theorem doC_bad {s:Sh} {c:Cmd} (h:c.op < 1\/9 < c.op):doC envP s c=(s,{ st:=400 }):=by
  unfold doC
  rw [if_neg (by omega),if_pos (by omega)]
theorem doC_list {s:Sh} {c:Cmd} (h:c.op=6) (hb:c.book=[]):doC envP s c=(s,{ st:=207,ents:=s.books.map fun b=>⟨b.name,b.made,[],false⟩ }):=by
  unfold doC
  rw [if_neg (by omega),if_neg (by omega),if_pos ⟨h,hb⟩]
theorem do_any (w0 w:World) (sb bm:Nat) (L:Bks) (s:Sh) (op:Int) (bk nm dt mt nn tk:ByteArray) (ns:List Row) (nv:Value) (hnv:Li.StrsAt w nv ns) (pos ses sq:Int) (hG:Grd w0 w) (h:ShIs w sb bm L s.chg) (hL:L.map Prod.fst=s.books) (hO:ShOk s)
    (hC:CmdOk bk nm dt mt nn tk ns pos) (hchg:s.chg < 4611686018427387904) :
    Calls Tryz.prog 9 #[pv sb,.agg (cmdA op bk nm dt mt nn tk nv pos ses sq)] w fun e w'=>∃ v,e=.returned v/\ShDid w w' sb bm L v (doC envP s (cmdD op bk nm dt mt nn tk ns pos)):=by
  have hnf:∃ A n c,nv=.slice A n c:=by
    obtain ⟨A,bl,off,cap,e,_⟩:=hnv
    exact ⟨_,_,_,e⟩
  obtain ⟨wB,hwB⟩:∃ wB,(w.alloc (.cells (cmdA op bk nm dt mt nn tk nv pos ses sq) 34)).alloc repO=wB:=⟨_,rfl⟩
  have hB0:Below w.heap.size w wB:=by rw [<-hwB];exact ((Below.refl _ _).alloc (Nat.le_refl _) _).alloc (by simp) _
  have hszB:wB.heap.size=w.heap.size+2:=by rw [<-hwB];simp
  have hres:wB.heap[w.heap.size+1]?=some (.cells #[.int .i64 0,.int .i64 0,.string ⟨#[]⟩,.slice none 0 0,.string ⟨#[]⟩] 29 (0,0)):=by
    rw [<-hwB]
    have:=heap_alloc_new (w.alloc (.cells (cmdA op bk nm dt mt nn tk nv pos ses sq) 34)) repO
    simpa using this
  have hcmd:wB.heap[w.heap.size]?=some (.cells (cmdA op bk nm dt mt nn tk nv pos ses sq) 34 (0,0)):=by
    rw [<-hwB,heap_alloc_old _ _ _ (by simp)]
    exact heap_alloc_new w _
  obtain ⟨wD,hwD⟩:∃ wD,wB.drew=wD:=⟨_,rfl⟩
  have hBD:Below wB.heap.size wB wD:=by rw [<-hwD];exact Below.drew (Below.refl _ _)
  have hBD0:=below_then hB0 hBD
  have hszD:wD.heap.size=w.heap.size+2:=by rw [<-hwD];exact hszB
  have hB:=h.kept hBD0
  have hGB:=hG.below hBD0
  have hnB:Li.StrsAt wD nv ns:=hnv.kept hBD0
  have hlts:=h.lt sb (by simp [fpS])
  have hltm:=h.lt bm (by simp [fpS])
  have hfin:∀ (w1:World) (st tag:Int) (data tok:ByteArray) (ev:Value) (o:Sh × Rep),ShDid wD w1 sb bm L (repV st tag data ev tok) o->w1.heap[w.heap.size+1]?=some (.cells #[.int .i64 0,.int .i64 0,.string ⟨#[]⟩,.slice none 0 0,.string ⟨#[]⟩] 29 (0,0))/\ShDid w (put5 w1 (w.heap.size+1) st tag data ev tok) sb bm L (repV st tag data ev tok) o:=fun w1 st tag data tok ev o hd=>by
    obtain ⟨h1,h2⟩:=ShDid.outer h hBD0 (Nat.le_succ _) (by omega) hd
    exact ⟨h1.trans ((hBD.block _ (by omega)).trans hres),h2⟩
  have hform:∀ (w1:World) (v:Value) (o:Sh × Rep),ShDid wD w1 sb bm L v o->∃ st tag data ao n cap tok,v=repV st tag data (.slice ao n cap) tok:=fun w1 v o hd=>by
    obtain ⟨⟨ev,he,ho⟩,_⟩:=hd
    obtain ⟨ao,cap,rfl⟩:=ownsRow_form ho
    exact ⟨_,_,_,_,_,_,_,he⟩
  have hask:∀ (w1:World) (v:Value) (r:Rep),RepIs wD.heap.size w1 v r->Below wD.heap.size wD w1->ShDid wD w1 sb bm L v (s,r):=fun w1 v r hr hb1=>ShDid.asked hB hL hb1 hr
  have hstat:∀ (n:Nat) (x:Int),x=(n:Int)->Calls Tryz.prog 18 #[.int .i64 x] wD fun e w'=>∃ v,e=.returned v/\ShDid wD w' sb bm L v (s,{ st:=n }):=fun n x hn=>by
    subst hn
    refine (status_any _ wD).mono ?_
    rintro e w' ⟨rfl,hb1⟩
    exact ⟨_,rfl,ShDid.same hB hL hb1⟩
  obtain ⟨q0,q1,q2,q3,q4,q5,q6,q7,q8⟩:=cmd_cells ((hBD.block _ (by omega)).trans hcmd)
  have q9:wD.cell? ⟨w.heap.size,9,none⟩=some (.int .i64 ses):=Lib.cell_of_heap ((hBD.block _ (by omega)).trans hcmd) 9
  have q10:wD.cell? ⟨w.heap.size,10,none⟩=some (.int .i64 sq):=Lib.cell_of_heap ((hBD.block _ (by omega)).trans hcmd) 10
  have hSS:Hid (∀ W,Below wB.heap.size wB W->Below wB.heap.size wB W/\W.cell? ⟨sb,1,none⟩=some (.map (some bm))/\W.cell? ⟨w.heap.size,1,none⟩=some (.string bk)):=Lib.hid fun W hW =>
    ⟨hW,(sh2 h.blk ((below_then hB0 hW).block sb hlts)).2.1,(cmd_cells ((hW.block _ (by omega)).trans hcmd)).2.1⟩
  have hkey:=keyOf_str Tryz.underlying9 bk (by have:=hC.bk;unfold maxLen;omega)
  have hrun:=(h.map.block (w':=wB.drew) ((hB0.block bm hltm))).look keyed Tryz.underlying59 (zeroC _) hkey
  rw [atL_look,hwD] at hrun
  have hbA:=atL_bk hL bk.data.toList
  obtain ⟨nA,n0,ncap,rfl⟩:=hnf
  have hfin':=Lib.hid hfin
  have hform':=Lib.hid hform
  have hsb1:=hB.blk
  by_cases hlo:op < 1
  · obtain ⟨u,hu⟩:∃ u,((atL L bk.data.toList).map fun x=>pv x.2.c).getD (.pointer none)=u:=⟨_,rfl⟩
    rw [hu] at hrun
    have hd:doC envP s (cmdD op bk nm dt mt nn tk ns pos)=(s,{ st:=400 }):=doC_bad (.inl hlo)
    rw [hd]
    have hlo':decide (op < 1)=true:=decide_eq_true hlo
    have cX:=hstat 400 400 rfl
    clear hd hu hbA
    have cX':=Lib.hid cX
    clear cX hask hfin hform hstat hnB hnv hG hGB h hB hL hO hC hres hcmd hB0 hBD0 hlts hltm hkey hsb1
    go_enter Tryz.func9,Tryz.ntmps9
    go_wp2_with fail
    go_region_held3 (fun W=>Below wB.heap.size wB W/\W.cell? ⟨sb,1,none⟩=some (.map (some bm))/\W.cell? ⟨w.heap.size,1,none⟩=some (.string bk))
      (refine hSS.out _ ?_<;>first | assumption | exact Below.drew (Below.refl _ _))
      (fail)
    all_goals
      clear hrun
      go_wp2_with fail
      go_at_call 18
      refine cX'.out.mono ?_
      rintro e w1 ⟨v,rfl,hd⟩
      obtain ⟨st,tag,data,ao,n1,cap,tok,rfl⟩:=hform'.out _ _ _ hd
      obtain ⟨hr3,hX⟩:=hfin'.out _ _ _ _ _ _ _ hd
      have hX':=Lib.hid hX
      obtain ⟨p0,p1,p2,p3,p4,f0,f1,f2,f3,f4⟩:=res5 hr3
      clear hX hd cX'
      go_wp2
      exact rep_fin rfl rfl hr3 ⟨_,rfl,hX'.out⟩
  by_cases hhi:9 < op
  · obtain ⟨u,hu⟩:∃ u,((atL L bk.data.toList).map fun x=>pv x.2.c).getD (.pointer none)=u:=⟨_,rfl⟩
    rw [hu] at hrun
    have hd:doC envP s (cmdD op bk nm dt mt nn tk ns pos)=(s,{ st:=400 }):=doC_bad (.inr hhi)
    rw [hd]
    have hlo':decide (op < 1)=false:=decide_eq_false hlo
    have hhi':decide (9 < op)=true:=decide_eq_true hhi
    have cX:=hstat 400 400 rfl
    clear hd hu hbA
    have cX':=Lib.hid cX
    clear cX hask hfin hform hstat hnB hnv hG hGB h hB hL hO hC hres hcmd hB0 hBD0 hlts hltm hkey hsb1
    go_enter Tryz.func9,Tryz.ntmps9
    go_wp2_with fail
    go_region_held3 (fun W=>Below wB.heap.size wB W/\W.cell? ⟨sb,1,none⟩=some (.map (some bm))/\W.cell? ⟨w.heap.size,1,none⟩=some (.string bk))
      (refine hSS.out _ ?_<;>first | assumption | exact Below.drew (Below.refl _ _))
      (fail)
    all_goals
      clear hrun
      go_wp2_with fail
      go_at_call 18
      refine cX'.out.mono ?_
      rintro e w1 ⟨v,rfl,hd⟩
      obtain ⟨st,tag,data,ao,n1,cap,tok,rfl⟩:=hform'.out _ _ _ hd
      obtain ⟨hr3,hX⟩:=hfin'.out _ _ _ _ _ _ _ hd
      have hX':=Lib.hid hX
      obtain ⟨p0,p1,p2,p3,p4,f0,f1,f2,f3,f4⟩:=res5 hr3
      clear hX hd cX'
      go_wp2
      exact rep_fin rfl rfl hr3 ⟨_,rfl,hX'.out⟩
  by_cases h1:op=1
  · subst h1
    obtain ⟨u,hu⟩:∃ u,((atL L bk.data.toList).map fun x=>pv x.2.c).getD (.pointer none)=u:=⟨_,rfl⟩
    rw [hu] at hrun
    have cX:Calls Tryz.prog 19 #[pv sb,.string bk] wD fun e w'=>∃ v,e=.returned v/\ShDid wD w' sb bm L v (doC envP s (cmdD 1 bk nm dt mt nn tk ns pos)):=create_any w0 wD sb bm L s bk hGB hB hL hO hC.bk hchg
    clear hu hbA hlo hhi
    have cX':=Lib.hid cX
    clear cX hask hfin hform hstat hnB hnv hG hGB h hB hL hO hC hres hcmd hB0 hBD0 hlts hltm hkey hsb1
    go_enter Tryz.func9,Tryz.ntmps9
    go_wp2_with fail
    go_region_held3 (fun W=>Below wB.heap.size wB W/\W.cell? ⟨sb,1,none⟩=some (.map (some bm))/\W.cell? ⟨w.heap.size,1,none⟩=some (.string bk))
      (refine hSS.out _ ?_<;>first | assumption | exact Below.drew (Below.refl _ _))
      (fail)
    all_goals
      clear hrun
      go_wp2_with fail
      go_at_call 19
      refine cX'.out.mono ?_
      rintro e w1 ⟨v,rfl,hd⟩
      obtain ⟨st,tag,data,ao,n1,cap,tok,rfl⟩:=hform'.out _ _ _ hd
      obtain ⟨hr3,hX⟩:=hfin'.out _ _ _ _ _ _ _ hd
      have hX':=Lib.hid hX
      obtain ⟨p0,p1,p2,p3,p4,f0,f1,f2,f3,f4⟩:=res5 hr3
      clear hX hd cX'
      go_wp2
      exact rep_fin rfl rfl hr3 ⟨_,rfl,hX'.out⟩
  by_cases h6:op=6/\bk.data.toList=[]
  · obtain ⟨rfl,hb0⟩:=h6
    obtain ⟨u,hu⟩:∃ u,((atL L bk.data.toList).map fun x=>pv x.2.c).getD (.pointer none)=u:=⟨_,rfl⟩
    rw [hu] at hrun
    have hE:bk.toList.isEmpty=true:=by rw [Lib.toList_data,hb0];rfl
    have hd:doC envP s (cmdD 6 bk nm dt mt nn tk ns pos)=(s,{ st:=207,ents:=s.books.map fun b=>⟨b.name,b.made,[],false⟩ }):=doC_list rfl hb0
    rw [hd]
    have cX:Calls Tryz.prog 20 #[pv sb] wD fun e w'=>∃ v,e=.returned v/\ShDid wD w' sb bm L v (s,{ st:=207,ents:=s.books.map fun b=>⟨b.name,b.made,[],false⟩ }):=by
      refine (list_any wD sb bm L s hB hL hO).mono ?_
      rintro e w' ⟨v,rfl,hr,hb1⟩
      exact ⟨v,rfl,hask _ _ _ hr hb1⟩
    clear hd hu hbA hlo hhi hb0 h1
    have cX':=Lib.hid cX
    clear cX hask hfin hform hstat hnB hnv hG hGB h hB hL hO hC hres hcmd hB0 hBD0 hlts hltm hkey hsb1
    go_enter Tryz.func9,Tryz.ntmps9
    go_wp2_with fail
    go_region_held3 (fun W=>Below wB.heap.size wB W/\W.cell? ⟨sb,1,none⟩=some (.map (some bm))/\W.cell? ⟨w.heap.size,1,none⟩=some (.string bk))
      (refine hSS.out _ ?_<;>first | assumption | exact Below.drew (Below.refl _ _))
      (fail)
    all_goals
      clear hrun
      go_wp2_with fail
      go_at_call 20
      refine cX'.out.mono ?_
      rintro e w1 ⟨v,rfl,hd⟩
      obtain ⟨st,tag,data,ao,n1,cap,tok,rfl⟩:=hform'.out _ _ _ hd
      obtain ⟨hr3,hX⟩:=hfin'.out _ _ _ _ _ _ _ hd
      have hX':=Lib.hid hX
      obtain ⟨p0,p1,p2,p3,p4,f0,f1,f2,f3,f4⟩:=res5 hr3
      clear hX hd cX'
      go_wp2
      exact rep_fin rfl rfl hr3 ⟨_,rfl,hX'.out⟩
  have hE:op=6->bk.toList.isEmpty=false:=fun e=>by rw [Lib.toList_data,Bool.eq_false_iff];intro hq;exact h6 ⟨e,List.isEmpty_iff.1 hq⟩
  have hD:=doC_in (s:=s) (c:=cmdD op bk nm dt mt nn tk ns pos) (show 2<=op/\op<=9 by omega) h6
  have hD:doC envP s (cmdD op bk nm dt mt nn tk ns pos)=match bkAt s bk.data.toList with
    | none=>(s,{ st:=if op=3 then 409 else 404 })
    | some b=>withinD s b (cmdD op bk nm dt mt nn tk ns pos):=hD
  have hh:op=2\/op=3\/op=4\/op=5\/op=6\/op=7\/op=8\/op=9:=by omega
  clear hlo hhi h1 h6
  cases hat:atL L bk.data.toList with
  | none =>
    rw [hat] at hrun hbA
    rw [show bkAt s bk.data.toList=none from hbA] at hD
    rw [hD]
    rw [show ((none:Option (Bk × Pl)).map fun x=>pv x.2.c).getD (.pointer none)=(.pointer none:Value) from rfl] at hrun
    clear hD hbA hat
    rcases hh with rfl | rfl | rfl | rfl | rfl | rfl | rfl | rfl
    · have cX:=hstat 404 404 rfl
      clear hE
      have cX':=Lib.hid cX
      clear cX hask hfin hform hstat hnB hnv hG hGB h hB hL hO hC hres hcmd hB0 hBD0 hlts hltm hkey hsb1
      go_enter Tryz.func9,Tryz.ntmps9
      go_wp2_with fail
      go_region_held3 (fun W=>Below wB.heap.size wB W/\W.cell? ⟨sb,1,none⟩=some (.map (some bm))/\W.cell? ⟨w.heap.size,1,none⟩=some (.string bk))
        (refine hSS.out _ ?_<;>first | assumption | exact Below.drew (Below.refl _ _))
        (fail)
      all_goals
        clear hrun
        go_wp2_with fail
        go_at_call 18
        refine cX'.out.mono ?_
        rintro e w1 ⟨v,rfl,hd⟩
        obtain ⟨st,tag,data,ao,n1,cap,tok,rfl⟩:=hform'.out _ _ _ hd
        obtain ⟨hr3,hX⟩:=hfin'.out _ _ _ _ _ _ _ hd
        have hX':=Lib.hid hX
        obtain ⟨p0,p1,p2,p3,p4,f0,f1,f2,f3,f4⟩:=res5 hr3
        clear hX hd cX'
        go_wp2
        exact rep_fin rfl rfl hr3 ⟨_,rfl,hX'.out⟩
    · have cX:=hstat 409 409 rfl
      clear hE
      have cX':=Lib.hid cX
      clear cX hask hfin hform hstat hnB hnv hG hGB h hB hL hO hC hres hcmd hB0 hBD0 hlts hltm hkey hsb1
      go_enter Tryz.func9,Tryz.ntmps9
      go_wp2_with fail
      go_region_held3 (fun W=>Below wB.heap.size wB W/\W.cell? ⟨sb,1,none⟩=some (.map (some bm))/\W.cell? ⟨w.heap.size,1,none⟩=some (.string bk))
        (refine hSS.out _ ?_<;>first | assumption | exact Below.drew (Below.refl _ _))
        (fail)
      all_goals
        clear hrun
        go_wp2_with fail
        go_at_call 18
        refine cX'.out.mono ?_
        rintro e w1 ⟨v,rfl,hd⟩
        obtain ⟨st,tag,data,ao,n1,cap,tok,rfl⟩:=hform'.out _ _ _ hd
        obtain ⟨hr3,hX⟩:=hfin'.out _ _ _ _ _ _ _ hd
        have hX':=Lib.hid hX
        obtain ⟨p0,p1,p2,p3,p4,f0,f1,f2,f3,f4⟩:=res5 hr3
        clear hX hd cX'
        go_wp2
        exact rep_fin rfl rfl hr3 ⟨_,rfl,hX'.out⟩
    · have cX:=hstat 404 404 rfl
      clear hE
      have cX':=Lib.hid cX
      clear cX hask hfin hform hstat hnB hnv hG hGB h hB hL hO hC hres hcmd hB0 hBD0 hlts hltm hkey hsb1
      go_enter Tryz.func9,Tryz.ntmps9
      go_wp2_with fail
      go_region_held3 (fun W=>Below wB.heap.size wB W/\W.cell? ⟨sb,1,none⟩=some (.map (some bm))/\W.cell? ⟨w.heap.size,1,none⟩=some (.string bk))
        (refine hSS.out _ ?_<;>first | assumption | exact Below.drew (Below.refl _ _))
        (fail)
      all_goals
        clear hrun
        go_wp2_with fail
        go_at_call 18
        refine cX'.out.mono ?_
        rintro e w1 ⟨v,rfl,hd⟩
        obtain ⟨st,tag,data,ao,n1,cap,tok,rfl⟩:=hform'.out _ _ _ hd
        obtain ⟨hr3,hX⟩:=hfin'.out _ _ _ _ _ _ _ hd
        have hX':=Lib.hid hX
        obtain ⟨p0,p1,p2,p3,p4,f0,f1,f2,f3,f4⟩:=res5 hr3
        clear hX hd cX'
        go_wp2
        exact rep_fin rfl rfl hr3 ⟨_,rfl,hX'.out⟩
    · have cX:=hstat 404 404 rfl
      clear hE
      have cX':=Lib.hid cX
      clear cX hask hfin hform hstat hnB hnv hG hGB h hB hL hO hC hres hcmd hB0 hBD0 hlts hltm hkey hsb1
      go_enter Tryz.func9,Tryz.ntmps9
      go_wp2_with fail
      go_region_held3 (fun W=>Below wB.heap.size wB W/\W.cell? ⟨sb,1,none⟩=some (.map (some bm))/\W.cell? ⟨w.heap.size,1,none⟩=some (.string bk))
        (refine hSS.out _ ?_<;>first | assumption | exact Below.drew (Below.refl _ _))
        (fail)
      all_goals
        clear hrun
        go_wp2_with fail
        go_at_call 18
        refine cX'.out.mono ?_
        rintro e w1 ⟨v,rfl,hd⟩
        obtain ⟨st,tag,data,ao,n1,cap,tok,rfl⟩:=hform'.out _ _ _ hd
        obtain ⟨hr3,hX⟩:=hfin'.out _ _ _ _ _ _ _ hd
        have hX':=Lib.hid hX
        obtain ⟨p0,p1,p2,p3,p4,f0,f1,f2,f3,f4⟩:=res5 hr3
        clear hX hd cX'
        go_wp2
        exact rep_fin rfl rfl hr3 ⟨_,rfl,hX'.out⟩
    · have cX:=hstat 404 404 rfl
      have hE:=hE rfl
      have cX':=Lib.hid cX
      clear cX hask hfin hform hstat hnB hnv hG hGB h hB hL hO hC hres hcmd hB0 hBD0 hlts hltm hkey hsb1
      go_enter Tryz.func9,Tryz.ntmps9
      go_wp2_with fail
      go_region_held3 (fun W=>Below wB.heap.size wB W/\W.cell? ⟨sb,1,none⟩=some (.map (some bm))/\W.cell? ⟨w.heap.size,1,none⟩=some (.string bk))
        (refine hSS.out _ ?_<;>first | assumption | exact Below.drew (Below.refl _ _))
        (fail)
      all_goals
        clear hrun
        go_wp2_with fail
        go_at_call 18
        refine cX'.out.mono ?_
        rintro e w1 ⟨v,rfl,hd⟩
        obtain ⟨st,tag,data,ao,n1,cap,tok,rfl⟩:=hform'.out _ _ _ hd
        obtain ⟨hr3,hX⟩:=hfin'.out _ _ _ _ _ _ _ hd
        have hX':=Lib.hid hX
        obtain ⟨p0,p1,p2,p3,p4,f0,f1,f2,f3,f4⟩:=res5 hr3
        clear hX hd cX'
        go_wp2
        exact rep_fin rfl rfl hr3 ⟨_,rfl,hX'.out⟩
    · have cX:=hstat 404 404 rfl
      clear hE
      have cX':=Lib.hid cX
      clear cX hask hfin hform hstat hnB hnv hG hGB h hB hL hO hC hres hcmd hB0 hBD0 hlts hltm hkey hsb1
      go_enter Tryz.func9,Tryz.ntmps9
      go_wp2_with fail
      go_region_held3 (fun W=>Below wB.heap.size wB W/\W.cell? ⟨sb,1,none⟩=some (.map (some bm))/\W.cell? ⟨w.heap.size,1,none⟩=some (.string bk))
        (refine hSS.out _ ?_<;>first | assumption | exact Below.drew (Below.refl _ _))
        (fail)
      all_goals
        clear hrun
        go_wp2_with fail
        go_at_call 18
        refine cX'.out.mono ?_
        rintro e w1 ⟨v,rfl,hd⟩
        obtain ⟨st,tag,data,ao,n1,cap,tok,rfl⟩:=hform'.out _ _ _ hd
        obtain ⟨hr3,hX⟩:=hfin'.out _ _ _ _ _ _ _ hd
        have hX':=Lib.hid hX
        obtain ⟨p0,p1,p2,p3,p4,f0,f1,f2,f3,f4⟩:=res5 hr3
        clear hX hd cX'
        go_wp2
        exact rep_fin rfl rfl hr3 ⟨_,rfl,hX'.out⟩
    · have cX:=hstat 404 404 rfl
      clear hE
      have cX':=Lib.hid cX
      clear cX hask hfin hform hstat hnB hnv hG hGB h hB hL hO hC hres hcmd hB0 hBD0 hlts hltm hkey hsb1
      go_enter Tryz.func9,Tryz.ntmps9
      go_wp2_with fail
      go_region_held3 (fun W=>Below wB.heap.size wB W/\W.cell? ⟨sb,1,none⟩=some (.map (some bm))/\W.cell? ⟨w.heap.size,1,none⟩=some (.string bk))
        (refine hSS.out _ ?_<;>first | assumption | exact Below.drew (Below.refl _ _))
        (fail)
      all_goals
        clear hrun
        go_wp2_with fail
        go_at_call 18
        refine cX'.out.mono ?_
        rintro e w1 ⟨v,rfl,hd⟩
        obtain ⟨st,tag,data,ao,n1,cap,tok,rfl⟩:=hform'.out _ _ _ hd
        obtain ⟨hr3,hX⟩:=hfin'.out _ _ _ _ _ _ _ hd
        have hX':=Lib.hid hX
        obtain ⟨p0,p1,p2,p3,p4,f0,f1,f2,f3,f4⟩:=res5 hr3
        clear hX hd cX'
        go_wp2
        exact rep_fin rfl rfl hr3 ⟨_,rfl,hX'.out⟩
    · have cX:=hstat 404 404 rfl
      clear hE
      have cX':=Lib.hid cX
      clear cX hask hfin hform hstat hnB hnv hG hGB h hB hL hO hC hres hcmd hB0 hBD0 hlts hltm hkey hsb1
      go_enter Tryz.func9,Tryz.ntmps9
      go_wp2_with fail
      go_region_held3 (fun W=>Below wB.heap.size wB W/\W.cell? ⟨sb,1,none⟩=some (.map (some bm))/\W.cell? ⟨w.heap.size,1,none⟩=some (.string bk))
        (refine hSS.out _ ?_<;>first | assumption | exact Below.drew (Below.refl _ _))
        (fail)
      all_goals
        clear hrun
        go_wp2_with fail
        go_at_call 18
        refine cX'.out.mono ?_
        rintro e w1 ⟨v,rfl,hd⟩
        obtain ⟨st,tag,data,ao,n1,cap,tok,rfl⟩:=hform'.out _ _ _ hd
        obtain ⟨hr3,hX⟩:=hfin'.out _ _ _ _ _ _ _ hd
        have hX':=Lib.hid hX
        obtain ⟨p0,p1,p2,p3,p4,f0,f1,f2,f3,f4⟩:=res5 hr3
        clear hX hd cX'
        go_wp2
        exact rep_fin rfl rfl hr3 ⟨_,rfl,hX'.out⟩
  | some x =>
    obtain ⟨hxm,hxn⟩:=atL_some hat
    obtain ⟨b,p⟩:=x
    rw [hat] at hrun hbA
    have hbb:bkAt s bk.data.toList=some b:=hbA
    rw [hbb] at hD
    have hD:doC envP s (cmdD op bk nm dt mt nn tk ns pos)=withinD s b (cmdD op bk nm dt mt nn tk ns pos):=hD
    rw [hD]
    rw [show ((some (b,p):Option (Bk × Pl)).map fun x=>pv x.2.c).getD (.pointer none)=pv p.c from rfl] at hrun
    have hbm:b∈s.books:=by rw [<-hL];exact List.mem_map.2 ⟨_,hxm,rfl⟩
    have cX:=within_any w0 wD sb bm L s b p op bk nm dt mt nn tk ns _ hnB pos ses sq hGB hB hL hxm hbb (hO.books b hbm).2 hC (by omega) hchg
    clear hD hbA hat hbb hbm hxm hxn
    rcases hh with rfl | rfl | rfl | rfl | rfl | rfl | rfl | rfl
    · clear hE
      have cX':=Lib.hid cX
      clear cX hask hfin hform hstat hnB hnv hG hGB h hB hL hO hC hres hcmd hB0 hBD0 hlts hltm hkey hsb1
      go_enter Tryz.func9,Tryz.ntmps9
      go_wp2_with fail
      go_region_held3 (fun W=>Below wB.heap.size wB W/\W.cell? ⟨sb,1,none⟩=some (.map (some bm))/\W.cell? ⟨w.heap.size,1,none⟩=some (.string bk))
        (refine hSS.out _ ?_<;>first | assumption | exact Below.drew (Below.refl _ _))
        (fail)
      all_goals
        clear hrun
        go_wp2_with fail
        go_at_call 21
        refine cX'.out.mono ?_
        rintro e w1 ⟨v,rfl,hd⟩
        obtain ⟨st,tag,data,ao,n1,cap,tok,rfl⟩:=hform'.out _ _ _ hd
        obtain ⟨hr3,hX⟩:=hfin'.out _ _ _ _ _ _ _ hd
        have hX':=Lib.hid hX
        obtain ⟨p0,p1,p2,p3,p4,f0,f1,f2,f3,f4⟩:=res5 hr3
        clear hX hd cX'
        go_wp2
        exact rep_fin rfl rfl hr3 ⟨_,rfl,hX'.out⟩
    · clear hE
      have cX':=Lib.hid cX
      clear cX hask hfin hform hstat hnB hnv hG hGB h hB hL hO hC hres hcmd hB0 hBD0 hlts hltm hkey hsb1
      go_enter Tryz.func9,Tryz.ntmps9
      go_wp2_with fail
      go_region_held3 (fun W=>Below wB.heap.size wB W/\W.cell? ⟨sb,1,none⟩=some (.map (some bm))/\W.cell? ⟨w.heap.size,1,none⟩=some (.string bk))
        (refine hSS.out _ ?_<;>first | assumption | exact Below.drew (Below.refl _ _))
        (fail)
      all_goals
        clear hrun
        go_wp2_with fail
        go_at_call 21
        refine cX'.out.mono ?_
        rintro e w1 ⟨v,rfl,hd⟩
        obtain ⟨st,tag,data,ao,n1,cap,tok,rfl⟩:=hform'.out _ _ _ hd
        obtain ⟨hr3,hX⟩:=hfin'.out _ _ _ _ _ _ _ hd
        have hX':=Lib.hid hX
        obtain ⟨p0,p1,p2,p3,p4,f0,f1,f2,f3,f4⟩:=res5 hr3
        clear hX hd cX'
        go_wp2
        exact rep_fin rfl rfl hr3 ⟨_,rfl,hX'.out⟩
    · clear hE
      have cX':=Lib.hid cX
      clear cX hask hfin hform hstat hnB hnv hG hGB h hB hL hO hC hres hcmd hB0 hBD0 hlts hltm hkey hsb1
      go_enter Tryz.func9,Tryz.ntmps9
      go_wp2_with fail
      go_region_held3 (fun W=>Below wB.heap.size wB W/\W.cell? ⟨sb,1,none⟩=some (.map (some bm))/\W.cell? ⟨w.heap.size,1,none⟩=some (.string bk))
        (refine hSS.out _ ?_<;>first | assumption | exact Below.drew (Below.refl _ _))
        (fail)
      all_goals
        clear hrun
        go_wp2_with fail
        go_at_call 21
        refine cX'.out.mono ?_
        rintro e w1 ⟨v,rfl,hd⟩
        obtain ⟨st,tag,data,ao,n1,cap,tok,rfl⟩:=hform'.out _ _ _ hd
        obtain ⟨hr3,hX⟩:=hfin'.out _ _ _ _ _ _ _ hd
        have hX':=Lib.hid hX
        obtain ⟨p0,p1,p2,p3,p4,f0,f1,f2,f3,f4⟩:=res5 hr3
        clear hX hd cX'
        go_wp2
        exact rep_fin rfl rfl hr3 ⟨_,rfl,hX'.out⟩
    · clear hE
      have cX':=Lib.hid cX
      clear cX hask hfin hform hstat hnB hnv hG hGB h hB hL hO hC hres hcmd hB0 hBD0 hlts hltm hkey hsb1
      go_enter Tryz.func9,Tryz.ntmps9
      go_wp2_with fail
      go_region_held3 (fun W=>Below wB.heap.size wB W/\W.cell? ⟨sb,1,none⟩=some (.map (some bm))/\W.cell? ⟨w.heap.size,1,none⟩=some (.string bk))
        (refine hSS.out _ ?_<;>first | assumption | exact Below.drew (Below.refl _ _))
        (fail)
      all_goals
        clear hrun
        go_wp2_with fail
        go_at_call 21
        refine cX'.out.mono ?_
        rintro e w1 ⟨v,rfl,hd⟩
        obtain ⟨st,tag,data,ao,n1,cap,tok,rfl⟩:=hform'.out _ _ _ hd
        obtain ⟨hr3,hX⟩:=hfin'.out _ _ _ _ _ _ _ hd
        have hX':=Lib.hid hX
        obtain ⟨p0,p1,p2,p3,p4,f0,f1,f2,f3,f4⟩:=res5 hr3
        clear hX hd cX'
        go_wp2
        exact rep_fin rfl rfl hr3 ⟨_,rfl,hX'.out⟩
    · have hE:=hE rfl
      have cX':=Lib.hid cX
      clear cX hask hfin hform hstat hnB hnv hG hGB h hB hL hO hC hres hcmd hB0 hBD0 hlts hltm hkey hsb1
      go_enter Tryz.func9,Tryz.ntmps9
      go_wp2_with fail
      go_region_held3 (fun W=>Below wB.heap.size wB W/\W.cell? ⟨sb,1,none⟩=some (.map (some bm))/\W.cell? ⟨w.heap.size,1,none⟩=some (.string bk))
        (refine hSS.out _ ?_<;>first | assumption | exact Below.drew (Below.refl _ _))
        (fail)
      all_goals
        clear hrun
        go_wp2_with fail
        go_at_call 21
        refine cX'.out.mono ?_
        rintro e w1 ⟨v,rfl,hd⟩
        obtain ⟨st,tag,data,ao,n1,cap,tok,rfl⟩:=hform'.out _ _ _ hd
        obtain ⟨hr3,hX⟩:=hfin'.out _ _ _ _ _ _ _ hd
        have hX':=Lib.hid hX
        obtain ⟨p0,p1,p2,p3,p4,f0,f1,f2,f3,f4⟩:=res5 hr3
        clear hX hd cX'
        go_wp2
        exact rep_fin rfl rfl hr3 ⟨_,rfl,hX'.out⟩
    · clear hE
      have cX':=Lib.hid cX
      clear cX hask hfin hform hstat hnB hnv hG hGB h hB hL hO hC hres hcmd hB0 hBD0 hlts hltm hkey hsb1
      go_enter Tryz.func9,Tryz.ntmps9
      go_wp2_with fail
      go_region_held3 (fun W=>Below wB.heap.size wB W/\W.cell? ⟨sb,1,none⟩=some (.map (some bm))/\W.cell? ⟨w.heap.size,1,none⟩=some (.string bk))
        (refine hSS.out _ ?_<;>first | assumption | exact Below.drew (Below.refl _ _))
        (fail)
      all_goals
        clear hrun
        go_wp2_with fail
        go_at_call 21
        refine cX'.out.mono ?_
        rintro e w1 ⟨v,rfl,hd⟩
        obtain ⟨st,tag,data,ao,n1,cap,tok,rfl⟩:=hform'.out _ _ _ hd
        obtain ⟨hr3,hX⟩:=hfin'.out _ _ _ _ _ _ _ hd
        have hX':=Lib.hid hX
        obtain ⟨p0,p1,p2,p3,p4,f0,f1,f2,f3,f4⟩:=res5 hr3
        clear hX hd cX'
        go_wp2
        exact rep_fin rfl rfl hr3 ⟨_,rfl,hX'.out⟩
    · clear hE
      have cX':=Lib.hid cX
      clear cX hask hfin hform hstat hnB hnv hG hGB h hB hL hO hC hres hcmd hB0 hBD0 hlts hltm hkey hsb1
      go_enter Tryz.func9,Tryz.ntmps9
      go_wp2_with fail
      go_region_held3 (fun W=>Below wB.heap.size wB W/\W.cell? ⟨sb,1,none⟩=some (.map (some bm))/\W.cell? ⟨w.heap.size,1,none⟩=some (.string bk))
        (refine hSS.out _ ?_<;>first | assumption | exact Below.drew (Below.refl _ _))
        (fail)
      all_goals
        clear hrun
        go_wp2_with fail
        go_at_call 21
        refine cX'.out.mono ?_
        rintro e w1 ⟨v,rfl,hd⟩
        obtain ⟨st,tag,data,ao,n1,cap,tok,rfl⟩:=hform'.out _ _ _ hd
        obtain ⟨hr3,hX⟩:=hfin'.out _ _ _ _ _ _ _ hd
        have hX':=Lib.hid hX
        obtain ⟨p0,p1,p2,p3,p4,f0,f1,f2,f3,f4⟩:=res5 hr3
        clear hX hd cX'
        go_wp2
        exact rep_fin rfl rfl hr3 ⟨_,rfl,hX'.out⟩
    · clear hE
      have cX':=Lib.hid cX
      clear cX hask hfin hform hstat hnB hnv hG hGB h hB hL hO hC hres hcmd hB0 hBD0 hlts hltm hkey hsb1
      go_enter Tryz.func9,Tryz.ntmps9
      go_wp2_with fail
      go_region_held3 (fun W=>Below wB.heap.size wB W/\W.cell? ⟨sb,1,none⟩=some (.map (some bm))/\W.cell? ⟨w.heap.size,1,none⟩=some (.string bk))
        (refine hSS.out _ ?_<;>first | assumption | exact Below.drew (Below.refl _ _))
        (fail)
      all_goals
        clear hrun
        go_wp2_with fail
        go_at_call 21
        refine cX'.out.mono ?_
        rintro e w1 ⟨v,rfl,hd⟩
        obtain ⟨st,tag,data,ao,n1,cap,tok,rfl⟩:=hform'.out _ _ _ hd
        obtain ⟨hr3,hX⟩:=hfin'.out _ _ _ _ _ _ _ hd
        have hX':=Lib.hid hX
        obtain ⟨p0,p1,p2,p3,p4,f0,f1,f2,f3,f4⟩:=res5 hr3
        clear hX hd cX'
        go_wp2
        exact rep_fin rfl rfl hr3 ⟨_,rfl,hX'.out⟩
theorem new_any (w:World):Calls Tryz.prog 8 #[] w fun e w'=>∃ sb bm,e=.returned (pv sb)/\ShIs w' sb bm [] 0/\w.heap.size<=sb/\w.heap.size<=bm/\Below w.heap.size w w':=by
  have hmm:=@run_makeMap Tryz.prog
  go_enter Tryz.func8,Tryz.ntmps8
  go_wp2
  go_ret
  have hM:MapIs Tryz.prog 9 (w.alloc (.map #[] 0)) w.heap.size []:=MapIs.made w _ _
  refine ⟨w.heap.size+1,w.heap.size,rfl,⟨?_,hM.block ?_,fun x hx=>(by cases hx),?_⟩,Nat.le_succ _,Nat.le_refl _,((Below.refl _ _).alloc (Nat.le_refl _) _).alloc (by simp) _⟩
  · have:=heap_alloc_new (w.alloc (.map #[] 0)) (.cells #[.int .i64 0,.map (some w.heap.size)] 61 (0,0))
    simpa using this
  · exact heap_alloc_old _ _ _ (by simp)
  · simp [fpS]
end Bo
namespace Ly
open Bo (Row)
def word (n:Nat):Row:=(List.range 8).map fun k=>UInt8.ofNat (n / 2 ^ (56 - 8*k))
theorem word_len (n:Nat):(word n).length=8:=by simp [word]
theorem word_take (n k:Nat) (hk:k < 8):(word n).take (k+1)=(word n).take k++[UInt8.ofNat (n / 2 ^ (56 - 8*k))]:=by
  rw [List.take_succ_eq_append_getElem (by rw [word_len];exact hk)]
  simp [word]
def text (t:Row):Row:=word t.length++t
def flag (b:Bool):Row:=[if b=true then 1 else 0]
def num (l:Row):Nat:=l.foldl (fun n (b:UInt8)=>n*256+b.toNat) 0
theorem num_snoc (l:Row) (b:UInt8):num (l++[b])=num l*256+b.toNat:=by unfold num;rw [List.foldl_append];rfl
theorem num_lt:∀ (k:Nat) (l:Row),l.length=k->num l < 256 ^ k
  | 0,l,h=>by rw [List.eq_nil_of_length_eq_zero h];decide
  | k + 1,l,h=>by
    have hl:l=l.take k++[l[k]'(by omega)]:=by
      rw [<-List.take_succ_eq_append_getElem (by omega),List.take_of_length_le (by omega)]
    rw [hl,num_snoc]
    have:=num_lt k (l.take k) (by rw [List.length_take];omega)
    have:=(l[k]'(by omega)).toNat_lt
    rw [Nat.pow_succ]
    omega
theorem num_word (n:Nat) (h:n < 18446744073709551616):num (word n)=n:=by
  have e:word n=[UInt8.ofNat (n / 2 ^ 56),UInt8.ofNat (n / 2 ^ 48),UInt8.ofNat (n / 2 ^ 40),UInt8.ofNat (n / 2 ^ 32),UInt8.ofNat (n / 2 ^ 24),UInt8.ofNat (n / 2 ^ 16),UInt8.ofNat (n / 2 ^ 8),UInt8.ofNat (n / 2 ^ 0)]:=rfl
  rw [e]
  unfold num
  simp only [List.foldl_cons,List.foldl_nil,UInt8.toNat_ofNat']
  omega
end Ly
end Go.Proofs.YtobfaibofhmpgaaGreatDoor
