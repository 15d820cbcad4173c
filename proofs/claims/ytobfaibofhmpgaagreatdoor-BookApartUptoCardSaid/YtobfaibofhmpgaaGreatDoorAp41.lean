import Derived.Test.YtobfaibofhmpgaaGreatDoorAp40
import Derived.Laws.DeepStrings4
set_option linter.unusedVariables false
set_option maxHeartbeats 16000000
set_option maxRecDepth 100000
namespace Go.Proofs.YtobfaibofhmpgaaGreatDoor
namespace Bo
open Go.Lib Go.RowKit
open Ly (word text flag Rd rp)
structure BkCan (last:Nat) (b:Bk):Prop where
  made:1<=b.made/\b.made<=last
  hor:b.made<=b.hor/\b.hor<=last
  tags:∀ l∈b.cards,b.made < l.tag/\l.tag<=last/\Pa.fits l.name=true/\normE l.text=.ok l.text
  rise:Rise (b.cards.map (·.name))
  most:b.cards.length<=256
  few:b.notes.length<=64
  notes:∀ k x,b.notes[k]?=some x->lastN b.hor (b.notes.take k) < x.chg/\x.chg<=last/\Pa.fits x.name=true
theorem getBook1_any (w0 w:World) (rb db ba cb bl made last tg:Nat) (t l:Row) (hG:Grd w0 w) (hrb:w0.heap.size<=rb) (h:Rd w rb db (word tg++(text t++l))) (hl:t.length+l.length<=1099511627776) (hlast:last<=4611686018427387904) (h1:made < tg) (h2:tg<=last) (hn:normE t=.ok t)
    (ca:w.cell? ⟨ba,0,none⟩=some (rp rb)) (cc:w.cell? ⟨cb,0,none⟩=some (.int .i64 (made:Int))) (cl:w.cell? ⟨bl,0,none⟩=some (.int .i64 (last:Int))) (hba:ba < w.heap.size) (hcb:cb < w.heap.size) (hbl:bl < w.heap.size) :
    Calls Tryz.prog 55 #[.pointer (some ⟨ba,0,none⟩),.pointer (some ⟨cb,0,none⟩),.pointer (some ⟨bl,0,none⟩)] w fun e w'=>∃ u,e=.returned u/\Rd w' rb db l/\Kp [rb] w w':=by
  obtain ⟨wB,hwB⟩:∃ wB,w.alloc (.cells #[.int .i64 0,.string ⟨#[]⟩] 105)=wB:=⟨_,rfl⟩
  have hbB:Below w.heap.size w wB:=by rw [<-hwB];exact (Below.refl _ _).alloc (Nat.le_refl _) _
  have hBs:w.heap.size < wB.heap.size:=by rw [<-hwB];simp
  have hBc:wB.heap[w.heap.size]?=some (.cells #[.int .i64 0,.string ⟨#[]⟩] 105 (0,0)):=by rw [<-hwB];exact heap_alloc_new w _
  have hrl:=h.rlt
  have hdl:=h.lt
  have cC:=getCard_any w0 wB rb db tg t l ((made:Int)+1) (last:Int) (hG.below hbB) hrb (Ly.Rd.below h hbB) hl (by omega) (by omega) (by omega) hn
  have ca':wB.cell? ⟨ba,0,none⟩=some (rp rb):=by rw [hbB.cell (p:=⟨ba,0,none⟩) hba];exact ca
  have cc':wB.cell? ⟨cb,0,none⟩=some (.int .i64 (made:Int)):=by rw [hbB.cell (p:=⟨cb,0,none⟩) hcb];exact cc
  have cl':wB.cell? ⟨bl,0,none⟩=some (.int .i64 (last:Int)):=by rw [hbB.cell (p:=⟨bl,0,none⟩) hbl];exact cl
  obtain ⟨st,hst⟩:∃ st:ByteArray,(⟨t.toArray⟩:ByteArray)=st:=⟨_,rfl⟩
  rw [hst] at cC
  have hm62:made<=4611686018427387904:=by omega
  clear h hn hst ca cc cl
  go_enter Tryz.func55,Tryz.ntmps55
  go_wp2_with fail
  go_at_call 56
  refine cC.mono ?_
  rintro e w4 ⟨rfl,hR4,hK4⟩
  have hB4:=(hK4.block _ hBs (by simp;omega)).trans hBc
  have f0:=Lib.frozen_of_heap hB4 0
  have f1:=Lib.frozen_of_heap hB4 1
  have b0:=Lib.cell_of_heap hB4 0
  have b1:=Lib.cell_of_heap hB4 1
  have hfin:∀ wz,(w4.setCell ⟨w.heap.size,0,none⟩ (.int .i64 (tg:Int))).setCell ⟨w.heap.size,1,none⟩ (.string st)=wz->wz.heap[w.heap.size]?=some (.cells #[.int .i64 (tg:Int),.string st] 105 (0,0))/\Rd wz rb db l/\Kp [rb] w wz:=fun wz hz=>by
    have hk:∀ k,k≠w.heap.size->wz.heap[k]?=w4.heap[k]?:=fun k hk=>by rw [<-hz,Below.heap_setCell _ _ _ k hk,Below.heap_setCell _ _ _ k hk]
    have hKz:Kp [rb] w wz:=by rw [<-hz];exact ((((Kp.of_below hbB).trans hK4).setCell (.inr (Nat.le_refl _)) _).setCell (.inr (Nat.le_refl _)) _)
    refine ⟨by rw [<-hz];exact Ly.set_heap (Ly.set_heap hB4 0 _) 1 _,hR4.kept (hk rb (by omega)) (hk db (by omega)) (by rw [<-hz];simp [World.setCell]),hKz⟩
  have hfin':=Lib.hid hfin
  clear hK4 hR4 cC hfin
  go_wp2
  obtain ⟨r1,r2⟩:=hfin'.out _ rfl
  exact bodyPost_ret (kept_ret rfl _ _ _ _ _ rfl r1) rfl ⟨_,rfl,r2⟩
structure GB (w:World) (rb db last:Nat) (W:World) (xs:Array Value) (r:Row):Prop where
  a:W.heap[w.heap.size]?=some (.cells #[rp rb] 77 (0,0))
  l:W.heap[w.heap.size+1]?=some (.cells #[.int .i64 (last:Int)] 3 (0,0))
  c:W.heap[w.heap.size+1+1]?=some (.cells xs 92 (0,0))
  rd:Rd W rb db r
  kp:Kp [rb] w W
theorem GB.read {w W W':World} {rb db last:Nat} {xs:Array Value} {r r':Row} (h:GB w rb db last W xs r) (hr:rb < w.heap.size) (hR:Rd W' rb db r') (hK:Kp [rb] W W'):GB w rb db last W' xs r' :=
  ⟨(hK.block _ (Array.getElem?_eq_some_iff.1 h.a).1 (by simp;omega)).trans h.a,(hK.block _ (Array.getElem?_eq_some_iff.1 h.l).1 (by simp;omega)).trans h.l,(hK.block _ (Array.getElem?_eq_some_iff.1 h.c).1 (by simp;omega)).trans h.c,hR,h.kp.trans hK⟩
theorem GB.set {w W:World} {rb db last:Nat} {xs:Array Value} {r:Row} (h:GB w rb db last W xs r) (hr:rb < w.heap.size) (hd:db < w.heap.size) (j:Nat) (v:Value):GB w rb db last (W.setCell ⟨w.heap.size+1+1,j,none⟩ v) (xs.setIfInBounds j v) r:=by
  have hk:∀ k,k≠w.heap.size+1+1->(W.setCell ⟨w.heap.size+1+1,j,none⟩ v).heap[k]?=W.heap[k]?:=fun k hk=>Below.heap_setCell _ _ _ k hk
  exact ⟨(hk _ (by omega)).trans h.a,(hk _ (by omega)).trans h.l,Ly.set_heap h.c j v,h.rd.kept (hk rb (by omega)) (hk db (by omega)) (by simp [World.setCell]),h.kp.setCell (.inr (show w.heap.size<=w.heap.size+1+1 by omega)) _⟩
theorem getBook_any (w0 w:World) (rb db last:Nat) (b:Bk) (l:Row) (hG:Grd w0 w) (hrb:w0.heap.size<=rb) (h:Rd w rb db (bookF b++l)) (hl:(bookF b).length+l.length<=1099511627776) (hlast:last<=4611686018427387904) (hC:BkCan last b) :
    Calls Tryz.prog 32 #[rp rb,.int .i64 (last:Int)] w fun e w'=>∃ u,e=.returned u/\Rd w' rb db l/\Kp [rb] w w':=by
  obtain ⟨wB,hwB⟩:∃ wB,((w.alloc (.cells #[rp rb] 77)).alloc (.cells #[.int .i64 (last:Int)] 3)).alloc (.cells #[.int .i64 0,.int .i64 0,.map none,.slice none 0 0] 92)=wB:=⟨_,rfl⟩
  have hbB:Below w.heap.size w wB:=by rw [<-hwB];exact (((Below.refl _ _).alloc (Nat.le_refl _) _).alloc (by simp) _).alloc (by simp;omega) _
  have hBs:wB.heap.size=w.heap.size+3:=by rw [<-hwB];simp
  have hBa:wB.heap[w.heap.size]?=some (.cells #[rp rb] 77 (0,0)):=by
    rw [<-hwB,heap_alloc_old _ _ _ (by simp;omega),heap_alloc_old _ _ _ (by simp)]
    exact heap_alloc_new w _
  have hBl:wB.heap[w.heap.size+1]?=some (.cells #[.int .i64 (last:Int)] 3 (0,0)):=by
    rw [<-hwB,heap_alloc_old _ _ _ (by simp)]
    have:=heap_alloc_new (w.alloc (.cells #[rp rb] 77)) (.cells #[.int .i64 (last:Int)] 3 (0,0))
    simpa using this
  have hBc:wB.heap[w.heap.size+2]?=some (.cells #[.int .i64 0,.int .i64 0,.map none,.slice none 0 0] 92 (0,0)):=by
    rw [<-hwB]
    have:=heap_alloc_new ((w.alloc (.cells #[rp rb] 77)).alloc (.cells #[.int .i64 (last:Int)] 3)) (.cells #[.int .i64 0,.int .i64 0,.map none,.slice none 0 0] 92 (0,0))
    simpa using this
  have hrl:=h.rlt
  have hdl:=h.lt
  have hmf:∀ (fn:Fn) (first cap:Array Value) (w:World),(Instr.makeFunc fn first cap).run Tryz.prog w=.ok (.func fn first cap) w:=fun _ _ _ _=>rfl
  have hF:∀ k∈[rb],w0.heap.size<=k:=fun k hk=>by simp at hk;omega
  obtain ⟨cb,hcb⟩:∃ X,(b.cards.flatMap fun l=>text l.name++cardF l)=X:=⟨_,rfl⟩
  obtain ⟨r3,hr3⟩:∃ r3,word b.notes.length++(b.notes.flatMap noteF++l)=r3:=⟨_,rfl⟩
  obtain ⟨r2,hr2⟩:∃ r2,word b.cards.length++(cb++r3)=r2:=⟨_,rfl⟩
  have hbf:bookF b++l=word b.made++(word b.hor++r2):=by
    rw [<-hr2,<-hr3,<-hcb]
    unfold bookF
    simp only [List.append_assoc]
  rw [hbf] at h
  have g0:GB w rb db last wB #[.int .i64 0,.int .i64 0,.map none,.slice none 0 0] (word b.made++(word b.hor++r2)):=⟨hBa,hBl,hBc,Ly.Rd.below h hbB,Kp.of_below hbB⟩
  obtain ⟨m1,m2⟩:=hC.made
  obtain ⟨m3,m4⟩:=hC.hor
  have k1:=Ly.readNumber_any wB rb db b.made 1 (last:Int) _ g0.rd (by omega) (by omega) (by omega)
  have z0:=Lib.cell_of_heap g0.a 0
  have z1:=Lib.cell_of_heap g0.l 0
  have hC':=Lib.hid hC
  have hG':=Lib.hid hG
  have g0':=Lib.hid g0
  have hlen:=congrArg List.length hbf
  clear h hBa hBl hBc hbf hC hG g0 hbB
  go_enter Tryz.func32,Tryz.ntmps32
  go_wp2_with fail
  go_at_call 29
  refine k1.mono ?_
  rintro e w1 ⟨rfl,hR1,hK1⟩
  have g1:=g0'.out.read hrl hR1 hK1
  have f0:=Lib.frozen_of_heap g1.c 0
  have c0:=Lib.cell_of_heap g1.c 0
  obtain ⟨w2,hw2⟩:∃ w2,w1.setCell ⟨w.heap.size+1+1,0,none⟩ (.int .i64 (b.made:Int))=w2:=⟨_,rfl⟩
  have g2:=g1.set hrl hdl 0 (.int .i64 (b.made:Int))
  rw [hw2] at g2
  have y0:=Lib.cell_of_heap g2.a 0
  have y1:=Lib.cell_of_heap g2.l 0
  have y2:=Lib.cell_of_heap g2.c 0
  have k2:=Ly.readNumber_any w2 rb db b.hor (b.made:Int) (last:Int) _ g2.rd (by omega) (by omega) (by omega)
  have g2':=Lib.hid g2
  clear k1 hR1 hK1 g1 g2 z0 z1
  go_wp2_with fail
  go_at_call 29
  refine k2.mono ?_
  rintro e w3 ⟨rfl,hR3,hK3⟩
  have g3:=g2'.out.read hrl hR3 hK3
  have f1:=Lib.frozen_of_heap g3.c 1
  have c1:=Lib.cell_of_heap g3.c 1
  obtain ⟨w4,hw4⟩:∃ w4,w3.setCell ⟨w.heap.size+1+1,1,none⟩ (.int .i64 (b.hor:Int))=w4:=⟨_,rfl⟩
  have g4:=g3.set hrl hdl 1 (.int .i64 (b.hor:Int))
  rw [hw4] at g4
  have x0:=Lib.cell_of_heap g4.a 0
  have g4':=Lib.hid g4
  have hlf:∀ x∈b.cards,lfAt b x.name=some x:=fun x hx=>find_of_nodup hC'.out.rise.nodup hx
  have hcb2:(b.cards.map (·.name)).flatMap (fun r=>text r++((lfAt b r).map cardF).getD [])=cb:=by
    rw [<-hcb,List.flatMap_map]
    refine congrArg List.flatten (List.map_congr_left fun x hx=>?_)
    rw [hlf x hx]
    rfl
  have hnl:(b.cards.map (·.name)).length=b.cards.length:=List.length_map ..
  have l2:=congrArg List.length hr2
  have l3:=congrArg List.length hr3
  simp only [List.length_append,Ly.word_len] at hlen l2 l3
  have hm256:=hC'.out.most
  have hf64:=hC'.out.few
  have k3:=getNamedC_any w0 w4 rb db (b.cards.map (·.name)) (fun r=>((lfAt b r).map cardF).getD []) r3 (.pointer (some ⟨w.heap.size,0,none⟩)) (.pointer (some ⟨w.heap.size+1+1,0,none⟩)) (.pointer (some ⟨w.heap.size+1,0,none⟩)) 256 (hG'.out.kp g4.kp hF) hrb (by rw [hcb2,hnl,hr2];exact g4.rd) (by rw [hcb2];omega) (by omega) (by omega) hC'.out.rise (fun r hr=>by
      obtain ⟨x,hx,rfl⟩:=List.mem_map.1 hr
      exact Pa.fits_ne (hC'.out.tags x hx).2.2.1) (fun r hr=>by
      obtain ⟨x,hx,rfl⟩:=List.mem_map.1 hr
      exact (hC'.out.tags x hx).2.2.1) (fun W r l' hr hK hR hl'=>by
      obtain ⟨x,hx,rfl⟩:=List.mem_map.1 hr
      obtain ⟨t1,t2,t3,t4⟩:=hC'.out.tags x hx
      have gW:=g4'.out.read hrl hR hK
      have e:((lfAt b x.name).map cardF).getD []=word x.tag++text x.text:=by rw [hlf x hx];rfl
      rw [e,List.append_assoc] at hR
      rw [e] at hl'
      have e2:(word x.tag++text x.text).length=16+x.text.length:=card_bytes_len (l:=x)
      rw [List.length_append,e2] at hl'
      exact getBook1_any w0 W rb db w.heap.size (w.heap.size+1+1) (w.heap.size+1) b.made last x.tag x.text l' (hG'.out.kp gW.kp hF) hrb hR (by omega) hlast t1 t2 t4 (Lib.cell_of_heap gW.a 0) (Lib.cell_of_heap gW.c 0) (Lib.cell_of_heap gW.l 0) (Array.getElem?_eq_some_iff.1 gW.a).1 (Array.getElem?_eq_some_iff.1 gW.c).1 (Array.getElem?_eq_some_iff.1 gW.l).1)
  clear k2 hR3 hK3 g3 g4 y0 y1 y2 f0 c0 hcb2 hlf hcb
  go_wp2_with fail
  refine k3.mono ?_
  rintro e w5 ⟨m,rfl,hR5,hK5⟩
  have g5:=g4'.out.read hrl hR5 hK5
  have f2:=Lib.frozen_of_heap g5.c 2
  have c2:=Lib.cell_of_heap g5.c 2
  obtain ⟨w6,hw6⟩:∃ w6,w5.setCell ⟨w.heap.size+1+1,2,none⟩ (.map (some m))=w6:=⟨_,rfl⟩
  have g6:=g5.set hrl hdl 2 (.map (some m))
  rw [hw6] at g6
  have v0:=Lib.cell_of_heap g6.a 0
  have v1:=Lib.cell_of_heap g6.l 0
  have v2:=Lib.cell_of_heap g6.c 1
  have g6':=Lib.hid g6
  have k4:=getJournal_any w0 w6 rb db b.notes l b.hor last (hG'.out.kp g6.kp hF) hrb (by rw [hr3];exact g6.rd) (by omega) (by omega) hlast m4 hC'.out.notes
  clear k3 hR5 hK5 g5 g6 x0 f1 c1
  go_wp2_with fail
  go_at_call 57
  refine k4.mono ?_
  rintro e w7 ⟨⟨v,rfl,hv⟩,hR7,hK7⟩
  obtain ⟨ao,cap,rfl⟩:=ownsRow_form hv
  have g7:=g6'.out.read hrl hR7 hK7
  have f3:=Lib.frozen_of_heap g7.c 3
  have c3:=Lib.cell_of_heap g7.c 3
  have g8:=g7.set hrl hdl 3 (.slice ao b.notes.length cap)
  have hfin:=Lib.hid (And.intro g8.rd g8.kp)
  clear k4 hR7 hK7 hv g7 g8 v0 v1 v2 f2 c2
  go_wp2
  go_ret
  exact ⟨_,rfl,hfin.out⟩
open Ly (word text flag Rd rp BOwn)
structure LB (w:World) (rb db p4 p5 sb:Nat) (W:World) (xs:Array Value) (r:Row):Prop where
  a:W.heap[p4]?=some (.cells #[rp rb] 77 (0,0))
  s:W.heap[p5]?=some (.cells #[pv sb] 25 (0,0))
  c:W.heap[sb]?=some (.cells xs 61 (0,0))
  rd:Rd W rb db r
  bel:Below w.heap.size w W
  n4:p4≠rb
  n5:p5≠rb
  ns:sb≠rb
  s4:sb≠p4
  s5:sb≠p5
  sd:sb≠db
  lr:w.heap.size<=rb
  ls:w.heap.size<=sb
theorem LB.read {w W W':World} {rb db p4 p5 sb:Nat} {xs:Array Value} {r r':Row} (h:LB w rb db p4 p5 sb W xs r) (hR:Rd W' rb db r') (hK:Kp [rb] W W'):LB w rb db p4 p5 sb W' xs r' :=
  ⟨(hK.block _ (Array.getElem?_eq_some_iff.1 h.a).1 (by simpa using h.n4)).trans h.a,(hK.block _ (Array.getElem?_eq_some_iff.1 h.s).1 (by simpa using h.n5)).trans h.s,(hK.block _ (Array.getElem?_eq_some_iff.1 h.c).1 (by simpa using h.ns)).trans h.c,hR,hK.below h.bel (fun k hk=>by simp at hk;rw [hk];exact h.lr) h.bel.size,h.n4,h.n5,h.ns,h.s4,h.s5,h.sd,h.lr,h.ls⟩
theorem LB.set {w W:World} {rb db p4 p5 sb:Nat} {xs:Array Value} {r:Row} (h:LB w rb db p4 p5 sb W xs r) (j:Nat) (v:Value):LB w rb db p4 p5 sb (W.setCell ⟨sb,j,none⟩ v) (xs.setIfInBounds j v) r:=by
  have hk:∀ k,sb≠k->(W.setCell ⟨sb,j,none⟩ v).heap[k]?=W.heap[k]?:=fun k hk=>Below.heap_setCell _ _ _ k (fun e=>hk e.symm)
  exact ⟨(hk _ h.s4).trans h.a,(hk _ h.s5).trans h.s,Ly.set_heap h.c j v,h.rd.kept (hk rb h.ns) (hk db h.sd) (by simp [World.setCell]),h.bel.setCell h.ls v,h.n4,h.n5,h.ns,h.s4,h.s5,h.sd,h.lr,h.ls⟩
theorem load1_any (w0 w:World) (rb db p4 p5 sb last:Nat) (b:Bk) (l:Row) (hG:Grd w0 w) (hrb:w0.heap.size<=rb) (h:Rd w rb db (bookF b++l)) (hl:(bookF b).length+l.length<=1099511627776) (hlast:last<=4611686018427387904) (hC:BkCan last b)
    (ca:w.cell? ⟨p4,0,none⟩=some (rp rb)) (cs:w.cell? ⟨p5,0,none⟩=some (pv sb)) (cc:w.cell? ⟨sb,0,none⟩=some (.int .i64 (last:Int))) (ha:p4 < w.heap.size) (hs:p5 < w.heap.size) (hc:sb < w.heap.size) (na:p4≠rb) (ns:p5≠rb) (nc':sb≠rb) :
    Calls Tryz.prog 31 #[.pointer (some ⟨p4,0,none⟩),.pointer (some ⟨p5,0,none⟩)] w fun e w'=>∃ u,e=.returned u/\Rd w' rb db l/\Kp [rb] w w':=by
  have hSS:Hid (∀ W,Kp [rb] w W->Kp [rb] w W/\W.cell? ⟨p4,0,none⟩=some (rp rb)/\W.cell? ⟨p5,0,none⟩=some (pv sb)/\W.cell? ⟨sb,0,none⟩=some (.int .i64 (last:Int))):=Lib.hid fun W hW=>by
    have e:∀ k,k < w.heap.size->k≠rb->W.cell? ⟨k,0,none⟩=w.cell? ⟨k,0,none⟩:=fun k hk hn=>by simp [World.cell?,hW.block k hk (by simpa using hn)]
    exact ⟨hW,(e _ ha na).trans ca,(e _ hs ns).trans cs,(e _ hc nc').trans cc⟩
  have cB:∀ W,Below w.heap.size w W->Calls Tryz.prog 32 #[rp rb,.int .i64 (last:Int)] W fun e w'=>∃ u,e=.returned u/\(Rd w' rb db l/\Kp [rb] w w')/\Kp [rb] w w':=fun W hW=>by
    refine (getBook_any w0 W rb db last b l (hG.below hW) hrb (Ly.Rd.below h hW) hl hlast hC).mono ?_
    rintro e w' ⟨u,rfl,h1,h2⟩
    exact ⟨u,rfl,⟨h1,(Kp.of_below hW).trans h2⟩,(Kp.of_below hW).trans h2⟩
  clear h hC ca cs cc hG
  go_enter Tryz.func31,Tryz.ntmps31
  go_wp2_with fail
  go_region_held3 (fun W=>Kp [rb] w W/\W.cell? ⟨p4,0,none⟩=some (rp rb)/\W.cell? ⟨p5,0,none⟩=some (pv sb)/\W.cell? ⟨sb,0,none⟩=some (.int .i64 (last:Int)))
    (refine hSS.out _ ?_<;>first | assumption | exact Kp.of_below (Below.drew (Below.refl _ _)) | exact Kp.refl _ _)
    (first | (go_at_call 32;refine (cB _ (Below.drew (Below.refl _ _))).mono ?_;rintro e w1 ⟨u,rfl,hX,hK1⟩))
  all_goals
    have hX':=Lib.hid hX
    clear hX hK1 cB
    go_wp2
    go_ret
    exact ⟨_,rfl,hX'.out⟩
theorem load_any (w0 w:World) (B:Nat) (v:Value) (s:Sh) (hG:Grd w0 w) (h:BOwn B v (shelfF s) w) (hO:ShOk s) (hchg:s.chg<=4611686018427387904) (hC:∀ b∈s.books,BkCan s.chg b/\Pa.fits b.name=true) :
    Calls Tryz.prog 15 #[v] w fun e w'=>∃ sb,e=.returned (.tuple #[pv sb,.int .i64 0])/\(∃ x,w'.heap[sb]?=some (.cells #[.int .i64 (s.chg:Int),x] 61 (0,0)))/\Below w.heap.size w w':=by
  have hbl:=books_len hO
  have hsl:(shelfF s).length=16+(s.books.flatMap fun b=>text b.name++bookF b).length:=by unfold shelfF;simp only [List.length_append,Ly.word_len];omega
  obtain ⟨db,cap,rfl,hbd,hlt⟩:=World.ownsRow.form h (by omega)
  have hrow:∀ j x,(shelfF s)[j]?=some x->w.cell? ⟨db,0+j,none⟩=some (.int .u8 ((x:UInt8).toNat:Int)):=fun j x hj=>by
    have hj1:=(List.getElem?_eq_some_iff.1 hj).1
    have:=World.ownsRow.cellAt h j (by omega)
    rw [Nat.zero_add,this]
    unfold Ly.bc
    rw [List.getElem?_map,hj]
    rfl
  have hcap:(shelfF s).length<=cap/\cap<=maxLen:=by
    rcases h.2 with ⟨hv,_⟩ | ⟨g,c2,cur,e1,_,_,e4,e5,_⟩
    · cases hv
    · injection e1 with _ _ e3
      rw [e3];exact ⟨e4,e5⟩
  have cO:=Ly.of_any w db 0 cap (shelfF s) hcap.1 hcap.2 hlt hrow
  obtain ⟨n,hn⟩:∃ n,(shelfF s).length=n:=⟨_,rfl⟩
  rw [hn] at cO ⊢
  have hmf:∀ (fn:Fn) (first cap:Array Value) (w:World),(Instr.makeFunc fn first cap).run Tryz.prog w=.ok (.func fn first cap) w:=fun _ _ _ _=>rfl
  have hC':=Lib.hid hC
  have hG':=Lib.hid hG
  have hO':=Lib.hid hO
  have hw0:=hG.low.size
  clear h hrow hcap hC hG hO hbd
  go_enter Tryz.func15,Tryz.ntmps15
  go_wp2_with fail
  go_at_call 28
  refine cO.mono ?_
  rintro e w1 ⟨rfl,hR1,hb1⟩
  obtain ⟨w2,hw2⟩:∃ w2,w1.alloc (.cells #[rp w.heap.size] 77)=w2:=⟨_,rfl⟩
  have hb2:Below w1.heap.size w1 w2:=by rw [<-hw2];exact (Below.refl _ _).alloc (Nat.le_refl _) _
  have h2c:w2.heap[w1.heap.size]?=some (.cells #[rp w.heap.size] 77 (0,0)):=by rw [<-hw2];exact heap_alloc_new w1 _
  have h2s:w1.heap.size < w2.heap.size:=by rw [<-hw2];simp
  have cNew:=new_any w2
  have hR1':=Lib.hid hR1
  clear cO
  go_wp2_with fail
  go_at_call 8
  refine cNew.mono ?_
  rintro e w3 ⟨sb,bm,rfl,hS3,hsb,hbm,hb3⟩
  obtain ⟨w4,hw4⟩:∃ w4,w3.alloc (.cells #[pv sb] 25)=w4:=⟨_,rfl⟩
  have hb4:Below w3.heap.size w3 w4:=by rw [<-hw4];exact (Below.refl _ _).alloc (Nat.le_refl _) _
  have h4c:w4.heap[w3.heap.size]?=some (.cells #[pv sb] 25 (0,0)):=by rw [<-hw4];exact heap_alloc_new w3 _
  have hsl3:=(Array.getElem?_eq_some_iff.1 hS3.blk).1
  have hrl:=hR1.rlt
  have hdl1:=hR1.lt
  have g4:LB w w.heap.size db w1.heap.size w3.heap.size sb w4 #[.int .i64 ((0:Nat):Int),.map (some bm)] (shelfF s) :=
    ⟨(hb4.block _ (by have:=hb3.size;omega)).trans ((hb3.block _ h2s).trans h2c),h4c,(hb4.block _ hsl3).trans hS3.blk,Ly.Rd.below (Ly.Rd.below (Ly.Rd.below hR1 hb2) hb3) hb4,
      ((hb1.trans (hb2.mono hb1.size)).trans (hb3.mono (Nat.le_trans hb1.size hb2.size))).trans (hb4.mono (Nat.le_trans (Nat.le_trans hb1.size hb2.size) hb3.size)),by omega,by have:=hb3.size;omega,by omega,by omega,by omega,by omega,Nat.le_refl _,by omega⟩
  have g4':=Lib.hid g4
  clear cNew hR1 hb1 hb2 h2c h2s hS3 hsb hbm hb3 hb4 h4c hsl3 g4 hdl1
  have hcl:∀ W (xs:Array Value) (r:Row),LB w w.heap.size db w1.heap.size w3.heap.size sb W xs r->W.cell? ⟨w3.heap.size,0,none⟩=some (pv sb)/\W.cell? ⟨w1.heap.size,0,none⟩=some (rp w.heap.size):=fun W xs r hL=>⟨Lib.cell_of_heap hL.s 0,Lib.cell_of_heap hL.a 0⟩
  obtain ⟨r1,hr1⟩:∃ r1,(word s.books.length++s.books.flatMap fun b=>text b.name++bookF b)=r1:=⟨_,rfl⟩
  have hsf:shelfF s=word s.chg++r1:=by rw [<-hr1];rfl
  rw [hsf] at g4'
  have hrbw:=hrl
  have c1:∀ W,Below w4.heap.size w4 W->Calls Tryz.prog 29 #[rp w.heap.size,.int .i64 0,.int .i64 4611686018427387904] W fun e w'=>e=.returned (.int .i64 (s.chg:Int))/\LB w w.heap.size db w1.heap.size w3.heap.size sb w' #[.int .i64 ((0:Nat):Int),.map (some bm)] r1:=fun W hW=>by
    have hk:Kp [w.heap.size] w4 W:=Kp.of_below hW
    have gW:=g4'.out.read (Ly.Rd.below g4'.out.rd hW) hk
    refine (Ly.readNumber_any W w.heap.size db s.chg 0 4611686018427387904 r1 gW.rd hchg (by omega) (by omega)).mono ?_
    rintro e w' ⟨rfl,h1,h2⟩
    exact ⟨rfl,gW.read h1 h2⟩
  obtain ⟨z0,z1⟩:=hcl w4 _ _ g4'.out
  obtain ⟨y0,y1⟩:=hcl w4.drew _ _ (g4'.out.read (Ly.Rd.below g4'.out.rd (Below.drew (Below.refl _ _))) (Kp.of_below (Below.drew (Below.refl _ _))))
  have hcl':=Lib.hid hcl
  go_wp2_with fail
  go_region_held3 (fun W=>W.cell? ⟨w3.heap.size,0,none⟩=some (pv sb)/\W.cell? ⟨w1.heap.size,0,none⟩=some (rp w.heap.size))
    (first | exact ⟨z0,z1⟩ | exact ⟨y0,y1⟩ | exact hS5 | exact hS6)
    (first | (go_at_call 29;refine (c1 _ (Below.drew (Below.refl _ _))).mono ?_;rintro e w5 ⟨rfl,g5⟩;have hS5:=hcl'.out w5 _ _ g5;have f5:=Lib.frozen_of_heap g5.c 0;have c5:=Lib.cell_of_heap g5.c 0;obtain ⟨w6,hw6⟩:∃ w6,w5.setCell ⟨sb,0,none⟩ (.int .i64 (s.chg:Int))=w6:=⟨_,rfl⟩;have g6:=g5.set 0 (.int .i64 (s.chg:Int));rw [hw6] at g6;have hS6:=hcl'.out w6 _ _ g6))
  all_goals
    have g6':LB w w.heap.size db w1.heap.size w3.heap.size sb w6 #[.int .i64 (s.chg:Int),.map (some bm)] r1:=g6
    have hlb:∀ b∈s.books,bkAt s b.name=some b:=fun b hb=>bkAt_mem hO'.out.rise.nodup hb
    have hbb:=books_bytes hO'.out
    have hnl:(s.books.map (·.name)).length=s.books.length:=List.length_map ..
    have h16:=hO'.out.most
    have c2:∀ W,Below w6.heap.size w6 W->Calls Tryz.prog 30 #[rp w.heap.size,.int .i64 16,.func (.func 31) #[] #[.pointer (some ⟨w1.heap.size,0,none⟩),.pointer (some ⟨w3.heap.size,0,none⟩)]] W fun e w'=>∃ m,e=.returned (.map (some m))/\LB w w.heap.size db w1.heap.size w3.heap.size sb w' #[.int .i64 (s.chg:Int),.map (some bm)] []:=fun W hW=>by
      have gW:=g6'.read (Ly.Rd.below g6'.rd hW) (Kp.of_below hW)
      have hGW:Grd w0 W:=hG'.out.below gW.bel
      refine (getNamedB_any w0 W w.heap.size db (s.books.map (·.name)) (fun r=>((bkAt s r).map bookF).getD []) [] (.pointer (some ⟨w1.heap.size,0,none⟩)) (.pointer (some ⟨w3.heap.size,0,none⟩)) 16 hGW hw0 (by rw [hbb,hnl,List.append_nil,hr1];exact gW.rd) (by rw [hbb,List.length_nil];omega) (by omega) (by omega) hO'.out.rise (fun r hr=>by
        obtain ⟨b,hb,rfl⟩:=List.mem_map.1 hr
        exact Pa.fits_ne (hC'.out b hb).2) (fun r hr=>by
        obtain ⟨b,hb,rfl⟩:=List.mem_map.1 hr
        exact (hC'.out b hb).2) (fun W2 r l' hr hK hR hl'=>by
        obtain ⟨b,hb,rfl⟩:=List.mem_map.1 hr
        have g2:=gW.read hR hK
        have e:((bkAt s b.name).map bookF).getD []=bookF b:=by rw [hlb b hb];rfl
        rw [e] at hR hl'
        rw [List.length_append] at hl'
        exact load1_any w0 W2 w.heap.size db w1.heap.size w3.heap.size sb s.chg b l' (hG'.out.below g2.bel) hw0 hR hl' hchg (hC'.out b hb).1 (Lib.cell_of_heap g2.a 0) (Lib.cell_of_heap g2.s 0) (Lib.cell_of_heap g2.c 0) (Array.getElem?_eq_some_iff.1 g2.a).1 (Array.getElem?_eq_some_iff.1 g2.s).1 (Array.getElem?_eq_some_iff.1 g2.c).1 g2.n4 g2.n5 g2.ns)).mono ?_
      rintro e w' ⟨m,rfl,h1,h2⟩
      exact ⟨m,rfl,gW.read h1 h2⟩
    obtain ⟨z0,z1⟩:=hcl'.out w6 _ _ g6'
    obtain ⟨y0,y1⟩:=hcl'.out w6.drew _ _ (g6'.read (Ly.Rd.below g6'.rd (Below.drew (Below.refl _ _))) (Kp.of_below (Below.drew (Below.refl _ _))))
    clear c1 g5 g6 hS5 hS6 f5 c5 hlb hbb hnl h16
    go_wp2_with fail
    go_region_held3 (fun W=>W.cell? ⟨w3.heap.size,0,none⟩=some (pv sb)/\W.cell? ⟨w1.heap.size,0,none⟩=some (rp w.heap.size))
      (first | exact ⟨z0,z1⟩ | exact ⟨y0,y1⟩ | exact hS7 | exact hS8)
      (first | (go_at_call 30;refine (c2 _ (Below.drew (Below.refl _ _))).mono ?_;rintro e w7 ⟨m,rfl,g7⟩;have hS7:=hcl'.out w7 _ _ g7;have f7:=Lib.frozen_of_heap g7.c 1;have c7:=Lib.cell_of_heap g7.c 1;obtain ⟨w8,hw8⟩:∃ w8,w7.setCell ⟨sb,1,none⟩ (.map (some m))=w8:=⟨_,rfl⟩;have g8:=g7.set 1 (.map (some m));rw [hw8] at g8;have hS8:=hcl'.out w8 _ _ g8))
    all_goals
      have g8':LB w w.heap.size db w1.heap.size w3.heap.size sb w8 #[.int .i64 (s.chg:Int),.map (some m)] []:=g8
      have cE:=Ly.end_any w8 w.heap.size db g8'.rd
      obtain ⟨q0,q1⟩:=hcl'.out w8 _ _ g8'
      have hg8:=Lib.hid g8'
      clear c2 g7 g8 g8' hS7 hS8 f7 c7 z0 z1 y0 y1 g6'
      go_wp2_with fail
      go_at_call 33
      refine cE.mono ?_
      rintro e w9 ⟨rfl,rfl⟩
      clear cE
      go_wp2
      go_ret2
      exact ⟨sb,rfl,⟨_,hg8.out.c⟩,hg8.out.bel⟩
structure Shf (B sb:Nat) (F:List Nat) (s:Sh) (w:World):Prop where
  is:∃ bm L,ShIs w sb bm L s.chg/\L.map Prod.fst=s.books/\F=fpS sb bm L
  ok:ShOk s
  low:∀ k∈F,B<=k
section
variable {B sb:Nat} {F:List Nat} {s:Sh} {w w':World}
theorem Shf.lt (h:Shf B sb F s w):∀ k∈F,k < w.heap.size:=by
  obtain ⟨bm,L,h1,_,rfl⟩:=h.is
  exact h1.lt
theorem Shf.heap (h:Shf B sb F s w) (hk:∀ k∈F,w'.heap[k]?=w.heap[k]?):Shf B sb F s w':=by
  obtain ⟨⟨bm,L,h1,h2,rfl⟩,h4,h5⟩:=h
  exact ⟨⟨bm,L,h1.heap hk,h2,rfl⟩,h4,h5⟩
theorem Shf.kept (h:Shf B sb F s w) (hb:Below w.heap.size w w'):Shf B sb F s w':=h.heap fun k hk=>hb.block k (h.lt k hk)
end
def Did (w0:World) (B sb:Nat) (F:List Nat) (w w':World) (v:Value) (o:Sh × Rep):Prop :=
  RepIs w.heap.size w' v o.2/\∃ F',Shf B sb F' o.1 w'/\(∀ k∈F',k∈F\/w.heap.size<=k)/\Kp F w w'/\Grd w0 w'/\∀ st tag data ev tok,v=repV st tag data ev tok->∀ k,ev.ownBlock=some k->k∉F'
theorem doS (w0 w:World) (B sb:Nat) (F:List Nat) (s:Sh) (op:Int) (bk nm dt mt nn tk:ByteArray) (ns:List Row) (nv:Value) (hnv:Li.StrsAt w nv ns) (pos ses sq:Int) (hG:Grd w0 w) (h:Shf B sb F s w) (hw0:w0.heap.size<=B) (hC:CmdOk bk nm dt mt nn tk ns pos) (hchg:s.chg < 4611686018427387904) :
    Calls Tryz.prog 9 #[pv sb,.agg (cmdA op bk nm dt mt nn tk nv pos ses sq)] w fun e w'=>∃ v,e=.returned v/\Did w0 B sb F w w' v (doC envP s (cmdD op bk nm dt mt nn tk ns pos)):=by
  obtain ⟨⟨bm,L,h1,h2,rfl⟩,h4,h5⟩:=h
  refine (do_any w0 w sb bm L s op bk nm dt mt nn tk ns nv hnv pos ses sq hG h1 h2 h4 hC hchg).mono ?_
  rintro e w' ⟨v,rfl,hR,L',k1,k2,k3,k4,k5⟩
  have hlow:∀ k∈fpS sb bm L',B<=k:=fun k hk=>by
    rcases k4 k hk with h | h
    · exact h5 k h
    · have h6:=h5 sb (by simp [fpS])
      have h7:=h1.lt sb (by simp [fpS])
      omega
  exact ⟨v,rfl,hR,_,⟨⟨bm,L',k1,k2,rfl⟩,doC_ok envOk h4 _,hlow⟩,k4,k3,hG.kp k3 fun k hk=>Nat.le_trans hw0 (h5 k hk),k5⟩
theorem noN {w:World}:Li.StrsAt w (.slice none 0 0) []:=⟨none,0,0,0,rfl,by simp,by unfold maxLen;omega,fun h=>absurd h (by simp),fun j p h=>by simp at h⟩
theorem doN (w0 w:World) (B sb:Nat) (F:List Nat) (s:Sh) (op:Int) (bk nm dt mt nn tk:ByteArray) (pos:Int) (hG:Grd w0 w) (h:Shf B sb F s w) (hw0:w0.heap.size<=B) (hl:bk.size<=1048576/\nm.size<=1048576/\dt.size<=1048576/\mt.size<=1048576/\nn.size<=1048576/\tk.size<=1048576/\0<=pos/\pos<=1048576) (hchg:s.chg < 4611686018427387904) :
    Calls Tryz.prog 9 #[pv sb,.agg #[.int .i64 op,.string bk,.string nm,.string dt,.string mt,.string nn,.string tk,.slice none 0 0,.int .i64 pos,.int .i64 0,.int .i64 0]] w fun e w'=>∃ v,e=.returned v/\Did w0 B sb F w w' v (doC envP s (cmdD op bk nm dt mt nn tk [] pos)) :=
  doS w0 w B sb F s op bk nm dt mt nn tk [] _ noN pos 0 0 hG h hw0 ⟨by omega,by omega,by omega,by omega,by omega,by omega,by simp,fun x h=>by simp at h,by omega⟩ hchg
theorem newS (w0 w:World) (hG:Grd w0 w):Calls Tryz.prog 8 #[] w fun e w'=>∃ sb F,e=.returned (pv sb)/\Shf w.heap.size sb F ⟨0,[]⟩ w'/\Below w.heap.size w w'/\Grd w0 w':=by
  refine (new_any w).mono ?_
  rintro e w' ⟨sb,bm,rfl,h1,h2,h3,h4⟩
  exact ⟨sb,_,rfl,⟨⟨bm,[],h1,rfl,rfl⟩,shOk_start,fun k hk=>by simp [fpS] at hk;rcases hk with rfl | rfl<;>assumption⟩,h4,hG.below h4⟩
theorem formS {w:World} {B sb:Nat} {F:List Nat} {s:Sh} (h:Shf B sb F s w) (hchg:s.chg<=4611686018427387904):Calls Tryz.prog 16 #[pv sb] w fun e w'=>∃ v,e=.returned v/\Ly.BOwn w.heap.size v (shelfF s) w'/\Below w.heap.size w w':=by
  obtain ⟨⟨bm,L,h1,h2,rfl⟩,h4,h5⟩:=h
  exact form_any w sb bm L s h1 h2 h4 hchg
end Bo
namespace Bo
open Go.Lib Go.RowKit
abbrev aB:ByteArray:=⟨#[97]⟩
abbrev xB:ByteArray:=⟨#[120]⟩
abbrev zB:ByteArray:=⟨#[]⟩
abbrev t1B:ByteArray:=⟨#[117,114,110,58,99,97,108,101,112,105,110,58,49,46,49]⟩
abbrev t2R:Row:=[117,114,110,58,99,97,108,101,112,105,110,58,49,46,50]
def bk1:Bk:=⟨[97],1,1,[],[]⟩
def sh1:Sh:=⟨1,[bk1]⟩
def bk2:Bk:=⟨[97],1,1,[⟨[120],2,cardN 1⟩],[⟨2,[120],false⟩]⟩
def shp2:Sh:=⟨2,[bk2]⟩
theorem f_make:doC envP ⟨0,[]⟩ (cmdD 1 aB zB zB zB zB zB [] 0)=(sh1,{ st:=201,tag:=1 }):=by kernel_rfl
theorem f_put:doC envP sh1 (cmdD 3 aB xB ⟨(cardN 1).toArray⟩ zB zB zB [] 0)=(shp2,{ st:=201,tag:=2 }):=by kernel_rfl
theorem f_sync:doC envP shp2 (cmdD 7 aB zB zB zB zB t1B [] 0)=(shp2,{ st:=207,ents:=[⟨[120],2,[],false⟩],tok:=t2R }):=by kernel_rfl
theorem f_can:∀ b∈shp2.books,BkCan shp2.chg b/\Pa.fits b.name=true:=fun b hb=>by
  obtain rfl:b=bk2:=by simpa [shp2] using hb
  refine ⟨⟨by decide,by decide,fun l hl=>?_,?_,by decide,by decide,fun k x hx=>?_⟩,by kernel_rfl⟩
  · obtain rfl:l=⟨[120],2,cardN 1⟩:=by simpa [bk2] using hl
    exact ⟨by decide,by decide,by kernel_rfl,cardN_norm (by decide)⟩
  · exact List.pairwise_singleton _ _
  · match k,hx with
    | 0,hx =>
      obtain rfl:x=⟨2,[120],false⟩:=by simpa [bk2] using hx.symm
      exact ⟨by decide,by decide,by kernel_rfl⟩
    | k+1,hx=>simp [bk2] at hx
abbrev t2B:ByteArray:=⟨#[117,114,110,58,99,97,108,101,112,105,110,58,49,46,50]⟩
theorem change_cell (w:World) (sb:Nat) (n:Int) (h:w.cell? ⟨sb,0,none⟩=some (.int .i64 n)):Calls Tryz.prog 17 #[pv sb] w fun e w'=>e=.returned (.int .i64 n)/\w'=w:=by
  go_enter Tryz.func17,Tryz.ntmps17
  go_wp2
  go_ret
  exact ⟨rfl,rfl⟩
abbrev rpC (st tag:Int) (data:ByteArray) (ev:Value) (tok:ByteArray):Array Value:=#[.int .i64 st,.int .i64 tag,.string data,ev,.string tok]
theorem row_form {w:World} {B:Nat} {e:TypeId} {size:Nat} {v:Value} {n:Nat} {xs:List Value} (h:w.ownsRow B e size v n xs):∃ ao m c,v=.slice ao m c:=by
  rcases h.2 with ⟨h,_⟩ | ⟨g,cap,cur,h,_⟩
  · exact ⟨_,_,_,h⟩
  · exact ⟨_,_,_,h⟩
theorem shp2_ok:ShOk shp2:=by
  have h1:ShOk (doC envP ⟨0,[]⟩ (cmdD 1 aB zB zB zB zB zB [] 0)).1:=doC_ok envOk shOk_start _
  rw [f_make] at h1
  have h2:ShOk (doC envP sh1 (cmdD 3 aB xB ⟨(cardN 1).toArray⟩ zB zB zB [] 0)).1:=doC_ok envOk h1 _
  rw [f_put] at h2
  exact h2
theorem first_any (w0 w:World) (hG:Grd w0 w):Calls Tryz.prog 7 #[] w fun e w'=>e=.returned (.bool true)/\Below w.heap.size w w':=by
  have cN:=newS w0 w hG
  have hw0:=hG.low.size
  go_enter Tryz.func7,Tryz.ntmps7
  go_wp2_with fail
  go_at_call 8
  refine cN.mono ?_
  rintro e w1 ⟨sb,F1,rfl,hS1,hb1,hG1⟩
  have cD:=doN w0 w1 w.heap.size sb F1 ⟨0,[]⟩ 1 aB zB zB zB zB zB 0 hG1 hS1 hw0 (by decide) (by decide)
  rw [f_make] at cD
  have hb1':=Lib.hid hb1
  have hS1':=Lib.hid hS1
  clear cN hS1 hb1 hG1
  go_wp2_with fail
  go_at_call 9
  refine cD.mono ?_
  rintro e w2 ⟨v2,rfl,⟨ev2,hv2,hrow2⟩,F2,hS2,hF2,hK2,hG2,_⟩
  have hv2:v2=.agg #[.int .i64 201,.int .i64 1,.string ⟨#[]⟩,ev2,.string ⟨#[]⟩]:=hv2
  subst hv2
  obtain ⟨aa2,n2,c2,rfl⟩:=row_form hrow2
  -- the first reply's box
  have hal2:Below w2.heap.size w2 (w2.alloc (.cells (rpC 201 1 ⟨#[]⟩ (.slice aa2 n2 c2) ⟨#[]⟩) 29)):=(Below.refl _ _).alloc (Nat.le_refl _) _
  have hg2:(w2.alloc (.cells (rpC 201 1 ⟨#[]⟩ (.slice aa2 n2 c2) ⟨#[]⟩) 29)).heap[w2.heap.size]?=some (.cells (rpC 201 1 ⟨#[]⟩ (.slice aa2 n2 c2) ⟨#[]⟩) 29 (0,0)):=heap_alloc_new _ _
  have hb2:Below w.heap.size w w2:=hK2.below hb1'.out hS1'.out.low hb1'.out.size
  have hb2a:=hb2.trans (hal2.mono hb2.size)
  have hS2a:=hS2.kept hal2
  have hG2a:=hG2.below hal2
  have hn2:w2.heap.size∉F2:=fun h=>by have:=hS2.lt _ h;omega
  have hz2:w2.heap.size < (w2.alloc (.cells (rpC 201 1 ⟨#[]⟩ (.slice aa2 n2 c2) ⟨#[]⟩) 29)).heap.size:=by simp
  obtain ⟨w2a,hw2a⟩:∃ w2a,w2.alloc (.cells (rpC 201 1 ⟨#[]⟩ (.slice aa2 n2 c2) ⟨#[]⟩) 29)=w2a:=⟨_,rfl⟩
  obtain ⟨g2,hgg2⟩:∃ g2,w2.heap.size=g2:=⟨_,rfl⟩
  rw [hw2a] at hg2 hb2a hS2a hG2a hz2
  rw [hgg2] at hg2 hn2 hz2
  have cC:=card_any 1 w2a
  have X2:=Lib.hid (And.intro hg2 (And.intro hb2a (And.intro hS2a (And.intro hG2a (And.intro hn2 hz2)))))
  have hw2a':=Lib.hid hw2a
  have hgg2':=Lib.hid hgg2
  clear cD hv2 hrow2 hS2 hF2 hK2 hG2 hal2 hg2 hb2 hb2a hS2a hG2a hn2 hz2 hw2a hgg2
  go_wp2_with fail
  rw [show w2.alloc (.cells (rpC 201 1 ⟨#[]⟩ (.slice aa2 n2 c2) ⟨#[]⟩) 29)=w2a from hw2a'.out,hgg2'.out]
  go_at_call 12
  refine cC.mono ?_
  rintro e w3 ⟨rfl,hb3⟩
  have hle:letN 1=1:=by decide
  rw [hle]
  obtain ⟨hg2,hb2a,hS2a,hG2a,hn2,hz2⟩:=X2.out
  have hg3:=(hb3.block g2 hz2).trans hg2
  have hS3:=hS2a.kept hb3
  have hG3:=hG2a.below hb3
  have hbw3:=hb2a.trans (hb3.mono hb2a.size)
  have hz3:=Nat.lt_of_lt_of_le hz2 hb3.size
  have cD:=doN w0 w3 w.heap.size sb F2 sh1 3 aB xB ⟨(cardN 1).toArray⟩ zB zB zB 0 hG3 hS3 hw0 (by decide) (by decide)
  rw [f_put] at cD
  have X3:=Lib.hid (And.intro hg3 (And.intro hbw3 (And.intro hS3 (And.intro hn2 hz3))))
  clear cC hb3 hg2 hb2a hS2a hG2a hn2 hz2 hg3 hS3 hG3 hbw3 hz3 X2
  go_wp2_with fail
  go_at_call 9
  refine cD.mono ?_
  rintro e w4 ⟨v4,rfl,⟨ev4,hv4,hrow4⟩,F4,hS4,hF4,hK4,hG4,_⟩
  have hv4:v4=.agg #[.int .i64 201,.int .i64 2,.string ⟨#[]⟩,ev4,.string ⟨#[]⟩]:=hv4
  subst hv4
  obtain ⟨aa4,n4,c4,rfl⟩:=row_form hrow4
  obtain ⟨hg3,hbw3,hS3,hn3,hz3⟩:=X3.out
  have hal4:Below w4.heap.size w4 (w4.alloc (.cells (rpC 201 2 ⟨#[]⟩ (.slice aa4 n4 c4) ⟨#[]⟩) 29)):=(Below.refl _ _).alloc (Nat.le_refl _) _
  have hg4:(w4.alloc (.cells (rpC 201 2 ⟨#[]⟩ (.slice aa4 n4 c4) ⟨#[]⟩) 29)).heap[w4.heap.size]?=some (.cells (rpC 201 2 ⟨#[]⟩ (.slice aa4 n4 c4) ⟨#[]⟩) 29 (0,0)):=heap_alloc_new _ _
  have hbw4:Below w.heap.size w w4:=hK4.below hbw3 hS3.low hbw3.size
  have hg24:=(hal4.block g2 (Nat.lt_of_lt_of_le hz3 hK4.size)).trans ((hK4.block g2 hz3 hn3).trans hg3)
  have hb4a:=hbw4.trans (hal4.mono hbw4.size)
  have hS4a:=hS4.kept hal4
  have hG4a:=hG4.below hal4
  have hn24:g2∉F4:=fun h=>by
    rcases hF4 g2 h with h1 | h1
    · exact hn3 h1
    · omega
  have hn4:w4.heap.size∉F4:=fun h=>by have:=hS4.lt _ h;omega
  have hz4:w4.heap.size < (w4.alloc (.cells (rpC 201 2 ⟨#[]⟩ (.slice aa4 n4 c4) ⟨#[]⟩) 29)).heap.size:=by simp
  have hz24:=Nat.lt_of_lt_of_le (Nat.lt_of_lt_of_le hz3 hK4.size) hal4.size
  obtain ⟨w4a,hw4a⟩:∃ w4a,w4.alloc (.cells (rpC 201 2 ⟨#[]⟩ (.slice aa4 n4 c4) ⟨#[]⟩) 29)=w4a:=⟨_,rfl⟩
  obtain ⟨g4,hgg4⟩:∃ g4,w4.heap.size=g4:=⟨_,rfl⟩
  rw [hw4a] at hg4 hg24 hb4a hS4a hG4a hz4 hz24
  rw [hgg4] at hg4 hn4 hz4
  have cE:=doN w0 w4a w.heap.size sb F4 shp2 7 aB zB zB zB zB t1B 0 hG4a hS4a hw0 (by decide) (by decide)
  rw [f_sync] at cE
  have X4:=Lib.hid (And.intro hg4 (And.intro hg24 (And.intro hb4a (And.intro hS4a (And.intro hn24 (And.intro hn4 (And.intro hz4 hz24)))))))
  have hw4a':=Lib.hid hw4a
  have hgg4':=Lib.hid hgg4
  clear cD hrow4 hS4 hF4 hK4 hG4 hg3 hbw3 hS3 hn3 hz3 hal4 hg4 hbw4 hg24 hb4a hS4a hG4a hn24 hn4 hz4 hz24 hw4a hgg4 X3
  go_wp2_with fail
  rw [show w4.alloc (.cells (rpC 201 2 ⟨#[]⟩ (.slice aa4 n4 c4) ⟨#[]⟩) 29)=w4a from hw4a'.out,hgg4'.out]
  go_at_call 9
  refine cE.mono ?_
  rintro e w6 ⟨v6,rfl,⟨ev6,hv6,hrow6⟩,F6,hS6,hF6,hK6,hG6,_⟩
  have hv6:v6=.agg #[.int .i64 207,.int .i64 0,.string ⟨#[]⟩,ev6,.string t2B]:=hv6
  subst hv6
  obtain ⟨aa6,c6,rfl⟩:∃ ao c,ev6=.slice ao 1 c:=by
    rcases hrow6.2 with ⟨_,h⟩ | ⟨g,cap,cur,h,_⟩
    · cases h
    · exact ⟨_,_,h⟩
  obtain ⟨hg4,hg24,hb4a,hS4a,hn24,hn4,hz4,hz24⟩:=X4.out
  have hal6:Below w6.heap.size w6 (w6.alloc (.cells (rpC 207 0 ⟨#[]⟩ (.slice aa6 1 c6) t2B) 29)):=(Below.refl _ _).alloc (Nat.le_refl _) _
  have hg6:(w6.alloc (.cells (rpC 207 0 ⟨#[]⟩ (.slice aa6 1 c6) t2B) 29)).heap[w6.heap.size]?=some (.cells (rpC 207 0 ⟨#[]⟩ (.slice aa6 1 c6) t2B) 29 (0,0)):=heap_alloc_new _ _
  have hbw6:Below w.heap.size w w6:=hK6.below hb4a hS4a.low hb4a.size
  have hg26:=(hal6.block g2 (Nat.lt_of_lt_of_le hz24 hK6.size)).trans ((hK6.block g2 hz24 hn24).trans hg24)
  have hg46:=(hal6.block g4 (Nat.lt_of_lt_of_le hz4 hK6.size)).trans ((hK6.block g4 hz4 hn4).trans hg4)
  have hb6a:=hbw6.trans (hal6.mono hbw6.size)
  have hS6a:=hS6.kept hal6
  have hG6a:=hG6.below hal6
  have hz6:w6.heap.size < (w6.alloc (.cells (rpC 207 0 ⟨#[]⟩ (.slice aa6 1 c6) t2B) 29)).heap.size:=by simp
  have hz26:=Nat.lt_of_lt_of_le (Nat.lt_of_lt_of_le hz24 hK6.size) hal6.size
  have hz46:=Nat.lt_of_lt_of_le (Nat.lt_of_lt_of_le hz4 hK6.size) hal6.size
  obtain ⟨w6a,hw6a⟩:∃ w6a,w6.alloc (.cells (rpC 207 0 ⟨#[]⟩ (.slice aa6 1 c6) t2B) 29)=w6a:=⟨_,rfl⟩
  obtain ⟨g6,hgg6⟩:∃ g6,w6.heap.size=g6:=⟨_,rfl⟩
  rw [hw6a] at hg6 hg26 hg46 hb6a hS6a hG6a hz6 hz26 hz46
  rw [hgg6] at hg6 hz6
  have cF:=formS hS6a (by decide)
  have X6:=Lib.hid (And.intro hg6 (And.intro hg26 (And.intro hg46 (And.intro hb6a (And.intro hG6a (And.intro hz6 (And.intro hz26 hz46)))))))
  have hw6a':=Lib.hid hw6a
  have hgg6':=Lib.hid hgg6
  clear cE hrow6 hS6 hF6 hK6 hG6 hg4 hg24 hb4a hS4a hn24 hn4 hz4 hz24 hal6 hg6 hbw6 hg26 hg46 hb6a hS6a hG6a hz6 hz26 hz46 hw6a hgg6 X4
  go_wp2_with fail
  rw [show w6.alloc (.cells (rpC 207 0 ⟨#[]⟩ (.slice aa6 1 c6) t2B) 29)=w6a from hw6a'.out,hgg6'.out]
  go_at_call 16
  refine cF.mono ?_
  rintro e w7 ⟨v7,rfl,hO7,hb7⟩
  obtain ⟨hg6,hg26,hg46,hb6a,hG6a,hz6,hz26,hz46⟩:=X6.out
  have cL:=load_any w0 w7 _ v7 shp2 (hG6a.below hb7) hO7 shp2_ok (by decide) f_can
  have k6:=(hb7.block g6 hz6).trans hg6
  have k4:=(hb7.block g4 hz46).trans hg46
  have k2:=(hb7.block g2 hz26).trans hg26
  have hb7w:=hb6a.trans (hb7.mono hb6a.size)
  have y6:=Nat.lt_of_lt_of_le hz6 hb7.size
  have y4:=Nat.lt_of_lt_of_le hz46 hb7.size
  have y2:=Nat.lt_of_lt_of_le hz26 hb7.size
  obtain ⟨aa7,n7,c7,rfl⟩:=row_form hO7
  have X7:=Lib.hid (And.intro k6 (And.intro k4 (And.intro k2 (And.intro hb7w (And.intro y6 (And.intro y4 y2))))))
  clear cF hO7 hb7 hg6 hg26 hg46 hb6a hG6a hz6 hz26 hz46 X6 k6 k4 k2 hb7w y6 y4 y2
  go_wp2_with fail
  go_at_call 15
  refine cL.mono ?_
  rintro e w8 ⟨sb2,rfl,⟨x8,hx8⟩,hb8⟩
  obtain ⟨k6,k4,k2,hb7w,y6,y4,y2⟩:=X7.out
  have m6:=(hb8.block g6 y6).trans k6
  have m4:=(hb8.block g4 y4).trans k4
  have m2:=(hb8.block g2 y2).trans k2
  have hb8w:=hb7w.trans (hb8.mono hb7w.size)
  have cG:=change_cell w8 sb2 2 (by rw [Lib.cell_of_heap hx8];rfl)
  obtain ⟨a0,a1,_⟩:=res5 m2
  obtain ⟨b0,b1,_⟩:=res5 m4
  obtain ⟨_,_,_,d3,d4,_⟩:=res5 m6
  have hE:((⟨#[117,114,110,58,99,97,108,101,112,105,110,58,49,46,50]⟩:ByteArray).toList==(⟨#[117,114,110,58,99,97,108,101,112,105,110,58,49,46,50]⟩:ByteArray).toList)=true:=by simp
  have hb8':=Lib.hid hb8w
  clear cL hx8 hb8 k6 k4 k2 hb7w y6 y4 y2 m6 m4 m2 hb8w X7
  go_wp2_with fail
  go_at_call 17
  refine cG.mono ?_
  rintro e w9 ⟨rfl,rfl⟩
  go_wp2
  go_ret
  exact ⟨rfl,hb8'.out⟩
def At (B sb:Nat) (w:World) (s:Sh) (wr:World):Prop:=∃ F,Shf B sb F s wr/\Grd w wr/\Below w.heap.size w wr
theorem size_of (l:Row):(⟨l.toArray⟩:ByteArray).size=l.length:=by show l.toArray.size=_;exact List.size_toArray
end Bo
end Go.Proofs.YtobfaibofhmpgaaGreatDoor
