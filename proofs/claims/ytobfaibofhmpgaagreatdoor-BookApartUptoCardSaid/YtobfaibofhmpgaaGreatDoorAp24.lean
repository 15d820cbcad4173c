import Derived.Test.YtobfaibofhmpgaaGreatDoorAp23
set_option linter.unusedVariables false
set_option maxHeartbeats 16000000
set_option maxRecDepth 100000
namespace Go.Proofs.YtobfaibofhmpgaaGreatDoor
namespace Ca
open Go.Lib Go.RowKit
open Li (LD PD sv LineAt PrmsAt pr chk SmallL)
theorem tot_rows (Ls:List LD):Fo.tot (rowsT Ls)=34+prsum Ls:=by
  unfold rowsT
  rw [Fo.tot_append,Fo.tot_append]
  have e1:Fo.tot [bBegin,bVersion]=24:=by decide
  have e2:Fo.tot [bEnd]=10:=by decide
  have e3:Fo.tot (Ls.map pr)=prsum Ls:=by unfold Fo.tot prsum;rw [List.map_map];rfl
  omega
theorem smallC_of {Ls:List LD} (h:prsum Ls<=134217728):SmallC Ls:=by
  have hp:∀ L∈Ls,(pr L).length<=134217728:=fun L hL=>by have:=prsum_mem hL;omega
  refine ⟨by have:=prsum_len Ls;omega,fun L hL=>Li.small_pr (by have:=hp L hL;omega),fun L hL=>by have:=hp L hL;omega,fun L hL=>?_⟩
  have hs:=Li.sz_pr (hp L hL)
  exact ⟨by have:=hs.n;omega,by have:=hs.v;omega⟩
theorem canC_of {Ls:List LD} (h:prsum Ls<=134217728) (hc:checkE Ls=0):CanC Ls:=by
  obtain ⟨h1,h2⟩:=checkE_zero.1 hc
  have hp:∀ L∈Ls,(pr L).length<=134217728:=fun L hL=>by have:=prsum_mem hL;omega
  exact ⟨by have:=prsum_len Ls;omega,fun L hL=>by have:=hp L hL;omega,fun L hL=>by have:=(Li.sz_pr (hp L hL)).v;omega,right_anew h2,right_ne h2,fun L hL=>name_ne (h1 L hL)⟩
def CanonP (B:Nat) (Ls:List LD) (e:Ending) (w':World):Prop :=
  (checkE Ls≠0/\e=.returned (.tuple #[.agg #[.slice none 0 0],.string ⟨#[]⟩,.int .i64 ((checkE Ls:Nat):Int)]))\/
  (checkE Ls=0/\65536 < (cardT (canC Ls)).length/\e=.returned (.tuple #[.agg #[.slice none 0 0],.string ⟨#[]⟩,.int .i64 11]))\/
  (checkE Ls=0/\(cardT (canC Ls)).length<=65536/\∃ (A:Option Addr) (n c:Nat) (x:ByteArray),e=.returned (.tuple #[.agg #[.slice A n c],.string x,.int .i64 0])/\x.data.toList=cardT (canC Ls)/\LsOwn B (.slice A n c) (canC Ls) w')
theorem checkE_lt (Ls:List LD):checkE Ls < 100:=by
  unfold checkE
  split
  · unfold Li.chk;split
    · omega
    · split
      · omega
      · split<;>omega
  · split<;>omega
theorem canonical_any (v:Value) (Ls:List LD) (w:World) (h:LinesAt w v Ls) (hS:prsum Ls<=67108864) (hT:Ch.Tabs w) :
    Calls Tryz.prog 116 #[.agg #[v]] w fun e w'=>CanonP w.heap.size Ls e w'/\Below w.heap.size w w':=by
  have hK:∀ W,Below w.heap.size w W->Calls Tryz.prog 144 #[.agg #[v]] W fun e w'=>e=.returned (.int .i64 ((checkE Ls:Nat):Int))/\Below W.heap.size W w':=fun W hW=>check_any v Ls W (h.kept hW) (smallC_of (by omega)) (Ch.tabs_below hT hW)
  obtain ⟨A0,n0,c0,hv⟩:∃ A n c,v=.slice A n c:=by obtain ⟨A,_,_,c,h,_⟩:=h;exact ⟨A,_,c,h⟩
  obtain ⟨Z,hZ⟩:∃ Z,w.heap.size=Z:=⟨_,rfl⟩
  obtain ⟨w2,hw2⟩:∃ w2,(w.alloc (.cells #[.slice A0 n0 c0] 143)).alloc (.cells #[.slice none 0 0] 143)=w2:=⟨_,rfl⟩
  have B2:Below w.heap.size w w2:=by rw [<-hw2];exact ((Below.refl _ _).alloc (Nat.le_refl _) _).alloc (by simp) _
  have hbox:w2.cell? ⟨Z,0,none⟩=some (.slice A0 n0 c0):=by
    rw [<-hw2,World.cell?_alloc_lt _ _ _ (by simp;omega),<-hZ];simp
  have hres:w2.heap[Z+1]?=some (.cells #[.slice none 0 0] 143 (0,0)):=by
    have:=heap_alloc_new (w.alloc (.cells #[.slice A0 n0 c0] 143)) (.cells #[.slice none 0 0] 143)
    rw [<-hw2,<-hZ];simpa using this
  have hz2:Z+2<=w2.heap.size:=by rw [<-hw2,<-hZ];simp
  have cK:=hK w2 B2
  obtain ⟨ce,hce⟩:∃ ce,checkE Ls=ce:=⟨_,rfl⟩
  have hce9:ce < 100:=by rw [<-hce];exact checkE_lt Ls
  rw [hce] at cK
  by_cases hc0:ce=0
  · -- a right card
    have hce0:checkE Ls=0:=hce.trans hc0
    have hcan:∀ W,Below w.heap.size w W->Calls Tryz.prog 145 #[.agg #[v]] W fun e w'=>(∃ u,e=.returned (.agg #[u])/\LsOwn W.heap.size u (canC Ls) w')/\Below W.heap.size W w':=fun W hW=>canonize_any v Ls W (h.kept hW) (canC_of (by omega) hce0)
    have hps:=prsum_canC hce0
    have hwr:∀ u W,Below w.heap.size w W->LinesAt W u (canC Ls)->Calls Tryz.prog 146 #[.agg #[u]] W fun e w'=>(∃ x:ByteArray,x.data.toList=cardT (canC Ls)/\e=.returned (.string x))/\Below W.heap.size W w':=fun u W hW hu =>
      write_any u (canC Ls) W hu (checkE_zero.1 (canC_check hce0)).1 (fun L hL=>by have:=prsum_mem hL;omega) (by have:=prsum_len (canC Ls);omega) (by rw [tot_rows];omega) (Ch.tabs_below hT hW)
    have hcan':=Lib.hid hcan
    have hwr':=Lib.hid hwr
    have hce0':=Lib.hid hce0
    have hres':=Lib.hid hres
    have hZ':=Lib.hid hZ
    have B2':=Lib.hid B2
    subst hc0
    subst hv
    clear hcan hwr hK hce hce0 hS hps hce9 hres B2 hT h
    go_enter Tryz.func116,Tryz.ntmps116
    go_wp2_with fail
    clear hZ
    go_at_call 144
    refine cK.mono ?_
    rintro e w3 ⟨rfl,hb3⟩
    have B3:=belowThen B2'.out hb3
    have hz3:Z+2<=w3.heap.size:=Nat.le_trans hz2 hb3.size
    have hbox3:w3.cell? ⟨Z,0,none⟩=some (.slice A0 n0 c0):=(hb3.cell (p:=⟨Z,0,none⟩) (by show Z < _;omega)).trans hbox
    have hres3:w3.heap[Z+1]?=some (.cells #[.slice none 0 0] 143 (0,0)):=(hb3.block _ (by omega)).trans hres'.out
    have cC:=hcan'.out w3 B3
    have B3':=Lib.hid B3
    have hres3':=Lib.hid hres3
    clear cK hb3 hbox hres3 B3
    go_wp2_with fail
    go_at_call 145
    refine cC.mono ?_
    rintro e w4 ⟨⟨u,rfl,ho⟩,hb4⟩
    obtain ⟨ua,uc,rfl⟩:=ho.form
    obtain ⟨un,hun⟩:∃ un,(canC Ls).length=un:=⟨_,rfl⟩
    rw [hun] at ho ⊢
    have hres4:w4.heap[Z+1]?=some (.cells #[.slice none 0 0] 143 (0,0)):=(hb4.block _ (by omega)).trans hres3'.out
    have q4:w4.cell? ⟨Z+1,0,none⟩=some (.slice none 0 0):=by rw [Lib.cell_of_heap hres4];rfl
    have f4:w4.frozen? ⟨Z+1,0,none⟩=false:=Lib.frozen_of_heap hres4 0
    have B4:=belowThen B3'.out hb4
    obtain ⟨w5,hw5⟩:∃ w5,w4.setCell ⟨Z+1,0,none⟩ (.slice ua un uc)=w5:=⟨_,rfl⟩
    have hres5:w5.heap[Z+1]?=some (.cells #[.slice ua un uc] 143 (0,0)):=by rw [<-hw5];simp [World.setCell,Array.getElem?_modify,hres4]
    have q5:w5.cell? ⟨Z+1,0,none⟩=some (.slice ua un uc):=by rw [Lib.cell_of_heap hres5];rfl
    have ho5:LsOwn w3.heap.size (.slice ua un uc) (canC Ls) w5:=by rw [<-hw5];exact ho.stored (a:=⟨Z+1,0,none⟩) (by show Z+1 < _;omega) _
    have B5:Below w.heap.size w w5:=by rw [<-hw5];exact B4.setCell (p:=⟨Z+1,0,none⟩) (by show w.heap.size<=Z+1;rw [hZ'.out];omega) _
    have hz5:w5.heap.size=w4.heap.size:=by rw [<-hw5];simp
    have hz4:Z+2<=w4.heap.size:=Nat.le_trans hz3 hb4.size
    have cW:=hwr'.out _ w5 B5 ho5.at
    have ho5':=Lib.hid ho5
    have B5':=Lib.hid B5
    have hres5':=Lib.hid hres5
    have hz5':Z+2<=w5.heap.size:=by omega
    clear cC ho hb4 hres4 ho5 B5 B4 hres5 hz5 hun
    go_wp2_with fail
    go_at_call 146
    refine cW.mono ?_
    rintro e w6 ⟨⟨x,hx,rfl⟩,hb6⟩
    have hres6:w6.heap[Z+1]?=some (.cells #[.slice ua un uc] 143 (0,0)):=(hb6.block _ (by omega)).trans hres5'.out
    have q6:w6.cell? ⟨Z+1,0,none⟩=some (.slice ua un uc):=by rw [Lib.cell_of_heap hres6];rfl
    have f6:w6.frozen? ⟨Z+1,0,none⟩=false:=Lib.frozen_of_heap hres6 0
    have B6:=belowThen B5'.out hb6
    have ho6:=ho5'.out.kept hb6
    have hxl:x.size=(cardT (canC Ls)).length:=by rw [Lib.size_eq,hx]
    by_cases hlong:65536 < x.size
    · have hz:(65536:Int) < (x.size:Int):=by omega
      have HP:Hid (CanonP w.heap.size Ls (.returned (.tuple #[.agg #[.slice none 0 0],.string ⟨#[]⟩,.int .i64 11])) (w6.setCell ⟨Z+1,0,none⟩ (.slice none 0 0))/\Below w.heap.size w (w6.setCell ⟨Z+1,0,none⟩ (.slice none 0 0))) :=
        ⟨.inr (.inl ⟨hce0'.out,by rw [<-hxl];exact hlong,rfl⟩),B6.setCell (p:=⟨Z+1,0,none⟩) (by show w.heap.size<=Z+1;rw [hZ'.out];omega) _⟩
      have hres7:(w6.setCell ⟨Z+1,0,none⟩ (.slice none 0 0)).heap[Z+1]?=some (.cells #[.slice none 0 0] 143 (0,0)):=by simp [World.setCell,Array.getElem?_modify,hres6]
      have q7:(w6.setCell ⟨Z+1,0,none⟩ (.slice none 0 0)).cell? ⟨Z+1,0,none⟩=some (.slice none 0 0):=by rw [Lib.cell_of_heap hres7];rfl
      clear cW hb6 hres6 B6 ho6 hxl hx hlong hres7
      go_wp2
      exact bodyPost_ret (v:=.tuple #[.agg #[.slice none 0 0],.string ⟨#[]⟩,.int .i64 11]) (by simp [results,Tryz.results116,go_sem,q7]) rfl HP.out
    · have hz:¬ (65536:Int) < (x.size:Int):=by omega
      have HP:Hid (CanonP w.heap.size Ls (.returned (.tuple #[.agg #[.slice ua un uc],.string x,.int .i64 0])) (w6.setCell ⟨Z+1,0,none⟩ (.slice ua un uc))/\Below w.heap.size w (w6.setCell ⟨Z+1,0,none⟩ (.slice ua un uc))) :=
        ⟨.inr (.inr ⟨hce0'.out,by rw [<-hxl];omega,ua,un,uc,x,rfl,hx,(ho6.stored (a:=⟨Z+1,0,none⟩) (by show Z+1 < _;omega) _).less (by rw [hZ'.out];omega)⟩),B6.setCell (p:=⟨Z+1,0,none⟩) (by show w.heap.size<=Z+1;rw [hZ'.out];omega) _⟩
      have hres7:(w6.setCell ⟨Z+1,0,none⟩ (.slice ua un uc)).heap[Z+1]?=some (.cells #[.slice ua un uc] 143 (0,0)):=by simp [World.setCell,Array.getElem?_modify,hres6]
      have q7:(w6.setCell ⟨Z+1,0,none⟩ (.slice ua un uc)).cell? ⟨Z+1,0,none⟩=some (.slice ua un uc):=by rw [Lib.cell_of_heap hres7];rfl
      clear cW hb6 hres6 B6 ho6 hxl hx hlong hres7
      go_wp2
      exact bodyPost_ret (v:=.tuple #[.agg #[.slice ua un uc],.string x,.int .i64 0]) (by simp [results,Tryz.results116,go_sem,q7]) rfl HP.out
  · have d0:¬ (ce:Int)=0:=by omega
    have d0':((ce:Int)==0)=false:=beq_eq_false_iff_ne.2 d0
    have hce':=Lib.hid hce
    have hres':=Lib.hid hres
    have hZ':=Lib.hid hZ
    have B2':=Lib.hid B2
    subst hv
    clear hK hce hS hres B2 hT h
    go_enter Tryz.func116,Tryz.ntmps116
    go_wp2_with fail
    clear hZ
    go_at_call 144
    refine cK.mono ?_
    rintro e w3 ⟨rfl,hb3⟩
    have B3:=belowThen B2'.out hb3
    have hres3:w3.heap[Z+1]?=some (.cells #[.slice none 0 0] 143 (0,0)):=(hb3.block _ (by omega)).trans hres'.out
    have q3:w3.cell? ⟨Z+1,0,none⟩=some (.slice none 0 0):=by rw [Lib.cell_of_heap hres3];rfl
    have f3:w3.frozen? ⟨Z+1,0,none⟩=false:=Lib.frozen_of_heap hres3 0
    have HP:Hid (CanonP w.heap.size Ls (.returned (.tuple #[.agg #[.slice none 0 0],.string ⟨#[]⟩,.int .i64 (ce:Int)])) (w3.setCell ⟨Z+1,0,none⟩ (.slice none 0 0))/\Below w.heap.size w (w3.setCell ⟨Z+1,0,none⟩ (.slice none 0 0))) :=
      ⟨.inl ⟨by rw [hce'.out];exact hc0,by rw [hce'.out]⟩,B3.setCell (p:=⟨Z+1,0,none⟩) (by show w.heap.size<=Z+1;rw [hZ'.out];omega) _⟩
    have hres7:(w3.setCell ⟨Z+1,0,none⟩ (.slice none 0 0)).heap[Z+1]?=some (.cells #[.slice none 0 0] 143 (0,0)):=by simp [World.setCell,Array.getElem?_modify,hres3]
    have q7:(w3.setCell ⟨Z+1,0,none⟩ (.slice none 0 0)).cell? ⟨Z+1,0,none⟩=some (.slice none 0 0):=by rw [Lib.cell_of_heap hres7];rfl
    clear cK hb3 hbox hres3 B3 hres7 hc0
    go_wp2
    exact bodyPost_ret (v:=.tuple #[.agg #[.slice none 0 0],.string ⟨#[]⟩,.int .i64 (ce:Int)]) (by simp [results,Tryz.results116,go_sem,q7]) rfl HP.out
open Li (LD PD sv LineAt PrmsAt LOwn pr parse chk)
def ParseC (t:Row) (e:Ending) (w':World):Prop:=∃ (A:Option Addr) (n c:Nat),e=.returned (.tuple #[.agg #[.slice A n c],.int .i64 (((pcard t).1:Nat):Int)])/\LinesAt w' (.slice A n c) (pcard t).2
theorem linesNil (w:World):LinesAt w (.slice none 0 0) []:=(LsOwn.nil 0 w).at
theorem parse_pr_le {rows:List Row} {Ls:List LD} (h:AllP rows Ls):prsum Ls<=3*Fo.tot rows:=by
  obtain ⟨h1,h2⟩:=h
  induction Ls generalizing rows with
  | nil=>simp [prsum]
  | cons L Ls ih =>
    cases rows with
    | nil=>simp at h1
    | cons r rows =>
      have h0:=Li.parse_len (h2 0 (by simp) (by simp))
      have:=ih (rows:=rows) (by simpa using h1) (fun i a b=>by have:=h2 (i+1) (by simpa using a) (by simpa using b);simpa using this)
      unfold prsum Fo.tot at this ⊢
      simp only [List.map_cons,List.sum_cons]
      simp only [List.getElem_cons_zero] at h0
      omega
theorem prsum_sub {Ls:List LD}:prsum (midL Ls)<=prsum Ls:=by
  have e:Ls=Ls.take 2++((Ls.drop 2).take (Ls.length - 1 - 2)++(Ls.drop 2).drop (Ls.length - 1 - 2)):=by rw [List.take_append_drop,List.take_append_drop]
  unfold midL
  conv=>rhs;rw [e]
  unfold prsum
  simp only [List.map_append,List.sum_append]
  omega
theorem LsOwn.mid {B:Nat} {v:Value} {Ls:List LD} {w:World} (h:LsOwn B v Ls w) (h3:3<=Ls.length):∃ (g cap:Nat),v=.slice (some ⟨g,0,none⟩) Ls.length cap/\Ls.length<=cap/\cap<=maxLen/\LinesAt w (.slice (some ⟨g,8,none⟩) (Ls.length - 1 - 2) (cap - 2)) (midL Ls):=by
  have ha:=h.at
  obtain ⟨vs,hl,⟨h1,h2 | ⟨g,cap,cur,e1,e2,e3,e4,e5,e6,e7⟩⟩,hv⟩:=h
  · have:=h2.2;omega
  · obtain ⟨A,b,off,c,q1,q2,q3,q4,q5⟩:=ha
    obtain ⟨rfl,hb⟩:=q4 (by omega)
    rw [e1] at q1
    injection q1 with q1 _ qc
    injection q1 with q1
    injection q1 with qb qo _
    subst qb;subst qo;subst qc
    have hml:(midL Ls).length=Ls.length - 1 - 2:=by unfold midL;simp;omega
    refine ⟨g,cap,e1,e4,e5,some ⟨g,8,none⟩,g,8,cap - 2,by rw [hml],by rw [hml];omega,by omega,fun _=>⟨rfl,hb⟩,fun j L hj=>?_⟩
    have hj2:Ls[j+2]?=some L:=by
      unfold midL at hj
      rw [List.getElem?_take] at hj
      split at hj
      · rw [List.getElem?_drop] at hj
        rw [Nat.add_comm];exact hj
      · cases hj
    have:=q5 (j+2) L hj2
    rw [show 0+(j+2)*4=8+j*4 by omega] at this
    exact this
theorem parse_any (T:ByteArray) (w:World) (hs:T.size<=1099511627776) (hT:Ch.Tabs w) :
    Calls Tryz.prog 86 #[.string T] w fun e w'=>ParseC T.data.toList e w'/\Below w.heap.size w w':=by
  obtain ⟨Z,hZ⟩:∃ Z,w.heap.size=Z:=⟨_,rfl⟩
  obtain ⟨w1,hw1⟩:∃ w1,w.alloc (.cells #[.slice none 0 0] 143)=w1:=⟨_,rfl⟩
  have B1:Below w.heap.size w w1:=by rw [<-hw1];exact (Below.refl _ _).alloc (Nat.le_refl _) _
  have hres:w1.heap[Z]?=some (.cells #[.slice none 0 0] 143 (0,0)):=by rw [<-hw1,<-hZ];exact heap_alloc_new w _
  have hz1:Z+1<=w1.heap.size:=by rw [<-hw1,<-hZ];simp
  -- an error's end: the zero card is stored once more
  have ERR:∀ (n:Nat) (W:World),pcard T.data.toList=(n,[])->Below w1.heap.size w1 W->W.cell? ⟨Z,0,none⟩=some (.slice none 0 0)/\W.frozen? ⟨Z,0,none⟩=false/\(W.setCell ⟨Z,0,none⟩ (.slice none 0 0)).cell? ⟨Z,0,none⟩=some (.slice none 0 0)/\
      (ParseC T.data.toList (.returned (.tuple #[.agg #[.slice none 0 0],.int .i64 (n:Int)])) (W.setCell ⟨Z,0,none⟩ (.slice none 0 0))/\Below w.heap.size w (W.setCell ⟨Z,0,none⟩ (.slice none 0 0))):=fun n W hn hb=>by
    have hr:W.heap[Z]?=some (.cells #[.slice none 0 0] 143 (0,0)):=(hb.block _ (by omega)).trans hres
    have hr2:(W.setCell ⟨Z,0,none⟩ (.slice none 0 0)).heap[Z]?=some (.cells #[.slice none 0 0] 143 (0,0)):=by simp [World.setCell,Array.getElem?_modify,hr]
    refine ⟨by rw [Lib.cell_of_heap hr];rfl,Lib.frozen_of_heap hr 0,by rw [Lib.cell_of_heap hr2];rfl,⟨none,0,0,by rw [hn],by rw [hn];exact linesNil _⟩,?_⟩
    exact (belowThen B1 hb).setCell (p:=⟨Z,0,none⟩) (by show w.heap.size<=Z;omega) _
  have ERR':=Lib.hid ERR
  have hres':=Lib.hid hres
  have hT':=Lib.hid hT
  have B1':=Lib.hid B1
  have hZ':=Lib.hid hZ
  clear ERR hres hT B1
  by_cases hlong:65536 < T.size
  · have hz:(65536:Int) < (T.size:Int):=by omega
    have hp:pcard T.data.toList=(11,[]):=by unfold pcard;rw [if_pos (by rw [<-Lib.size_eq];exact hlong)]
    obtain ⟨x1,x2,x3,x4⟩:=ERR'.out 11 w1 hp (Below.refl _ _)
    have X4:=Lib.hid x4
    clear hp hlong x4
    go_enter Tryz.func86,Tryz.ntmps86
    go_wp2
    exact bodyPost_ret (v:=.tuple #[.agg #[.slice none 0 0],.int .i64 11]) (by simp [results,Tryz.results86,go_sem,x3]) rfl X4.out
  · have hz : ¬ (65536:Int) < (T.size:Int):=by omega
    have hl:¬ 65536 < T.data.toList.length:=by rw [<-Lib.size_eq];exact hlong
    have cV:=Ch.valid_any T w1 (by omega) (Ch.tabs_below hT'.out B1'.out)
    cases hv:Ch.valid T.data.toList with
    | false =>
      rw [hv] at cV
      have hp:pcard T.data.toList=(10,[]):=by unfold pcard;rw [if_neg hl,if_neg (by rw [hv];simp)]
      have hp':=Lib.hid hp
      clear hp hl hlong hv
      go_enter Tryz.func86,Tryz.ntmps86
      go_wp2_with fail
      clear hZ
      go_at_call 79
      refine cV.mono ?_
      rintro e w2 ⟨rfl,hb2⟩
      obtain ⟨x1,x2,x3,x4⟩:=ERR'.out 10 w2 hp'.out hb2
      have X4:=Lib.hid x4
      clear x4
      go_wp2
      exact bodyPost_ret (v:=.tuple #[.agg #[.slice none 0 0],.int .i64 10]) (by simp [results,Tryz.results86,go_sem,x3]) rfl X4.out
    | true =>
      rw [hv] at cV
      have hp0:pcard T.data.toList=pcR (Fo.R [] T.data.toList):=by unfold pcard;rw [if_neg hl,if_pos hv]
      have hp0':=Lib.hid hp0
      have hsl:T.size<=65536:=by omega
      have hsl':=Lib.hid hsl
      clear hp0 hl hlong hv
      go_enter Tryz.func86,Tryz.ntmps86
      go_wp2_with fail
      clear hZ
      go_at_call 79
      refine cV.mono ?_
      rintro e w2 ⟨rfl,hb2⟩
      have cU:=Fo.unfold_any T w2 (by have:=hsl'.out;omega)
      have hb2':=Lib.hid hb2
      clear cV hb2
      go_wp2_with fail
      go_at_call 112
      refine cU.mono ?_
      rintro e w3 ⟨hu,hb3⟩
      have hB3:=Lib.hid (belowThen hb2'.out hb3)
      clear cU hb3
      rcases hu with ⟨v,rows,rfl,hR,hown⟩ | ⟨rfl,hR⟩
      · have htot:=Fo.R_tot _ _ hR
        rw [<-Lib.size_eq] at htot
        have htot2:Fo.tot rows<=65536:=by have:=hsl'.out;omega
        have hSA:Li.StrsAt w3 v rows:=(show Li.Own w2.heap.size v rows w3 from hown).at
        have hrl:∀ r∈rows,r.length<=1099511627776:=fun r hr=>by have:=Fo.tot_get rows r hr;omega
        have hrn:rows.length<=1099511627776:=by have:=Fo.tot_len rows;omega
        have hTw:∀ W,Below w1.heap.size w1 W->Ch.Tabs W:=fun W h=>Ch.tabs_below hT'.out (belowThen B1'.out h)
        have cL:=parseLines_any v rows w3 hSA hrl hrn (hTw _ hB3.out)
        have cF:∀ W,Below w3.heap.size w3 W->Calls Tryz.prog 114 #[v] W fun e w'=>e=.returned (.bool (framedR rows))/\Below W.heap.size W w':=fun W hW=>framed_any v rows W (hSA.kept hW) hrl hrn
        have hp1:=Lib.hid (hp0'.out.trans (by rw [hR];rfl):pcard T.data.toList=pc2 (lnF [] rows))
        obtain ⟨vA,vn,vc,rfl⟩:∃ A n c,v=.slice A n c:=by obtain ⟨A,_,_,c,h,_⟩:=hSA;exact ⟨A,_,c,h⟩
        have cF':=Lib.hid cF
        have hTw':=Lib.hid hTw
        have htot':=Lib.hid htot2
        clear hSA hrl hrn hown hR htot hp0' cF hTw htot2
        go_wp2_with fail
        go_at_call 113
        refine cL.mono ?_
        rintro e w4 ⟨hL,hb4⟩
        have hB4:=Lib.hid (belowThen hB3.out hb4)
        clear cL
        rcases hL with ⟨m,p1,p2,p3,rfl⟩ | ⟨u,Ls,p1,p2,rfl,p3⟩
        · have hp2:pcard T.data.toList=(m,[]):=by
            rw [hp1.out,p1];exact pc2_bad p2
          have d0:¬ (m:Int)=0:=by omega
          have d0':((m:Int)==0)=false:=beq_eq_false_iff_ne.2 d0
          obtain ⟨x1,x2,x3,x4⟩:=ERR'.out m w4 hp2 hB4.out
          have X4:=Lib.hid x4
          clear x4 hp2 p1 p2 p3 hb4
          go_wp2
          exact bodyPost_ret (v:=.tuple #[.agg #[.slice none 0 0],.int .i64 (m:Int)]) (by simp [results,Tryz.results86,go_sem,x3]) rfl X4.out
        · have cF4:=cF'.out w4 hb4
          have hfe:=framed_eq p2
          rw [hfe] at cF4
          have hp2:pcard T.data.toList=if framedL Ls=true/\rightB (midL Ls)=true then (0,midL Ls) else (50,[]):=by rw [hp1.out,p1];exact pc2_ok Ls
          obtain ⟨ua,uc,rfl⟩:=p3.form
          cases hfr:framedL Ls with
          | false =>
            rw [hfr] at cF4
            have hp3:=Lib.hid (hp2.trans (by rw [if_neg (by rw [hfr];simp)]):pcard T.data.toList=(50,[]))
            clear hp2 p1 p2 p3 hfe hfr hb4
            go_wp2_with fail
            go_at_call 114
            refine cF4.mono ?_
            rintro e w5 ⟨rfl,hb5⟩
            obtain ⟨x1,x2,x3,x4⟩:=ERR'.out 50 w5 hp3.out (belowThen hB4.out hb5)
            have X4:=Lib.hid x4
            clear x4 hb5
            go_wp2
            exact bodyPost_ret (v:=.tuple #[.agg #[.slice none 0 0],.int .i64 50]) (by simp [results,Tryz.results86,go_sem,x3]) rfl X4.out
          | true =>
            rw [hfr] at cF4
            have h3:3<=Ls.length:=by
              unfold framedL at hfr
              rw [Bool.and_eq_true,decide_eq_true_eq] at hfr
              exact hfr.1
            obtain ⟨g,cap,hv,hc1,hc2,hmid⟩:=p3.mid h3
            injection hv with hv1 hv2 hv3
            subst hv1;subst hv3
            have hps:prsum (midL Ls)<=196608:=by
              have:=parse_pr_le p2
              have:=htot'.out
              have:=prsum_sub (Ls:=Ls)
              omega
            have hsc:=smallC_of (Ls:=midL Ls) (by omega)
            have cR:∀ W,Below w4.heap.size w4 W->Calls Tryz.prog 115 #[.agg #[.slice (some ⟨g,8,none⟩) (Ls.length - 1 - 2) (uc - 2)]] W fun e w'=>e=.returned (.bool (rightB (midL Ls)))/\Below W.heap.size W w':=fun W hW=>right_any _ (midL Ls) W (hmid.kept hW) hsc.m hsc.n
            obtain ⟨n,hn⟩:∃ n,Ls.length=n:=⟨_,rfl⟩
            rw [hn] at h3 hc1 cR ⊢
            rw [hn] at hmid
            unfold maxLen at hc2
            have hmid':=Lib.hid hmid
            have cR':=Lib.hid cR
            have hb4':=Lib.hid hb4
            have z1:(2:Int)<=(n:Int) - 1:=by omega
            have z2:(n:Int) - 1<=(uc:Int):=by omega
            have hfr':=Lib.hid hfr
            have hn':=Lib.hid hn
            have hown4:=Lib.hid p3
            clear p1 p2 p3 hfe hv2 hmid hps hsc cR hb4 hn hfr
            cases hr:rightB (midL Ls) with
            | false =>
              rw [hr] at cR'
              have hp3:=Lib.hid (hp2.trans (by rw [if_neg (by rw [hr];simp)]):pcard T.data.toList=(50,[]))
              clear hp2 hr
              go_wp2_with fail
              go_at_call 114
              refine cF4.mono ?_
              rintro e w5 ⟨rfl,hb5⟩
              have hb6:Below w5.heap.size w5 (w5.alloc (.cells #[.slice (some ⟨g,8,none⟩) (n - 1 - 2) (uc - 2)] 143)):=(Below.refl _ _).alloc (Nat.le_refl _) _
              have cR5:=cR'.out _ (belowThen hb5 hb6)
              have hB6:=Lib.hid (belowThen (belowThen hB4.out hb5) hb6)
              clear hb5 hb6
              go_wp2_with fail
              go_at_call 115
              refine cR5.mono ?_
              rintro e w7 ⟨rfl,hb7⟩
              obtain ⟨x1,x2,x3,x4⟩:=ERR'.out 50 w7 hp3.out (belowThen hB6.out hb7)
              have X4:=Lib.hid x4
              clear x4 hb7 cR5
              go_wp2
              exact bodyPost_ret (v:=.tuple #[.agg #[.slice none 0 0],.int .i64 50]) (by simp [results,Tryz.results86,go_sem,x3]) rfl X4.out
            | true =>
              rw [hr] at cR'
              have hp3:=Lib.hid (hp2.trans (by rw [if_pos ⟨hfr'.out,hr⟩]):pcard T.data.toList=(0,midL Ls))
              clear hp2 hr
              go_wp2_with fail
              go_at_call 114
              refine cF4.mono ?_
              rintro e w5 ⟨rfl,hb5⟩
              have hb6:Below w5.heap.size w5 (w5.alloc (.cells #[.slice (some ⟨g,8,none⟩) (n - 1 - 2) (uc - 2)] 143)):=(Below.refl _ _).alloc (Nat.le_refl _) _
              have cR5:=cR'.out _ (belowThen hb5 hb6)
              have hB6:=Lib.hid (belowThen (belowThen hB4.out hb5) hb6)
              have hB56:=Lib.hid (belowThen hb5 hb6)
              have hk6:(w5.alloc (.cells #[.slice (some ⟨g,8,none⟩) (n - 1 - 2) (uc - 2)] 143)).heap[w5.heap.size]?=some (.cells #[.slice (some ⟨g,8,none⟩) (n - 1 - 2) (uc - 2)] 143 (0,0)):=heap_alloc_new w5 _
              have sz5:Z < w5.heap.size:=by have:=(belowThen hB4.out hb5).size;omega
              clear hb5 hb6
              go_wp2_with fail
              go_at_call 115
              refine cR5.mono ?_
              rintro e w7 ⟨rfl,hb7⟩
              have hk7:w7.heap[w5.heap.size]?=some (.cells #[.slice (some ⟨g,8,none⟩) (n - 1 - 2) (uc - 2)] 143 (0,0)):=(hb7.block _ (by simp)).trans hk6
              have q7:w7.cell? ⟨w5.heap.size,0,none⟩=some (.slice (some ⟨g,8,none⟩) (n - 1 - 2) (uc - 2)):=by rw [Lib.cell_of_heap hk7];rfl
              have hB7:=belowThen hB6.out hb7
              have hr7:w7.heap[Z]?=some (.cells #[.slice none 0 0] 143 (0,0)):=(hB7.block _ (by omega)).trans hres'.out
              have r7:w7.cell? ⟨Z,0,none⟩=some (.slice none 0 0):=by rw [Lib.cell_of_heap hr7];rfl
              have f7:w7.frozen? ⟨Z,0,none⟩=false:=Lib.frozen_of_heap hr7 0
              have hr8:(w7.setCell ⟨Z,0,none⟩ (.slice (some ⟨g,8,none⟩) (n - 1 - 2) (uc - 2))).heap[Z]?=some (.cells #[.slice (some ⟨g,8,none⟩) (n - 1 - 2) (uc - 2)] 143 (0,0)):=by simp [World.setCell,Array.getElem?_modify,hr7]
              have x3:(w7.setCell ⟨Z,0,none⟩ (.slice (some ⟨g,8,none⟩) (n - 1 - 2) (uc - 2))).cell? ⟨Z,0,none⟩=some (.slice (some ⟨g,8,none⟩) (n - 1 - 2) (uc - 2)):=by rw [Lib.cell_of_heap hr8];rfl
              have hm7:LinesAt (w7.setCell ⟨Z,0,none⟩ (.slice (some ⟨g,8,none⟩) (n - 1 - 2) (uc - 2))) (.slice (some ⟨g,8,none⟩) (n - 1 - 2) (uc - 2)) (midL Ls):=by
                have q:=((hown4.out.kept (belowThen hB56.out hb7)).stored (a:=⟨Z,0,none⟩) (by show Z < w3.heap.size;have:=hB3.out.size;omega) (.slice (some ⟨g,8,none⟩) (n - 1 - 2) (uc - 2))).mid (by rw [hn'.out];exact h3)
                obtain ⟨g',cap',e,_,_,hm⟩:=q
                rw [hn'.out] at e hm
                injection e with e1 _ e3
                injection e1 with e1
                injection e1 with e1 _ _
                subst e1;subst e3
                exact hm
              have X4:Hid (ParseC T.data.toList (.returned (.tuple #[.agg #[.slice (some ⟨g,8,none⟩) (n - 1 - 2) (uc - 2)],.int .i64 0])) (w7.setCell ⟨Z,0,none⟩ (.slice (some ⟨g,8,none⟩) (n - 1 - 2) (uc - 2)))/\Below w.heap.size w (w7.setCell ⟨Z,0,none⟩ (.slice (some ⟨g,8,none⟩) (n - 1 - 2) (uc - 2)))) :=
                ⟨⟨some ⟨g,8,none⟩,n - 1 - 2,uc - 2,by rw [hp3.out];rfl,by rw [hp3.out];exact hm7⟩,(belowThen B1'.out hB7).setCell (p:=⟨Z,0,none⟩) (by show w.heap.size<=Z;rw [hZ'.out];exact Nat.le_refl _) _⟩
              clear hb7 cR5 hk6 hk7 hB7 hr7 hr8 hm7
              go_wp2
              exact bodyPost_ret (v:=.tuple #[.agg #[.slice (some ⟨g,8,none⟩) (n - 1 - 2) (uc - 2)],.int .i64 0]) (by simp [results,Tryz.results86,go_sem,x3]) rfl X4.out
      · have hp3:=Lib.hid (hp0'.out.trans (by rw [hR];rfl):pcard T.data.toList=(20,[]))
        obtain ⟨x1,x2,x3,x4⟩:=ERR'.out 20 w3 hp3.out hB3.out
        have X4:=Lib.hid x4
        clear x4 hR
        go_wp2
        exact bodyPost_ret (v:=.tuple #[.agg #[.slice none 0 0],.int .i64 20]) (by simp [results,Tryz.results86,go_sem,x3]) rfl X4.out
open Li (LD PD sv LineAt PrmsAt chk pr)
theorem lnF_pr:∀ (rows:List Row) (acc:List LD),prsum (lnF acc rows).2<=prsum acc+3*Fo.tot rows
  | [],acc=>by
    have e:(lnF acc []).2=acc:=rfl
    rw [e];omega
  | r :: rs,acc=>by
    have ht:Fo.tot (r :: rs)=r.length+1+Fo.tot rs:=by unfold Fo.tot;simp
    cases h:Li.parse r with
    | bad n =>
      rw [lnF_bad h]
      simp [prsum]
    | ok L =>
      rw [lnF_ok h]
      have h1:=lnF_pr rs (acc++[L])
      have h2:=Li.parse_len h
      have h3:prsum (acc++[L])=prsum acc+((pr L).length+1):=by unfold prsum;simp
      omega
theorem pcard_pr (t:Row):prsum (pcard t).2<=196608:=by
  have h0:prsum []=0:=rfl
  unfold pcard
  by_cases h1:65536 < t.length
  · rw [if_pos h1];simp [h0]
  · rw [if_neg h1]
    by_cases h2:Ch.valid t=true
    · rw [if_pos h2]
      cases hr:Fo.R [] t with
      | none=>simp [pcR,h0]
      | some rows =>
        have ht:=Fo.R_tot t rows hr
        have hl:=lnF_pr rows []
        have hm:=prsum_sub (Ls:=(lnF [] rows).2)
        show prsum (pc2 (lnF [] rows)).2<=_
        unfold pc2
        split
        · split
          · show prsum (midL _)<=_;omega
          · simp [h0]
        · simp [h0]
    · rw [if_neg h2];simp [h0]
open Li (LD PD sv LineAt PrmsAt pr chk SmallL)
def codeP (Ls:List LD):Nat:=if checkE Ls≠0 then checkE Ls else if 65536 < (cardT (canC Ls)).length then 11 else 0
def textP (Ls:List LD):Row:=if codeP Ls=0 then cardT (canC Ls) else []
def canonP (Ls:List LD):List LD:=if codeP Ls=0 then canC Ls else []
theorem codeP_bad {Ls:List LD} (h:checkE Ls≠0):codeP Ls=checkE Ls:=if_pos h
theorem codeP_long {Ls:List LD} (h:checkE Ls=0) (h2:65536 < (cardT (canC Ls)).length):codeP Ls=11:=by unfold codeP;rw [if_neg (by simp [h]),if_pos h2]
theorem codeP_ok {Ls:List LD} (h:checkE Ls=0) (h2:(cardT (canC Ls)).length<=65536):codeP Ls=0:=by unfold codeP;rw [if_neg (by simp [h]),if_neg (by omega)]
theorem CanonP.all {B:Nat} {Ls:List LD} {e:Ending} {w':World} (h:CanonP B Ls e w'):∃ (A:Option Addr) (n c:Nat) (x:ByteArray),e=.returned (.tuple #[.agg #[.slice A n c],.string x,.int .i64 ((codeP Ls:Nat):Int)])/\x.data.toList=textP Ls/\LsOwn B (.slice A n c) (canonP Ls) w':=by
  rcases h with ⟨h1,h2⟩ | ⟨h1,h2,h3⟩ | ⟨h1,h2,A,n,c,x,h3,h4,h5⟩
  · have hc:=codeP_bad h1
    refine ⟨none,0,0,⟨#[]⟩,by rw [hc];exact h2,?_,?_⟩
    · unfold textP;rw [hc,if_neg h1]
    · unfold canonP;rw [hc,if_neg h1];exact LsOwn.nil _ _
  · have hc:=codeP_long h1 h2
    refine ⟨none,0,0,⟨#[]⟩,by rw [hc];exact h3,?_,?_⟩
    · unfold textP;rw [hc];rfl
    · unfold canonP;rw [hc];exact LsOwn.nil _ _
  · have hc:=codeP_ok h1 h2
    refine ⟨A,n,c,x,by rw [hc];exact h3,?_,?_⟩
    · unfold textP;rw [hc,if_pos rfl];exact h4
    · unfold canonP;rw [hc,if_pos rfl];exact h5
theorem print_any (v:Value) (Ls:List LD) (w:World) (h:LinesAt w v Ls) (hS:prsum Ls<=67108864) (hT:Ch.Tabs w) :
    Calls Tryz.prog 87 #[.agg #[v]] w fun e w'=>(∃ x:ByteArray,x.data.toList=textP Ls/\e=.returned (.tuple #[.string x,.int .i64 ((codeP Ls:Nat):Int)]))/\Below w.heap.size w w':=by
  obtain ⟨A0,n0,c0,rfl⟩:∃ A n c,v=.slice A n c:=by obtain ⟨A,_,_,c,h,_⟩:=h;exact ⟨A,_,c,h⟩
  have B1:Below w.heap.size w (w.alloc (.cells #[.slice A0 n0 c0] 143)):=(Below.refl _ _).alloc (Nat.le_refl _) _
  have cC:=canonical_any _ Ls _ (h.kept B1) hS (Ch.tabs_below hT B1)
  obtain ⟨ce,hce⟩:∃ ce,codeP Ls=ce:=⟨_,rfl⟩
  have cC2:=cC.mono (fun e w' h=>(show (∃ (A:Option Addr) (n c:Nat) (x:ByteArray),e=.returned (.tuple #[.agg #[.slice A n c],.string x,.int .i64 (ce:Int)])/\x.data.toList=textP Ls)/\Below (w.alloc (.cells #[.slice A0 n0 c0] 143)).heap.size (w.alloc (.cells #[.slice A0 n0 c0] 143)) w' from ⟨(by
    obtain ⟨A,n,c,x,h1,h2,_⟩:=h.1.all
    rw [hce] at h1
    exact ⟨A,n,c,x,h1,h2⟩),h.2⟩))
  have hce':=Lib.hid hce
  clear cC h hS hT hce
  go_enter Tryz.func87,Tryz.ntmps87
  go_wp2_with fail
  go_at_call 116
  refine cC2.mono ?_
  rintro e w2 ⟨⟨A,n,c,x,rfl,hx⟩,hb2⟩
  have HX:=Lib.hid hx
  have B2:=Lib.hid ((belowThen B1 hb2).alloc (by have:=(belowThen B1 hb2).size;omega) (.cells #[.slice A n c] 143))
  clear hx cC2 hb2 B1
  go_wp2
  go_ret2
  exact ⟨⟨x,HX.out,by rw [hce'.out]<;>rfl⟩,B2.out⟩
end Ca
namespace Bo
open Go.Lib Go.RowKit
def normC (t:Row):Nat:=if (Ca.pcard t).1≠0 then (Ca.pcard t).1 else Ca.codeP (Ca.pcard t).2
def normT (t:Row):Row:=if (Ca.pcard t).1≠0 then [] else Ca.textP (Ca.pcard t).2
def normE (t:Row):Except Nat Row:=if normC t=11 then .error 413 else if normC t≠0 then .error 403 else .ok (normT t)
theorem normE_ok {t x:Row} (h:normE t=.ok x):x.length<=65536:=by
  unfold normE at h
  split at h
  · cases h
  split at h
  · cases h
  rename_i h1 h2
  injection h with h
  subst h
  have h0:normC t=0:=by omega
  unfold normC at h0
  unfold normT
  split
  · simp
  rename_i h3
  rw [if_neg h3] at h0
  unfold Ca.textP
  rw [if_pos h0]
  have hc:Ca.checkE (Ca.pcard t).2=0:=by
    rcases Nat.eq_zero_or_pos (Ca.checkE (Ca.pcard t).2) with h1 | h1
    · exact h1
    · rw [Ca.codeP_bad (by omega)] at h0;omega
  rcases Nat.lt_or_ge 65536 (Ca.cardT (Ca.canC (Ca.pcard t).2)).length with hl | hl
  · rw [Ca.codeP_long hc hl] at h0;cases h0
  · exact hl
theorem normE_codes {t:Row} {c:Nat} (h:normE t=.error c):c=413\/c=403:=by
  unfold normE at h
  split at h
  · injection h with h;exact .inl h.symm
  split at h
  · injection h with h;exact .inr h.symm
  · cases h
theorem canonical_any (s:ByteArray) (w:World) (hs:s.size<=1099511627776) (hT:Ch.Tabs w) :
    Calls Tryz.prog 66 #[.string s] w fun e w'=>(∃ x:ByteArray,x.data.toList=normT s.data.toList/\e=.returned (.tuple #[.string x,.int .i64 ((normC s.data.toList:Nat):Int)]))/\Below w.heap.size w w':=by
  have cP:=Ca.parse_any s w hs hT
  obtain ⟨c,hc⟩:∃ c,(Ca.pcard s.data.toList).1=c:=⟨_,rfl⟩
  obtain ⟨Ls,hL⟩:∃ Ls,(Ca.pcard s.data.toList).2=Ls:=⟨_,rfl⟩
  have hsm:=Ca.pcard_pr s.data.toList
  rw [hL] at hsm
  unfold Ca.ParseC at cP
  rw [hc,hL] at cP
  have cQ:=fun v W (hW:Below w.heap.size w W) (hv:Ca.LinesAt W v Ls)=>Ca.print_any v Ls W hv (by omega) (Ch.tabs_below hT hW)
  unfold normC normT
  rw [hc,hL]
  clear hT hs
  by_cases h0:c=0
  · subst h0
    obtain ⟨d,hd⟩:∃ d,Ca.codeP Ls=d:=⟨_,rfl⟩
    rw [hd] at cQ ⊢
    have cQ':=Lib.hid cQ
    clear cQ
    go_enter Tryz.func66,Tryz.ntmps66
    go_wp2_with fail
    go_at_call 86
    refine cP.mono ?_
    rintro e w1 ⟨⟨A,n,k,rfl,hA⟩,hb1⟩
    have hbx:Below w1.heap.size w1 (w1.alloc (.cells #[.slice A n k] 143)):=(Below.refl _ _).alloc (Nat.le_refl _) _
    have hB2:=below_then hb1 hbx
    have cQ2:=cQ'.out _ _ hB2 (hA.kept hbx)
    have hB2':=Lib.hid hB2
    clear cP cQ' hA hb1 hbx hB2
    go_wp2_with fail
    go_at_call 87
    refine cQ2.mono ?_
    rintro e w3 ⟨⟨x,hx,rfl⟩,hb3⟩
    have hx':=Lib.hid hx
    have hB3:=Lib.hid (below_then hB2'.out hb3)
    clear cQ2 hx hb3
    go_wp2
    go_ret2
    exact ⟨⟨x,hx'.out,rfl⟩,hB3.out⟩
  · have hz:((c:Int)==0)=false:=beq_false_of_ne (by omega)
    clear cQ
    go_enter Tryz.func66,Tryz.ntmps66
    go_wp2_with fail
    go_at_call 86
    refine cP.mono ?_
    rintro e w1 ⟨⟨A,n,k,rfl,hA⟩,hb1⟩
    have hB2:=Lib.hid (below_then hb1 ((Below.refl _ _).alloc (Nat.le_refl _) (.cells #[.slice A n k] 143)))
    clear cP hA hb1
    go_wp2
    go_ret2
    exact ⟨⟨⟨#[]⟩,by simp,by first | rfl | simp [h0]⟩,hB2.out⟩
end Bo
end Go.Proofs.YtobfaibofhmpgaaGreatDoor
