import Derived.Test.YtobfaibofhmpgaaGreatDoorAp33
import Derived.RegionTactic
set_option linter.unusedVariables false
set_option maxHeartbeats 8000000
set_option maxRecDepth 100000
namespace Go.Proofs.YtobfaibofhmpgaaGreatDoor
namespace Bo
open Go.Lib Go.RowKit
theorem ec_app:∀ a b:List Ent,ec (a++b)=ec a++ec b
  | [],_=>rfl
  | n :: a,b=>by simp only [List.cons_append,ec,ec_app a b]
theorem infoE:(Tryz.prog.info? 38).map (fun i=>(i.zero,i.size,i.bytes))=some (some (.agg #[.string ⟨#[]⟩,.int .i64 0,.string ⟨#[]⟩,.bool false]),4,48):=by kernel_rfl
theorem append_ent {w0:World} {ops:Array Oper} {rest:List Oper} {o:Oper} {a:Act} {Q:Exit->Act->World->Prop} (x:ByteArray) (tag:Int) (y:ByteArray) (g:Bool)
    (hgd:o.guard=none) (so xo:Operand) (ho:o.op=.call { callee:=.builtin .append,args:=#[so,xo],argTypes:=#[27,27] }) (B:Nat) (v:Value) (es:List Ent) (k:Nat) (hk:es.length=k) (e:Ent) (h1:sv e.name=.string x) (h2:(e.tag:Int)=tag) (h3:sv e.data=.string y) (h4:e.gone=g) (bl:Nat) (hbl:bl=w0.heap.size) (hs:a.eval so=v) (hx:a.eval xo=.slice (some ⟨bl,0,none⟩) 1 1)
    (hown:w0.ownsRow B 38 4 v k (ec es)) (hl:k<=1099511627776) (hB:B<=w0.heap.size)
    (h:∀ v' w',w'.ownsRow B 38 4 v' (k+1) (ec (es++[e]))->Below w0.heap.size w0 w'\/True->(∀ A,Below B A w0->Below B A w')->(w0.alloc (.cells #[.string x,.int .i64 tag,.string y,.bool g] 38)).grownBy w' v.ownBlock->wpList Tryz.prog ops Q rest (a.put o.dst v') w') :
    wpList Tryz.prog ops Q (o :: rest) a (w0.alloc (.cells #[.string x,.int .i64 tag,.string y,.bool g] 38)):=by
  obtain ⟨i0,hi,hz0,hz1,hz2⟩:=info_parts' infoE
  subst hbl
  subst hk
  refine wpList_append_own _ hgd so xo 27 ho B 38 i0 (.agg #[.string ⟨#[]⟩,.int .i64 0,.string ⟨#[]⟩,.bool false]) 4 48 Tryz.underlying27 hi hz0 hz1 hz2 rfl (by decide) v es.length (ec es) hs (World.ownsRow.alloc hown _) ⟨w0.heap.size,0,none⟩ 1 1 [.string x,.int .i64 tag,.string y,.bool g] hx rfl (fun j u hj=>?_) (fun u hu=>?_) (by unfold maxLen;omega) (by omega) (by simp;omega)
    (fun v' w' h5 h6 _=>h v' w' ?_ (.inr trivial) (fun A hA=>(hA.alloc hB _).grown h6 (by simp;omega) (fun q hq=>(hown.lt q hq).1)) h6)
  · match j,hj with
    | 0,hj=>simp at hj;subst hj;simp [Addr.add]
    | 1,hj=>simp at hj;subst hj;simp [Addr.add]
    | 2,hj=>simp at hj;subst hj;simp [Addr.add]
    | 3,hj=>simp at hj;subst hj;simp [Addr.add]
  · simp at hu
    rcases hu with rfl | rfl | rfl | rfl<;>rfl
  · have e':ec [e]=[.string x,.int .i64 tag,.string y,.bool g]:=by unfold ec ec;rw [h1,h2,h3,h4]
    rw [ec_app,e']
    exact h5
theorem below_undrew {w x:World} (h:Below w.drew.heap.size w.drew x):Below w.heap.size w x:=⟨h.os,h.tape,h.output,h.size,h.block⟩
theorem now_any (w0 w:World) (sb bm:Nat) (s:Sh) (b:Bk) (p:Pl) (hG:Grd w0 w) (hs:w.heap[sb]?=some (.cells #[.int .i64 (s.chg:Int),.map (some bm)] 61 (0,0))) (h:BkIs w b p) (hm:b.made<=s.chg) (hchg:s.chg < 4611686018427387904) :
    Calls Tryz.prog 70 #[pv sb,pv p.c] w fun e w'=>e=.returned (sv (tokNow envP s b))/\Below w.heap.size w w':=by
  obtain ⟨x0,_,_⟩:=sh2 hs (W:=w) rfl
  obtain ⟨y0,_,_,_,_⟩:=col4 h (W:=w) rfl
  have cP:=fun W (hW:Below w.heap.size w W)=>To.print_any (b.made:Int) (s.chg:Int) W ⟨by omega,by omega⟩ ⟨by omega,by omega⟩ (hG.below hW).p
  have cP':∀ W,Below w.heap.size w W->Calls Tryz.prog 89 #[.agg #[.int .i64 (b.made:Int),.int .i64 (s.chg:Int)]] W fun e w'=>e=.returned (sv (tokNow envP s b))/\Below W.heap.size W w':=fun W hW=>cP W hW
  have hSS:Hid (∀ W,Below w.heap.size w W->Below w.heap.size w W/\W.cell? ⟨sb,0,none⟩=some (.int .i64 (s.chg:Int))/\W.cell? ⟨p.c,0,none⟩=some (.int .i64 (b.made:Int))):=Lib.hid fun W hW =>
    ⟨hW,(sh2 hs (hW.block sb (Array.getElem?_eq_some_iff.1 hs).1)).1,(col4 h (hW.block p.c (h.lt p.c (by simp [Pl.fp])))).1⟩
  clear cP
  go_enter Tryz.func70,Tryz.ntmps70
  go_wp2_with fail
  go_region_held3 (fun W=>Below w.heap.size w W/\W.cell? ⟨sb,0,none⟩=some (.int .i64 (s.chg:Int))/\W.cell? ⟨p.c,0,none⟩=some (.int .i64 (b.made:Int)))
    (refine hSS.out _ ?_<;>first | assumption | exact Below.drew (Below.refl _ _))
    (first | (go_at_call 89;(refine (cP' _ (Below.drew (Below.refl _ _))).mono ?_);rintro e wx ⟨rfl,hbx⟩;have hbx2:Below w.heap.size w wx:=below_undrew hbx))
  all_goals
    go_wp2
    go_ret
    exact ⟨rfl,hbx2⟩
theorem ownsRow_below {w w':World} {B:Nat} {e:TypeId} {size:Nat} {v:Value} {n:Nat} {xs:List Value} (h:w.ownsRow B e size v n xs) (hb:Below w.heap.size w w'):w'.ownsRow B e size v n xs:=ownsRow_heap h fun g hg=>hb.block g (h.lt g hg).2
theorem ownsRow_less {w:World} {B B':Nat} {e:TypeId} {size:Nat} {v:Value} {n:Nat} {xs:List Value} (h:w.ownsRow B e size v n xs) (hb:B'<=B):w.ownsRow B' e size v n xs:=by
  refine ⟨h.1,?_⟩
  rcases h.2 with h | ⟨g,cap,cur,e1,e2,e3,e4⟩
  · exact .inl h
  · exact .inr ⟨g,cap,cur,e1,Nat.le_trans hb e2,e3,e4⟩
theorem ownsRow_form {w:World} {B:Nat} {e:TypeId} {size:Nat} {v:Value} {n:Nat} {xs:List Value} (h:w.ownsRow B e size v n xs):∃ ao c,v=.slice ao n c:=by
  rcases h.2 with ⟨hv,hn⟩ | ⟨g,cap,cur,e1,_⟩
  · exact ⟨none,0,by rw [hv,hn]⟩
  · exact ⟨_,_,e1⟩
theorem str_at {w:World} {B:Nat} {ao:Option Addr} {n c:Nat} {ns:List Row} (h:w.ownsRow B 9 1 (.slice ao n c) n (ns.map encStr)) {k:Nat} (hk:k < n):∃ g,ao=some ⟨g,0,none⟩/\g < w.heap.size/\∃ r,ns[k]?=some r/\w.cell? ⟨g,k,none⟩=some (.string ⟨r.toArray⟩):=by
  have hl:=h.1
  rw [List.length_map,Nat.mul_one] at hl
  rcases h.2 with ⟨hv,hn⟩ | ⟨g,cap,cur,e1,_,e3,_⟩
  · omega
  · injection e1 with e1 e1' e1''
    subst e1
    subst e1''
    refine ⟨g,rfl,(Array.getElem?_eq_some_iff.1 e3).1,ns[k]'(by omega),List.getElem?_eq_getElem _,?_⟩
    rw [h.cellAt k (by omega),List.getElem?_map,List.getElem?_eq_getElem (by omega)]
    rfl
theorem fld_kept (t:Int) (s:ByteArray) (w:World):(Instr.field 105 (.agg #[.int .i64 t,.string s]) 0).run Tryz.prog w=.ok (.int .i64 t) w:=by kernel_rfl
theorem listed_any (w0 w:World) (sb bm:Nat) (s:Sh) (b:Bk) (p:Pl) (hG:Grd w0 w) (hs:w.heap[sb]?=some (.cells #[.int .i64 (s.chg:Int),.map (some bm)] 61 (0,0))) (h:BkIs w b p) (hO:BkOk s.chg b) (hchg:s.chg < 4611686018427387904) :
    Calls Tryz.prog 47 #[pv sb,pv p.c] w fun e w'=>∃ v,e=.returned v/\RepIs w.heap.size w' v (listB envP s b)/\Below w.heap.size w w':=by
  obtain ⟨wB,hwB⟩:∃ wB,w.alloc repO=wB:=⟨_,rfl⟩
  have hB0:Below w.heap.size w wB:=by rw [<-hwB];exact (Below.refl _ _).alloc (Nat.le_refl _) _
  have hsB:w.heap.size < wB.heap.size:=by rw [<-hwB];simp
  have hres:wB.heap[w.heap.size]?=some (.cells #[.int .i64 0,.int .i64 0,.string ⟨#[]⟩,.slice none 0 0,.string ⟨#[]⟩] 29 (0,0)):=by rw [<-hwB];exact heap_alloc_new w _
  have hlt:p.c < w.heap.size:=h.lt p.c (by simp [Pl.fp])
  obtain ⟨ns,hns⟩:∃ ns,b.cards.map (·.name)=ns:=⟨_,rfl⟩
  obtain ⟨n,hn⟩:∃ n,ns.length=n:=⟨_,rfl⟩
  have hnc:b.cards.length=n:=by rw [<-hn,<-hns,List.length_map]
  have hn256:n<=256:=by rw [<-hnc];exact hO.most
  have hat:∀ W,Below wB.heap.size wB W->W.cell? ⟨p.c,2,none⟩=some (.map (some p.m))/\MapIs Tryz.prog 9 W p.m (cM b.cards):=fun W hW=>by
    have hw:=below_then hB0 hW
    exact ⟨(col4 h (hw.block p.c hlt)).2.2.1,h.map.block (hw.block p.m h.map.lt)⟩
  have cN:=namesC_any wB p.m (cM b.cards) ns (hat wB (Below.refl _ _)).2 (by rw [<-hns];unfold cM;rw [List.map_map];exact List.Perm.refl _) (by rw [<-hns];exact hO.rise) (by omega)
  rw [hn] at cN
  have cT:=fun W (hW:Below wB.heap.size wB W)=>now_any w0 W sb bm s b p (hG.below (below_then hB0 hW)) (((below_then hB0 hW).block sb (Array.getElem?_eq_some_iff.1 hs).1).trans hs) (h.heap fun k hk=>(below_then hB0 hW).block k (h.lt k hk)) hO.made hchg
  -- what each name leads to
  have hone:∀ k r,k < n->ns[k]?=some r->∃ l:Leaf,b.cards[k]?=some l/\l.name=r/\(lookM (cM b.cards) r).getD (.agg #[.int .i64 0,.string ⟨#[]⟩])=.agg #[.int .i64 (l.tag:Int),.string ⟨l.text.toArray⟩]/\r.length<=64:=fun k r hk hr=>by
    rw [<-hns,List.getElem?_map] at hr
    obtain ⟨l,hl,hlr⟩:=Option.map_eq_some_iff.1 hr
    refine ⟨l,hl,hlr,?_,?_⟩
    · have hf:=lfAt_mem hO.well (List.mem_of_getElem? hl)
      rw [hlr] at hf
      rw [lookC,show (b.cards.find? fun l=>decide (l.name=r))=some l from hf]
      rfl
    · rw [<-hlr];exact (hO.lens l (List.mem_of_getElem? hl)).1
  obtain ⟨es,hes⟩:∃ es:List Ent,(b.cards.map fun l=>(⟨l.name,l.tag,[],false⟩:Ent))=es:=⟨_,rfl⟩
  have hel:es.length=n:=by rw [<-hes,List.length_map];exact hnc
  have hek:∀ k l,b.cards[k]?=some l->es.take (k+1)=es.take k++[⟨l.name,l.tag,[],false⟩]/\k < n:=fun k l hl=>by
    obtain ⟨h1,h2⟩:=List.getElem?_eq_some_iff.1 hl
    refine ⟨?_,by omega⟩
    rw [List.take_succ_eq_append_getElem (by omega)]
    congr 2
    subst hes
    rw [List.getElem_map,h2]
  have hrep:∀ W v,W.ownsRow w.heap.size 38 4 v n (ec es)->RepIs w.heap.size W (repV 207 0 noS v ⟨(tokNow envP s b).toArray⟩) (listB envP s b):=fun W v hv=>⟨v,rfl,by
    show W.ownsRow _ _ 4 v (b.cards.map _).length (ec (b.cards.map _))
    rw [hes,hel]
    exact hv⟩
  have hat':=Lib.hid hat
  have hone':=Lib.hid hone
  have hek':=Lib.hid hek
  have hrep':=Lib.hid hrep
  have cT':=Lib.hid cT
  have hel':=Lib.hid hel
  have hres':=Lib.hid hres
  have hB0':=Lib.hid hB0
  obtain ⟨x2,m2⟩:=hat wB (Below.refl _ _)
  clear hat hone hek hrep cT hel hes hn hns hnc hs h hO hG hres hB0 m2
  go_enter Tryz.func47,Tryz.ntmps47
  go_wp2_with fail
  go_at_call 72
  refine cN.mono ?_
  rintro e w1 ⟨⟨vn,rfl,hvn⟩,hb1⟩
  obtain ⟨ao,cap,rfl⟩:=ownsRow_form hvn
  have hvn':=Lib.hid hvn
  clear cN hvn x2
  go_wp2
  go_loopw [5,14] (fun s5 s14 wr=>∃ k:Nat,s14=.int .i64 (k:Int)/\k<=n/\Hid (wr.ownsRow w1.heap.size 38 4 s5 k (ec (es.take k)))/\Below w1.heap.size w1 wr) (fun _ s14 wr=>n - (RowKit.intOf s14).toNat)
  case atStart=>exact ⟨0,rfl,Nat.zero_le _,Lib.hid (by rw [List.take_zero];exact World.ownsRow_nil _ _ _ 4),Below.refl _ _⟩
  case round =>
    obtain ⟨k,rfl,hk,hown,hbw⟩:=hrel
    have hbwB:=below_then hb1 hbw
    by_cases hlt2:k < n
    · obtain ⟨g,rfl,hgl,r,hr,hcr⟩:=str_at (ownsRow_below hvn'.out hbw) hlt2
      obtain ⟨l,hl,hlr,hlook,hr64⟩:=hone'.out k r hlt2 hr
      obtain ⟨x2,m2⟩:=hat'.out wr hbwB
      have hkey:=keyOf_str Tryz.underlying9 ⟨r.toArray⟩ (by unfold maxLen;show r.toArray.size<=_;simp;omega)
      obtain ⟨hek1,_⟩:=hek'.out k l hl
      have hnm:sv l.name=.string ⟨r.toArray⟩:=by rw [hlr];rfl
      have htk:(es.take k).length=k:=by rw [List.length_take];have:=hel'.out;omega
      have hszw:w1.heap.size<=wr.heap.size:=hbw.size
      have hek1':=Lib.hid hek1
      have hbwB':=Lib.hid hbwB
      have hbw':=Lib.hid hbw
      have hnm':=Lib.hid hnm
      have htk':=Lib.hid htk
      have hkey2:keyOf Tryz.prog 9 (.string ⟨r.toArray⟩)=some (.string r):=by rw [hkey]
      have hfld:=fun W=>fld_kept (l.tag:Int) ⟨l.text.toArray⟩ W
      clear hl hlr hr hek1 hbwB hbw hnm htk hkey
      go_wp2_with (first
        | (at_lookup;refine wp_look _ rfl _ _ 89 rfl 9 105 keyed Tryz.underlying89 (zeroK _) p.m _ rfl m2 _ _ rfl hkey2 _ hlook ?_)
        | (at_builtin;refine append_ent ⟨r.toArray⟩ (l.tag:Int) ⟨#[]⟩ false rfl _ _ rfl w1.heap.size _ (es.take k) k htk'.out ⟨l.name,l.tag,[],false⟩ hnm'.out rfl rfl rfl _ rfl rfl rfl hown.out (by omega) hszw ?_;intro v5 w5 ho5 _ hA5 hg5)
        | fail)
      have ho6:=Lib.hid (show w5.ownsRow w1.heap.size 38 4 v5 (k+1) (ec (es.take (k+1))) by rw [hek1'.out];exact ho5)
      have hB6:=Lib.hid (hA5 w1 hbw'.out)
      clear ho5 hA5 hg5
      go_wp2
      go_roundw
      case rel=>exact ⟨k+1,by go_num,by omega,ho6,hB6.out⟩
      case measure=>simp [RowKit.intOf];omega
    · obtain rfl:k=n:=by omega
      have htk:es.take k=es:=List.take_of_length_le (by rw [hel'.out];exact Nat.le_refl _)
      have ho:=hown.out
      rw [htk] at ho
      obtain ⟨eo,ecap,rfl⟩:=ownsRow_form ho
      have cN:=cT'.out wr hbwB
      have hsz1:=hb1.size
      have hfin:∀ w3,Below wr.heap.size wr w3->w3.heap[w.heap.size]?=some (.cells #[.int .i64 0,.int .i64 0,.string ⟨#[]⟩,.slice none 0 0,.string ⟨#[]⟩] 29 (0,0))/\RepIs w.heap.size (put5 w3 w.heap.size 207 0 noS (.slice eo k ecap) ⟨(tokNow envP s b).toArray⟩) (repV 207 0 noS (.slice eo k ecap) ⟨(tokNow envP s b).toArray⟩) (listB envP s b)/\Below w.heap.size w (put5 w3 w.heap.size 207 0 noS (.slice eo k ecap) ⟨(tokNow envP s b).toArray⟩):=fun w3 h3=>by
        have hB3:=below_then hbwB h3
        refine ⟨(hB3.block _ hsB).trans hres'.out,hrep'.out _ _ ?_,below_put5 (below_then hB0'.out hB3) (Nat.le_refl _) _ _ _ _ _⟩
        have ho3:=ownsRow_below ho h3
        have hlo:=ho3.lt
        refine ownsRow_less ?_ (show w.heap.size<=w1.heap.size by omega)
        exact ownsRow_heap ho3 fun g hg=>put5_block _ _ _ _ _ _ _ (by have:=(hlo g hg).1;omega)
      have hfin':=Lib.hid hfin
      clear hown hfin ho htk hbw hbwB
      go_wp2_with fail
      go_at_call 70
      refine cN.mono ?_
      rintro e w3 ⟨rfl,hb3⟩
      obtain ⟨hr3,hX⟩:=hfin'.out w3 hb3
      have hX':=Lib.hid hX
      obtain ⟨p0,p1,p2,p3,p4,f0,f1,f2,f3,f4⟩:=res5 hr3
      unfold sv
      clear hX cN hb3 hwB
      go_wp2
      exact rep_fin rfl rfl hr3 ⟨_,rfl,hX'.out⟩
open Ca (Sorted Same)
theorem append_noteB {w0:World} {ops:Array Oper} {rest:List Oper} {o:Oper} {a:Act} {Q:Exit->Act->World->Prop} (c:Int) (s:ByteArray) (b:Bool)
    (hgd:o.guard=none) (so xo:Operand) (ho:o.op=.call { callee:=.builtin .append,args:=#[so,xo],argTypes:=#[90,90] }) (B:Nat) (v:Value) (ns:List Note) (k:Nat) (hk:ns.length=k) (n:Note) (hc:(n.chg:Int)=c) (hn:sv n.name=.string s) (hb:n.was=b) (bl:Nat) (hbl:bl=w0.heap.size) (hs:a.eval so=v) (hx:a.eval xo=.slice (some ⟨bl,0,none⟩) 1 1)
    (hown:w0.ownsRow B 113 3 v k (nc ns)) (hl:k<=1099511627776) (hB:B<=w0.heap.size)
    (h:∀ v' w',w'.ownsRow B 113 3 v' (k+1) (nc (ns++[n]))->(∀ A,Below B A w0->Below B A w')->wpList Tryz.prog ops Q rest (a.put o.dst v') w') :
    wpList Tryz.prog ops Q (o :: rest) a (w0.alloc (.cells #[.int .i64 c,.string s,.bool b] 113)):=by
  obtain ⟨i0,hi,hz0,hz1,hz2⟩:=info_parts' infoN
  subst hbl
  subst hk
  refine wpList_append_own _ hgd so xo 90 ho B 113 i0 (.agg #[.int .i64 0,.string ⟨#[]⟩,.bool false]) 3 32 Tryz.underlying90 hi hz0 hz1 hz2 rfl (by decide) v ns.length (nc ns) hs (World.ownsRow.alloc hown _) ⟨w0.heap.size,0,none⟩ 1 1 [.int .i64 c,.string s,.bool b] hx rfl (fun j u hj=>?_) (fun u hu=>?_) (by unfold maxLen;omega) (by omega) (by simp;omega)
    (fun v' w' h5 h6 _=>h v' w' ?_ (fun A hA=>(hA.alloc hB _).grown h6 (by simp;omega) (fun q hq=>(hown.lt q hq).1)))
  · match j,hj with
    | 0,hj=>simp at hj;subst hj;simp [Addr.add]
    | 1,hj=>simp at hj;subst hj;simp [Addr.add]
    | 2,hj=>simp at hj;subst hj;simp [Addr.add]
  · simp at hu
    rcases hu with rfl | rfl | rfl<;>rfl
  · have e:nc [n]=[.int .i64 c,.string s,.bool b]:=by unfold nc nc;rw [hc,hn,hb]
    rw [nc_app,e]
    exact h5
theorem note_at {w:World} {B:Nat} {ao:Option Addr} {n c:Nat} {ns:List Note} (h:w.ownsRow B 113 3 (.slice ao n c) n (nc ns)) {k:Nat} (hk:k < n):∃ g x,ao=some ⟨g,0,none⟩/\ns[k]?=some x/\w.cell? ⟨g,k*3,none⟩=some (.int .i64 (x.chg:Int))/\w.cell? ⟨g,k*3+1,none⟩=some (sv x.name)/\w.cell? ⟨g,k*3+2,none⟩=some (.bool x.was):=by
  have hl:=h.1
  rw [nc_len] at hl
  rcases h.2 with ⟨hv,hn⟩ | ⟨g,cap,cur,e1,_,e3,_⟩
  · omega
  · injection e1 with e1 e1' e1''
    subst e1
    subst e1''
    have hx:=List.getElem?_eq_getElem (l:=ns) (i:=k) (by omega)
    obtain ⟨c0,c1,c2⟩:=nc_at ns k _ hx
    refine ⟨g,_,rfl,hx,?_,?_,?_⟩
    · rw [h.cellAt _ (by omega)];exact c0
    · rw [h.cellAt _ (by omega)];exact c1
    · rw [h.cellAt _ (by omega)];exact c2
theorem firsts_any (w:World) (v:Value) (ns:List Note) (at0 n:Nat) (hv:w.ownsRow 0 113 3 v n (nc ns)) (hn:ns.length=n) (hl:n<=1099511627776) :
    Calls Tryz.prog 88 #[v,.int .i64 (at0:Int)] w fun e w'=>(∃ v' L1 m,e=.returned v'/\Sorted nameN L1/\Same nameN L1 (ns.filter fun x=>decide (at0 < x.chg))/\(compN L1).length=m/\m<=n/\w'.ownsRow w.heap.size 113 3 v' m (nc (compN L1)))/\Below w.heap.size w w':=by
  obtain ⟨ao,cap,rfl⟩:=ownsRow_form hv
  obtain ⟨p,hp⟩:∃ p:Note->Bool,(fun x:Note=>decide (at0 < x.chg))=p:=⟨_,rfl⟩
  rw [hp]
  obtain ⟨L0,hL0⟩:∃ L0,ns.filter p=L0:=⟨_,rfl⟩
  rw [hL0]
  have hL0':=Lib.hid hL0
  clear hL0
  have hv':=Lib.hid hv
  have hn':=Lib.hid hn
  have hp':=Lib.hid hp
  clear hv hn hp
  go_enter Tryz.func88,Tryz.ntmps88
  go_wp2
  go_loopw [5,10] (fun s5 s10 wr=>∃ k m:Nat,s10=.int .i64 (k:Int)/\k<=n/\m<=k/\Hid (((ns.take k).filter p).length=m/\wr.ownsRow w.heap.size 113 3 s5 m (nc ((ns.take k).filter p)))/\Below w.heap.size w wr) (fun _ s10 wr=>n - (RowKit.intOf s10).toNat)
  case atStart=>exact ⟨0,0,rfl,Nat.zero_le _,Nat.le_refl _,Lib.hid ⟨rfl,World.ownsRow_nil _ _ _ 3⟩,Below.refl _ _⟩
  case round =>
    obtain ⟨k,m,rfl,hk,hmk,hR,hbw⟩:=hrel
    by_cases hlt:k < n
    · obtain ⟨g,x,rfl,hx,c0,c1,c2⟩:=note_at (ownsRow_below hv'.out hbw) hlt
      obtain ⟨q1,q2⟩:=List.getElem?_eq_some_iff.1 hx
      have hfs:(ns.take (k+1)).filter p=(ns.take k).filter p++(if p x=true then [x] else []):=by
        rw [List.take_succ_eq_append_getElem q1,q2,List.filter_append]
        cases hq2:p x<;>simp [hq2]
      have hpx:decide ((at0:Int) < (x.chg:Int))=p x:=by
        rw [<-hp'.out]
        show decide ((at0:Int) < (x.chg:Int))=decide (at0 < x.chg)
        by_cases e:at0 < x.chg
        · rw [decide_eq_true e,decide_eq_true (by omega)]
        · rw [decide_eq_false e,decide_eq_false (by omega)]
      obtain ⟨sx,hsx⟩:∃ sx:ByteArray,(⟨x.name.toArray⟩:ByteArray)=sx:=⟨_,rfl⟩
      unfold sv at c1
      rw [hsx] at c1
      have hnm:sv x.name=.string sx:=by unfold sv;rw [hsx]
      have hbx:Below wr.heap.size wr (wr.alloc (.cells #[.int .i64 (x.chg:Int),.string sx,.bool x.was] 113)):=(Below.refl _ _).alloc (Nat.le_refl _) _
      have hB2:=below_then hbw hbx
      have hown2:=ownsRow_below hR.out.2 hbx
      have hlen:=hR.out.1
      have hszw:w.heap.size<=(wr.alloc (.cells #[.int .i64 (x.chg:Int),.string sx,.bool x.was] 113)).heap.size:=hB2.size
      cases hq:p x with
      | false =>
        rw [hq] at hpx hfs
        have hd:¬ (at0:Int) < (x.chg:Int):=of_decide_eq_false hpx
        have hR2:=Lib.hid (show ((ns.take (k+1)).filter p).length=m/\(wr.alloc (.cells #[.int .i64 (x.chg:Int),.string sx,.bool x.was] 113)).ownsRow w.heap.size 113 3 u5 m (nc ((ns.take (k+1)).filter p)) from by rw [hfs,if_neg (by simp),List.append_nil];exact ⟨hlen,hown2⟩)
        have hB2':=Lib.hid hB2
        clear hR hbw hpx hfs hx q1 q2 hsx hnm hbx hB2 hown2 hlen hq
        go_wp2
        go_roundw
        case rel=>exact ⟨k+1,m,by go_num,by omega,by omega,hR2,hB2'.out⟩
        case measure=>simp [RowKit.intOf];omega
      | true =>
        rw [hq,if_pos rfl] at hfs
        rw [hq] at hpx
        have hd:(at0:Int) < (x.chg:Int):=of_decide_eq_true hpx
        have hlen':=Lib.hid hlen
        have hown':=Lib.hid hown2
        have hB2':=Lib.hid hB2
        have hfs':=Lib.hid hfs
        have hnm':=Lib.hid hnm
        clear hR hbw hpx hfs hx q1 q2 hsx hnm hbx hB2 hown2 hlen hq
        go_wp2_with (first
          | (at_builtin;refine append_noteB (x.chg:Int) sx x.was rfl _ _ rfl w.heap.size _ ((ns.take k).filter p) m hlen'.out x rfl hnm'.out rfl (wr.heap.size+1) (by simp) rfl rfl hown'.out (by omega) hszw ?_;intro v5 w5 ho5 hA5)
          | fail)
        have hR2:=Lib.hid (show ((ns.take (k+1)).filter p).length=m+1/\w5.ownsRow w.heap.size 113 3 v5 (m+1) (nc ((ns.take (k+1)).filter p)) from by rw [hfs'.out];exact ⟨by rw [List.length_append,hlen'.out];rfl,ho5⟩)
        have hB5:=Lib.hid (hA5 w hB2'.out)
        clear ho5 hA5
        go_wp2
        go_roundw
        case rel=>exact ⟨k+1,m+1,by go_num,by omega,by omega,hR2,hB5.out⟩
        case measure=>simp [RowKit.intOf];omega
    · obtain rfl:k=n:=by omega
      have hall:ns.take k=ns:=List.take_of_length_le (by rw [hn'.out];exact Nat.le_refl _)
      obtain ⟨hlen,hown⟩:=hR.out
      rw [hall] at hlen hown
      rw [hL0'.out] at hlen hown
      rcases hown.2 with ⟨hnil,hm0⟩ | ⟨g,cap2,cur,e1,hbase,e3,_⟩
      · have hS:=fun W=>sortN_nil W
        have hC:=fun W=>compact_nil W
        have hL00:L0=[]:=List.eq_nil_of_length_eq_zero (by omega)
        subst hL00
        subst hnil
        clear hown hR hlen hall
        go_wp2_with fail
        go_at_call 117
        refine (hS wr).mono ?_
        rintro e w1 ⟨rfl,hb1⟩
        have hb1':=Lib.hid (below_then hbw hb1)
        clear hS hb1
        go_wp2_with fail
        go_at_call 120
        refine (hC w1).mono ?_
        rintro e w2 ⟨rfl,hb2⟩
        have hb2':=Lib.hid (below_then hb1'.out hb2)
        clear hC hb2
        go_wp2
        go_ret
        exact ⟨⟨_,[],0,rfl,List.Pairwise.nil,fun _=>rfl,rfl,Nat.zero_le _,World.ownsRow_nil _ _ _ 3⟩,hb2'.out⟩
      · have hown0:=ownsRow_less hown (Nat.zero_le _)
        subst e1
        have hS:=sortN_any L0 g cap2 m wr hlen hown0 (by omega)
        have hbase':=Lib.hid hbase
        clear hown hown0 hR hall e3
        go_wp2_with fail
        go_at_call 117
        refine hS.mono ?_
        rintro e w1 ⟨rfl,L1,s1,s2,s3,s4,s5⟩
        have hC:=compact_any L1 g cap2 m w1 s3 s4 (by omega)
        have s1':=Lib.hid s1
        have s2':=Lib.hid s2
        have s3':=Lib.hid s3
        have s5':=Lib.hid s5
        clear hS s1 s2 s3 s4 s5
        go_wp2_with fail
        go_at_call 120
        refine hC.mono ?_
        rintro e w2 ⟨⟨m2,rfl,t1,t2⟩,t3⟩
        have hX:=Lib.hid (show m2<=k/\w2.ownsRow w.heap.size 113 3 (.slice (some ⟨g,0,none⟩) m2 cap2) m2 (nc (compN L1))/\Below w.heap.size w w2 from by
          have:=compN_le L1
          refine ⟨by rw [<-t1];have:=s3'.out;omega,?_,(s5'.out.trans t3).below hbw (fun q hq=>by simp at hq;subst hq;exact hbase'.out) hbw.size⟩
          refine ⟨t2.1,?_⟩
          rcases t2.2 with h | ⟨g',cap',cur',e1,_,e3⟩
          · exact .inl h
          · refine .inr ⟨g',cap',cur',e1,?_,e3⟩
            simp only [Value.slice.injEq,Option.some.injEq,Addr.mk.injEq,and_true,true_and] at e1
            rw [<-e1.1];exact hbase'.out)
        have t1':=Lib.hid t1
        clear hC t1 t2 t3
        go_wp2
        go_ret
        exact ⟨⟨_,L1,m2,rfl,s1'.out,s2'.out,t1'.out,hX.out.1,hX.out.2.1⟩,hX.out.2.2⟩
end Bo
namespace Bo
open Go.Maps Go.WideShapes
theorem MapIs.len {P:Program} {k:TypeId} {w:World} {b:Nat} {M:List (List UInt8 × Value)} (h:MapIs P k w b M) {t e:TypeId} (ht:P.underlying t=some (.map k e)) (ty:TypeId):(Builtin.len_ #[t] ty #[.map (some b)]).run P w=.ok (.int .i64 (M.length:Int)) w:=by
  obtain ⟨l,h1,h2⟩:=h
  have e:Maps.size (DataW.map l)=M.length:=by
    show l.length=M.length
    rw [h2.length_eq,List.length_map]
  rw [h1.len ht ty,e]
section
variable {P:Program} {w:World} {ops:Array Oper} {o:Oper} {a:Act} {K:Act->World->Prop} {Q:Exit->Act->World->Prop} {E:Prop}
end
end Bo
namespace Bo
open Go.Lib Go.RowKit
theorem list_any (w:World) (sb bm:Nat) (L:Bks) (s:Sh) (h:ShIs w sb bm L s.chg) (hL:L.map Prod.fst=s.books) (hO:ShOk s) :
    Calls Tryz.prog 20 #[pv sb] w fun e w'=>∃ v,e=.returned v/\RepIs w.heap.size w' v { st:=207,ents:=s.books.map fun b=>⟨b.name,b.made,[],false⟩ }/\Below w.heap.size w w':=by
  obtain ⟨wB,hwB⟩:∃ wB,w.alloc repO=wB:=⟨_,rfl⟩
  have hB0:Below w.heap.size w wB:=by rw [<-hwB];exact (Below.refl _ _).alloc (Nat.le_refl _) _
  have hsB:w.heap.size < wB.heap.size:=by rw [<-hwB];simp
  have hres:wB.heap[w.heap.size]?=some (.cells #[.int .i64 0,.int .i64 0,.string ⟨#[]⟩,.slice none 0 0,.string ⟨#[]⟩] 29 (0,0)):=by rw [<-hwB];exact heap_alloc_new w _
  have hlt:sb < w.heap.size:=h.lt sb (by simp [fpS])
  obtain ⟨ns,hns⟩:∃ ns,s.books.map (·.name)=ns:=⟨_,rfl⟩
  obtain ⟨n,hn⟩:∃ n,ns.length=n:=⟨_,rfl⟩
  have hnc:s.books.length=n:=by rw [<-hn,<-hns,List.length_map]
  have hn256:n<=256:=by rw [<-hnc];have:=hO.most;omega
  have hat:∀ W,Below wB.heap.size wB W->W.cell? ⟨sb,1,none⟩=some (.map (some bm))/\MapIs Tryz.prog 9 W bm (bM L):=fun W hW=>by
    have hw:=below_then hB0 hW
    exact ⟨(sh2 h.blk (hw.block sb hlt)).2.1,h.map.block (hw.block bm h.map.lt)⟩
  have cN:=namesB_any wB bm (bM L) ns (hat wB (Below.refl _ _)).2 (by
    have e:(bM L).map Prod.fst=ns:=by rw [<-hns,<-hL];unfold bM;rw [List.map_map,List.map_map];rfl
    rw [e]) (by rw [<-hns];exact hO.rise) (by omega)
  rw [hn] at cN
  -- what each name leads to
  have hone:∀ k r,k < n->ns[k]?=some r->∃ (b:Bk) (c:Nat),s.books[k]?=some b/\b.name=r/\(lookM (bM L) r).getD (.pointer none)=pv c/\r.length<=64/\∀ W,Below wB.heap.size wB W->W.cell? ⟨c,0,none⟩=some (.int .i64 (b.made:Int)):=fun k r hk hr=>by
    rw [<-hns,List.getElem?_map] at hr
    obtain ⟨b,hl,hlr⟩:=Option.map_eq_some_iff.1 hr
    have hbm:=List.mem_of_getElem? hl
    have hl':=hl
    rw [<-hL,List.getElem?_map] at hl'
    obtain ⟨x,hx,hxb⟩:=Option.map_eq_some_iff.1 hl'
    have hxm:=List.mem_of_getElem? hx
    have hat2:atL L r=some x:=by
      cases hq:atL L r with
      | none =>
        have:=List.find?_eq_none.1 hq x hxm
        simp [hxb,hlr] at this
      | some y =>
        obtain ⟨hy,hyr⟩:=atL_some hq
        rw [inj_name h.names hy hxm (by rw [hyr,hxb,hlr])]
    refine ⟨b,x.2.c,hl,hlr,by rw [atL_look,hat2];rfl,by rw [<-hlr];exact (hO.books b hbm).1,fun W hW=>?_⟩
    have hw:=below_then hB0 hW
    have hbk:=h.bks x hxm
    rw [hxb] at hbk
    exact (col4 hbk (hw.block x.2.c (hbk.lt _ (by simp [Pl.fp])))).1
  obtain ⟨es,hes⟩:∃ es:List Ent,(s.books.map fun b=>(⟨b.name,b.made,[],false⟩:Ent))=es:=⟨_,rfl⟩
  have hel:es.length=n:=by rw [<-hes,List.length_map];exact hnc
  have hek:∀ k b,s.books[k]?=some b->es.take (k+1)=es.take k++[⟨b.name,b.made,[],false⟩]/\k < n:=fun k l hl=>by
    obtain ⟨h1,h2⟩:=List.getElem?_eq_some_iff.1 hl
    refine ⟨?_,by omega⟩
    rw [List.take_succ_eq_append_getElem (by omega)]
    congr 2
    subst hes
    rw [List.getElem_map,h2]
  have hrep:∀ W v,W.ownsRow w.heap.size 38 4 v n (ec es)->RepIs w.heap.size W (repV 207 0 noS v noS) { st:=207,ents:=es }:=fun W v hv=>⟨v,rfl,by rw [hel];exact hv⟩
  rw [hes]
  have hat':=Lib.hid hat
  have hone':=Lib.hid hone
  have hek':=Lib.hid hek
  have hrep':=Lib.hid hrep
  have hel':=Lib.hid hel
  have hres':=Lib.hid hres
  have hB0':=Lib.hid hB0
  obtain ⟨x2,m2⟩:=hat wB (Below.refl _ _)
  clear hat hone hek hrep hel hes hn hns hnc h hO hres hB0 m2 hL
  go_enter Tryz.func20,Tryz.ntmps20
  go_wp2_with fail
  go_at_call 39
  refine cN.mono ?_
  rintro e w1 ⟨⟨vn,rfl,hvn⟩,hb1⟩
  obtain ⟨ao,cap,rfl⟩:=ownsRow_form hvn
  have hvn':=Lib.hid hvn
  clear cN hvn x2
  go_wp2
  go_loopw [3,12] (fun s5 s14 wr=>∃ k:Nat,s14=.int .i64 (k:Int)/\k<=n/\Hid (wr.ownsRow w1.heap.size 38 4 s5 k (ec (es.take k)))/\Below w1.heap.size w1 wr) (fun _ s14 wr=>n - (RowKit.intOf s14).toNat)
  case atStart=>exact ⟨0,rfl,Nat.zero_le _,Lib.hid (by rw [List.take_zero];exact World.ownsRow_nil _ _ _ 4),Below.refl _ _⟩
  case round =>
    obtain ⟨k,rfl,hk,hown,hbw⟩:=hrel
    have hbwB:=below_then hb1 hbw
    by_cases hlt2:k < n
    · obtain ⟨g,rfl,hgl,r,hr,hcr⟩:=str_at (ownsRow_below hvn'.out hbw) hlt2
      obtain ⟨b,c,hl,hlr,hlook,hr64,hmade⟩:=hone'.out k r hlt2 hr
      obtain ⟨x2,m2⟩:=hat'.out wr hbwB
      have hc0:=hmade wr hbwB
      have hkey2:keyOf Tryz.prog 9 (.string ⟨r.toArray⟩)=some (.string r):=by rw [keyOf_str Tryz.underlying9 ⟨r.toArray⟩ (by unfold maxLen;show r.toArray.size<=_;simp;omega)]
      obtain ⟨hek1,_⟩:=hek'.out k b hl
      have hnm:sv b.name=.string ⟨r.toArray⟩:=by rw [hlr];rfl
      have htk:(es.take k).length=k:=by rw [List.length_take];have:=hel'.out;omega
      have hszw:w1.heap.size<=wr.heap.size:=hbw.size
      have hek1':=Lib.hid hek1
      have hbwB':=Lib.hid hbwB
      have hbw':=Lib.hid hbw
      have hnm':=Lib.hid hnm
      have htk':=Lib.hid htk
      clear hl hlr hr hek1 hbwB hbw hnm htk hmade
      go_wp2_with (first
        | (at_lookup;refine wp_look _ rfl _ _ 59 rfl 9 62 keyed Tryz.underlying59 (zeroC _) bm _ rfl m2 _ _ rfl hkey2 _ hlook ?_)
        | (at_builtin;refine append_ent ⟨r.toArray⟩ (b.made:Int) ⟨#[]⟩ false rfl _ _ rfl w1.heap.size _ (es.take k) k htk'.out ⟨b.name,b.made,[],false⟩ hnm'.out rfl rfl rfl _ rfl rfl rfl hown.out (by omega) hszw ?_;intro v5 w5 ho5 _ hA5 hg5)
        | fail)
      have ho6:=Lib.hid (show w5.ownsRow w1.heap.size 38 4 v5 (k+1) (ec (es.take (k+1))) by rw [hek1'.out];exact ho5)
      have hB6:=Lib.hid (hA5 w1 hbw'.out)
      clear ho5 hA5 hg5
      go_wp2
      go_roundw
      case rel=>exact ⟨k+1,by go_num,by omega,ho6,hB6.out⟩
      case measure=>simp [RowKit.intOf];omega
    · obtain rfl:k=n:=by omega
      have htk:es.take k=es:=List.take_of_length_le (by rw [hel'.out];exact Nat.le_refl _)
      have ho:=hown.out
      rw [htk] at ho
      obtain ⟨eo,ecap,rfl⟩:=ownsRow_form ho
      have hsz1:=hb1.size
      have hr3:=(hbwB.block _ hsB).trans hres'.out
      have hlo:=ho.lt
      have hX':=Lib.hid (show RepIs w.heap.size (put5 wr w.heap.size 207 0 noS (.slice eo k ecap) noS) (repV 207 0 noS (.slice eo k ecap) noS) { st:=207,ents:=es }/\Below w.heap.size w (put5 wr w.heap.size 207 0 noS (.slice eo k ecap) noS) from
        ⟨hrep'.out _ _ (ownsRow_less (ownsRow_heap ho fun g hg=>put5_block _ _ _ _ _ _ _ (by have:=(hlo g hg).1;omega)) (show w.heap.size<=w1.heap.size by omega)),below_put5 (below_then hB0'.out hbwB) (Nat.le_refl _) _ _ _ _ _⟩)
      obtain ⟨p0,p1,p2,p3,p4,f0,f1,f2,f3,f4⟩:=res5 hr3
      clear hown ho htk hbw hbwB hlo hwB
      go_wp2
      exact rep_fin rfl rfl hr3 ⟨_,rfl,hX'.out⟩
def entM (b:Bk) (n:Row):Ent:=match lfAt b n with
  | some l=>⟨n,l.tag,l.text,false⟩
  | none=>⟨n,0,[],true⟩
theorem entM_look (b:Bk) (r:Row):(entM b r).name=r/\(lookM (cM b.cards) r).getD (.agg #[.int .i64 0,.string ⟨#[]⟩])=.agg #[.int .i64 ((entM b r).tag:Int),.string ⟨(entM b r).data.toArray⟩]/\(lookM (cM b.cards) r).isSome=!(entM b r).gone:=by
  rw [lookC,show (b.cards.find? fun l=>decide (l.name=r))=lfAt b r from rfl]
  unfold entM
  cases lfAt b r<;>exact ⟨rfl,rfl,rfl⟩
theorem multi_any (w:World) (b:Bk) (p:Pl) (v:Value) (ns:List Row) (h:BkIs w b p) (hO:∃ c,BkOk c b) (hv:Li.StrsAt w v ns) (hsm:∀ x∈ns,x.length<=140737488355328) (hl:ns.length<=1099511627776) :
    Calls Tryz.prog 45 #[pv p.c,v] w fun e w'=>∃ v,e=.returned v/\RepIs w.heap.size w' v { st:=207,ents:=ns.map (entM b) }/\Below w.heap.size w w':=by
  obtain ⟨wB,hwB⟩:∃ wB,w.alloc repO=wB:=⟨_,rfl⟩
  have hB0:Below w.heap.size w wB:=by rw [<-hwB];exact (Below.refl _ _).alloc (Nat.le_refl _) _
  have hsB:w.heap.size < wB.heap.size:=by rw [<-hwB];simp
  have hres:wB.heap[w.heap.size]?=some (.cells #[.int .i64 0,.int .i64 0,.string ⟨#[]⟩,.slice none 0 0,.string ⟨#[]⟩] 29 (0,0)):=by rw [<-hwB];exact heap_alloc_new w _
  have hlt:p.c < w.heap.size:=h.lt p.c (by simp [Pl.fp])
  obtain ⟨A,bl,off,cap,rfl,g1,g2,g3,g4⟩:=hv
  obtain ⟨n,hn⟩:∃ n,ns.length=n:=⟨_,rfl⟩
  rw [hn] at g1 g3 hl ⊢
  have hat:∀ W,Below wB.heap.size wB W->W.cell? ⟨p.c,2,none⟩=some (.map (some p.m))/\MapIs Tryz.prog 9 W p.m (cM b.cards):=fun W hW=>by
    have hw:=below_then hB0 hW
    exact ⟨(col4 h (hw.block p.c hlt)).2.2.1,h.map.block (hw.block p.m h.map.lt)⟩
  obtain ⟨f,hf⟩:∃ f:Row->Ent,entM b=f:=⟨_,rfl⟩
  have hone:∀ k,k < n->∃ r,ns[k]?=some r/\(f r).name=r/\(lookM (cM b.cards) r).getD (.agg #[.int .i64 0,.string ⟨#[]⟩])=.agg #[.int .i64 ((f r).tag:Int),.string ⟨(f r).data.toArray⟩]/\(lookM (cM b.cards) r).isSome=!(f r).gone:=fun k hk=>by
    refine ⟨ns[k]'(by omega),List.getElem?_eq_getElem _,?_⟩
    rw [<-hf]
    exact entM_look b _
  obtain ⟨es,hes⟩:∃ es:List Ent,ns.map f=es:=⟨_,rfl⟩
  have hel:es.length=n:=by rw [<-hes,List.length_map];exact hn
  have hek:∀ k r,ns[k]?=some r->es.take (k+1)=es.take k++[f r]/\k < n/\r.length<=140737488355328:=fun k r hl=>by
    obtain ⟨h1,h2⟩:=List.getElem?_eq_some_iff.1 hl
    refine ⟨?_,by omega,hsm r (List.mem_of_getElem? hl)⟩
    rw [List.take_succ_eq_append_getElem (by omega)]
    congr 2
    subst hes
    rw [List.getElem_map,h2]
  have hcell:∀ k r W,ns[k]?=some r->Below wB.heap.size wB W->A=some ⟨bl,off,none⟩/\W.cell? ⟨bl,off+k,none⟩=some (.string ⟨r.toArray⟩):=fun k r W hr hW=>by
    have hk:=(List.getElem?_eq_some_iff.1 hr).1
    obtain ⟨e,hb⟩:=g3 (by omega)
    refine ⟨e,?_⟩
    rw [(below_then hB0 hW).cell (p:=⟨bl,off+k,none⟩) hb]
    exact g4 k r hr
  have hrep:∀ W v,W.ownsRow w.heap.size 38 4 v n (ec es)->RepIs w.heap.size W (repV 207 0 noS v noS) { st:=207,ents:=es }:=fun W v hv=>⟨v,rfl,by rw [hel];exact hv⟩
  rw [hf,hes]
  have hat':=Lib.hid hat
  have hone':=Lib.hid hone
  have hek':=Lib.hid hek
  have hrep':=Lib.hid hrep
  have hel':=Lib.hid hel
  have hres':=Lib.hid hres
  have hB0':=Lib.hid hB0
  have hcell':=Lib.hid hcell
  unfold maxLen at g2
  clear hat hone hek hrep hel hes hn h hO hres hB0 g3 g4 hcell hsm hf
  go_enter Tryz.func45,Tryz.ntmps45
  go_wp2
  go_loopw [5,12] (fun s5 s14 wr=>∃ k:Nat,s14=.int .i64 (k:Int)/\k<=n/\Hid (wr.ownsRow wB.heap.size 38 4 s5 k (ec (es.take k)))/\Below wB.heap.size wB wr) (fun _ s14 wr=>n - (RowKit.intOf s14).toNat)
  case atStart=>exact ⟨0,rfl,Nat.zero_le _,Lib.hid (by rw [List.take_zero];exact World.ownsRow_nil _ _ _ 4),Below.refl _ _⟩
  case round =>
    obtain ⟨k,rfl,hk,hown,hbw⟩:=hrel
    by_cases hlt2:k < n
    · obtain ⟨r,hr,hfn,hlook,hsome⟩:=hone'.out k hlt2
      obtain ⟨rfl,hcr⟩:=hcell'.out k r wr hr hbw
      obtain ⟨hek1,_,hrl⟩:=hek'.out k r hr
      obtain ⟨x2,m2⟩:=hat'.out wr hbw
      have hkey2:keyOf Tryz.prog 9 (.string ⟨r.toArray⟩)=some (.string r):=by rw [keyOf_str Tryz.underlying9 ⟨r.toArray⟩ (by unfold maxLen;show r.toArray.size<=_;simp;omega)]
      obtain ⟨tg,htg⟩:∃ x,(f r).tag=x:=⟨_,rfl⟩
      obtain ⟨tx,htx⟩:∃ x:ByteArray,(⟨(f r).data.toArray⟩:ByteArray)=x:=⟨_,rfl⟩
      obtain ⟨gn,hgn⟩:∃ x,(f r).gone=x:=⟨_,rfl⟩
      rw [htg,htx] at hlook
      rw [hgn] at hsome
      have hnm:sv (f r).name=.string ⟨r.toArray⟩:=by rw [hfn];rfl
      have hdt:sv (f r).data=.string tx:=by unfold sv;rw [htx]
      have htk:(es.take k).length=k:=by rw [List.length_take];have:=hel'.out;omega
      have hBal:Below wB.heap.size wB (wr.alloc (.cells #[.int .i64 (tg:Int),.string tx] 105)):=hbw.alloc hbw.size _
      have hown2:Hid ((wr.alloc (.cells #[.int .i64 (tg:Int),.string tx] 105)).ownsRow wB.heap.size 38 4 u5 k (ec (es.take k))):=Lib.hid (ownsRow_below hown.out ((Below.refl _ _).alloc (Nat.le_refl _) _))
      have hszw:wB.heap.size<=(wr.alloc (.cells #[.int .i64 (tg:Int),.string tx] 105)).heap.size:=hBal.size
      have hek1':=Lib.hid hek1
      have hbw':=Lib.hid hBal
      have hnm':=Lib.hid hnm
      have htk':=Lib.hid htk
      have hdt':=Lib.hid hdt
      have htg':=Lib.hid htg
      have hgn':=Lib.hid hgn
      have hnn:(!(!gn))=gn:=by simp
      clear hr hek1 hbw hnm htk hBal hfn htg htx hgn hdt hown hrl
      go_wp2_with (first
        | (at_lookup;refine wp_look_ok _ rfl _ _ 89 rfl 9 105 keyed Tryz.underlying89 (zeroK _) p.m _ rfl m2 _ _ rfl hkey2 _ _ hlook hsome ?_)
        | (at_builtin;refine append_ent ⟨r.toArray⟩ (tg:Int) tx gn rfl _ _ rfl wB.heap.size _ (es.take k) k htk'.out (f r) hnm'.out (by rw [htg'.out]) hdt'.out hgn'.out (wr.heap.size+1) (by simp) rfl rfl hown2.out (by omega) hszw ?_;intro v5 w5 ho5 _ hA5 hg5)
        | fail)
      have ho6:=Lib.hid (show w5.ownsRow wB.heap.size 38 4 v5 (k+1) (ec (es.take (k+1))) by rw [hek1'.out];exact ho5)
      have hB6:=Lib.hid (hA5 wB hbw'.out)
      clear ho5 hA5 hg5
      go_wp2
      go_roundw
      case rel=>exact ⟨k+1,by go_num,by omega,ho6,hB6.out⟩
      case measure=>simp [RowKit.intOf];omega
    · obtain rfl:k=n:=by omega
      have htk:es.take k=es:=List.take_of_length_le (by rw [hel'.out];exact Nat.le_refl _)
      have ho:=hown.out
      rw [htk] at ho
      obtain ⟨eo,ecap,rfl⟩:=ownsRow_form ho
      have hr3:=(hbw.block _ hsB).trans hres'.out
      have hlo:=ho.lt
      have hX':=Lib.hid (show RepIs w.heap.size (put5 wr w.heap.size 207 0 noS (.slice eo k ecap) noS) (repV 207 0 noS (.slice eo k ecap) noS) { st:=207,ents:=es }/\Below w.heap.size w (put5 wr w.heap.size 207 0 noS (.slice eo k ecap) noS) from
        ⟨hrep'.out _ _ (ownsRow_less (ownsRow_heap ho fun g hg=>put5_block _ _ _ _ _ _ _ (by have:=(hlo g hg).1;omega)) (show w.heap.size<=wB.heap.size by omega)),below_put5 (below_then hB0'.out hbw) (Nat.le_refl _) _ _ _ _ _⟩)
      obtain ⟨p0,p1,p2,p3,p4,f0,f1,f2,f3,f4⟩:=res5 hr3
      clear hown ho htk hbw hlo hwB
      go_wp2
      exact rep_fin rfl rfl hr3 ⟨_,rfl,hX'.out⟩
end Bo
end Go.Proofs.YtobfaibofhmpgaaGreatDoor
