import Derived.Test.YtobfaibofhmpgaaGreatDoorAp37
import Derived.Lib.AppendStr
import Derived.Laws.BitsAllLaws
set_option linter.unusedVariables false
set_option maxHeartbeats 8000000
set_option maxRecDepth 100000
namespace Go.Proofs.YtobfaibofhmpgaaGreatDoor
namespace Ly
open Go.Lib Go.RowKit
open Bo (Kp Row ownsRow_heap)
theorem infoU8:(Tryz.prog.info? 5).map (fun i=>(i.zero,i.size,i.bytes))=some (some (.int .u8 0),1,1):=by kernel_rfl
theorem info_parts {t:TypeId} {z:Value} {n m:Nat} (h:(Tryz.prog.info? t).map (fun i=>(i.zero,i.size,i.bytes))=some (some z,n,m)):∃ i0,Tryz.prog.info? t=some i0/\i0.zero=some z/\i0.size=n/\i0.bytes=m:=by
  obtain ⟨i,h1,h2⟩:=Option.map_eq_some_iff.1 h
  simp only [Prod.mk.injEq] at h2
  exact ⟨i,h1,h2.1,h2.2.1,h2.2.2⟩
def bc (l:Row):List Value:=l.map fun b=>.int .u8 (b.toNat:Int)
theorem bc_app (a b:Row):bc (a++b)=bc a++bc b:=List.map_append
def BOwn (B:Nat) (v:Value) (l:Row) (w:World):Prop:=w.ownsRow B 5 1 v l.length (bc l)
theorem BOwn.nil (B:Nat) (w:World):BOwn B (.slice none 0 0) [] w:=World.ownsRow_nil w B _ 1
theorem BOwn.heap {w w':World} {B:Nat} {v:Value} {l:Row} (h:BOwn B v l w) (hk:∀ g,v.ownBlock=some g->w'.heap[g]?=w.heap[g]?):BOwn B v l w':=ownsRow_heap h hk
theorem BOwn.kept {w w':World} {B:Nat} {v:Value} {l:Row} (h:BOwn B v l w) (hb:Below w.heap.size w w'):BOwn B v l w':=h.heap fun g hg=>hb.block g (World.ownsRow.lt h g hg).2
theorem BOwn.form {w:World} {B:Nat} {v:Value} {l:Row} (h:BOwn B v l w):∃ a c,v=.slice a l.length c:=by
  rcases h.2 with ⟨hv,hn⟩ | ⟨g,cap,cur,e1,_⟩
  · exact ⟨none,0,by rw [hv,hn]⟩
  · exact ⟨_,_,e1⟩
structure Wr (B:Nat) (w w':World) (v v':Value) (l:Row):Prop where
  own:BOwn B v' l w'
  kp:Kp v.ownBlock.toList w w'
  new:∀ k,v'.ownBlock=some k->v.ownBlock=some k\/w.heap.size<=k
theorem Wr.refl {B:Nat} {w:World} {v:Value} {l:Row} (h:BOwn B v l w):Wr B w w v v l:=⟨h,Kp.refl _ _,fun k hk=>.inl hk⟩
theorem Wr.then {B:Nat} {w w1 w2:World} {v v1 v2:Value} {l1 l2:Row} (h:Wr B w w1 v v1 l1) (k:Wr B w1 w2 v1 v2 l2):Wr B w w2 v v2 l2 :=
  ⟨k.own,h.kp.then k.kp fun x hx=>by
    rcases h.new x (by simpa using hx) with e | e
    · exact .inl (by simp [e])
    · exact .inr e,fun x hx=>by
    rcases k.new x hx with e | e
    · exact h.new x e
    · exact .inr (Nat.le_trans h.kp.size e)⟩
theorem Wr.below {B:Nat} {A w w':World} {v v':Value} {l l':Row} (h:Wr B w w' v v' l') (ho:BOwn B v l w) (hA:Below B A w) (hB:B<=w.heap.size):Below B A w' :=
  h.kp.below hA (fun k hk=>(World.ownsRow.lt ho k (by simpa using hk)).1) hB
theorem Wr.after {B:Nat} {w0 w w':World} {v v':Value} {l:Row} (hb:Below w0.heap.size w0 w) (h:Wr B w w' v v' l):Wr B w0 w' v v' l :=
  ⟨h.own,(Kp.of_below hb).then h.kp fun x hx=>.inl hx,fun x hx=>(h.new x hx).imp id fun e=>Nat.le_trans hb.size e⟩
theorem Wr.then_below {B:Nat} {w w1 w2:World} {v v1:Value} {l:Row} (h:Wr B w w1 v v1 l) (hb:Below w1.heap.size w1 w2):Wr B w w2 v v1 l :=
  ⟨h.own.kept hb,h.kp.belowThen hb,h.new⟩
theorem Wr.block {B:Nat} {w w':World} {v v':Value} {l:Row} (h:Wr B w w' v v' l) {i:Nat} (hi:i < w.heap.size) (hn:v.ownBlock≠some i):w'.heap[i]?=w.heap[i]?:=h.kp.block i hi (by simpa using hn)
theorem append_byte {w0:World} {ops:Array Oper} {rest:List Oper} {o:Oper} {a:Act} {Q:Exit->Act->World->Prop} (x:UInt8) (z:Int) (hz:(x.toNat:Int)=z) (hgd:o.guard=none) (s xo:Operand)
    (ho:o.op=.call { callee:=.builtin .append,args:=#[s,xo],argTypes:=#[56,56] }) (base:Nat) (v:Value) (l:Row) (g:Nat) (hgz:g=w0.heap.size) (hs:a.eval s=v) (hx:a.eval xo=.slice (some ⟨g,0,none⟩) 1 1)
    (hown:BOwn base v l w0) (hl:l.length+1<=140737488355328) (hbase:base<=w0.heap.size)
    (h:∀ g cap w',Wr base w0 w' v (.slice (some ⟨g,0,none⟩) (l.length+1) cap) (l++[x])->wpList Tryz.prog ops Q rest (a.put o.dst (.slice (some ⟨g,0,none⟩) (l.length+1) cap)) w') :
    wpList Tryz.prog ops Q (o :: rest) a (w0.alloc (.cells #[.int .u8 z] 5)):=by
  obtain ⟨i0,hi,hz0,hz1,hz2⟩:=info_parts infoU8
  subst hz
  subst hgz
  have hal:Below w0.heap.size w0 (w0.alloc (.cells #[.int .u8 (x.toNat:Int)] 5)):=(Below.refl _ _).alloc (Nat.le_refl _) _
  refine wpList_append_lies _ hgd s xo 56 ho base 5 i0 (.int .u8 0) 1 1 Tryz.underlying56 hi hz0 hz1 hz2 rfl (by decide) v l.length (bc l) hs (World.ownsRow.alloc hown _) ⟨w0.heap.size,0,none⟩ 1 1 [.int .u8 (x.toNat:Int)] hx rfl (fun j u hj=>?_) (fun u hu=>?_) (by decide) (by unfold maxLen;omega) (by omega) (by simp;omega) _ rfl (fun g cap w' h5 h6 h7 h8=>h g cap w' ?_)
  · match j,hj with
    | 0,hj=>simp at hj;subst hj;simp [Addr.add]
  · simp at hu
    rcases hu with rfl
    rfl
  · refine Wr.after hal ⟨?_,(Kp.refl _ _).grown h6 fun k hk=>.inl (by simp [hk]),fun k hk=>?_⟩
    · unfold BOwn
      rw [bc_app,List.length_append]
      exact h5
    · simp [Value.ownBlock] at hk
      subst hk
      rcases h7 with e | e
      · exact .inl e
      · exact .inr (by omega)
theorem run_append_text {w:World} (base:Nat) (ty:TypeId) (v:Value) (l:Row) (hown:BOwn base v l w) (s:ByteArray) (hl:l.length+s.size<=140737488355328) (hbase:base<=w.heap.size) :
    ∃ v' w',(Builtin.append_ #[56,9] ty #[v,.string s]).run Tryz.prog w=.ok v' w'/\Wr base w w' v v' (l++s.data.toList):=by
  obtain ⟨i0,hi,hz0,hz1,hz2⟩:=info_parts infoU8
  have law:=fun B hB hb=>Lib.run_append_own_string (P:=Tryz.prog) w B 56 9 ty 5 i0 Tryz.underlying56 Tryz.underlying9 hi hz0 hz1 hz2 v l.length (bc l) hB s (by unfold maxLen;omega) hl hb
  have hfin:∀ B v' w',w'.ownsRow B 5 1 v' (l.length+s.size) (bc l++strCells s)->BOwn B v' (l++s.data.toList) w':=fun B v' w' h=>by
    unfold BOwn
    rw [bc_app,List.length_append,<-Lib.size_eq]
    exact h
  obtain ⟨v',w',hr,h1,h2,_⟩:=law base hown hbase
  refine ⟨v',w',hr,hfin _ _ _ h1,(Kp.refl _ _).grown h2 fun k hk=>.inl (by simp [hk]),fun k hk=>?_⟩
  rcases hown.2 with ⟨hv,hn⟩ | ⟨g,cap,cur,hv,hbg,hg,hnc,hcm,hcs,htake⟩
  · obtain ⟨v2,w2,hr2,h3,_⟩:=law w.heap.size ⟨hown.1,.inl ⟨hv,hn⟩⟩ (Nat.le_refl _)
    rw [hr] at hr2
    injection hr2 with e1 e2
    subst e1 e2
    exact .inr (World.ownsRow.lt h3 k hk).1
  · by_cases hroom:l.length+s.size<=cap
    · have hr2:=Lib.run_append_room_string (P:=Tryz.prog) w 56 9 ty 5 i0 Tryz.underlying56 Tryz.underlying9 hi hz1 g l.length cap cur hg s hroom (by omega)
      rw [<-hv,hr] at hr2
      injection hr2 with e1 e2
      rw [e1] at hk
      rw [hv]
      exact .inl hk
    · have hcs':cur.size=cap:=by simpa using hcs
      have holds:∀ j u,(bc l)[j]?=some u->w.cell? ((⟨g,0,none⟩:Addr).add j)=some u:=(hv▸hown:w.ownsRow base 5 1 (.slice (some ⟨g,0,none⟩) l.length cap) l.length (bc l)).cells (g:=g) rfl
      have hr2:=Lib.run_append_grow_string (P:=Tryz.prog) w 56 9 ty 5 i0 (.int .u8 0) Tryz.underlying56 Tryz.underlying9 hi hz0 ⟨g,0,none⟩ l.length cap (bc l) (by rw [hz1];simpa using hown.1) holds s (by omega) (by omega) (by rw [hz2];exact growslice_fits (by omega) (by omega))
      rw [<-hv,hr] at hr2
      injection hr2 with e1 e2
      rw [e1] at hk
      simp [Value.ownBlock] at hk
      exact .inr (by omega)
theorem append_text {w0:World} {ops:Array Oper} {rest:List Oper} {o:Oper} {a:Act} {Q:Exit->Act->World->Prop} (x:ByteArray) (hgd:o.guard=none) (s xo:Operand)
    (ho:o.op=.call { callee:=.builtin .append,args:=#[s,xo],argTypes:=#[56,9] }) (base:Nat) (v:Value) (l:Row) (hs:a.eval s=v) (hx:a.eval xo=.string x)
    (hown:BOwn base v l w0) (hl:l.length+x.size<=140737488355328) (hbase:base<=w0.heap.size)
    (h:∀ v' w',Wr base w0 w' v v' (l++x.data.toList)->wpList Tryz.prog ops Q rest (a.put o.dst v') w') :
    wpList Tryz.prog ops Q (o :: rest) a w0:=by
  refine wpList_plain hgd fun K hK=>?_
  obtain ⟨v',w',hr,h2⟩:=run_append_text base o.type v l hown x hl hbase
  unfold Oper.wp execOp
  simp only [ho,resolve,invoke,builtin,Sem.run_bind,Sem.run_pure,Result.andThen_ok,List.map_toArray,List.map_cons,List.map_nil,hs,hx,hr]
  exact hK _ _ (h v' w' h2)
open Bo (Kp Row ownsRow_heap)
theorem number_any (w:World) (B:Nat) (v:Value) (l:Row) (n:Nat) (h:BOwn B v l w) (hl:l.length+8<=140737488355328) (hB:B<=w.heap.size) (hn:n<=4611686018427387904) :
    Calls Tryz.prog 35 #[v,.int .i64 (n:Int)] w fun e w'=>∃ v',e=.returned v'/\Wr B w w' v v' (l++word n):=by
  obtain ⟨a0,c0,rfl⟩:=h.form
  have h0:=Lib.hid (Wr.refl h)
  go_enter Tryz.func35,Tryz.ntmps35
  go_wp2
  go_loopw [0,5] (fun s0 s5 wr=>∃ k:Nat,s5=.int .i64 (56 - 8*(k:Int))/\k<=8/\Hid (Wr B w wr (.slice a0 l.length c0) s0 (l++(word n).take k))) (fun _ s5 wr=>(RowKit.intOf s5+8).toNat)
  case atStart=>exact ⟨0,by rfl,by omega,Lib.hid (by rw [List.take_zero,List.append_nil];exact h0.out)⟩
  case round =>
    obtain ⟨k,rfl,hk,hW⟩:=hrel
    obtain ⟨x,hx⟩:∃ x,l++(word n).take k=x:=⟨_,rfl⟩
    rw [hx] at hW
    have hx':=Lib.hid hx
    obtain ⟨a1,c1,rfl⟩:=hW.out.own.form
    by_cases hlt:k < 8
    · have hz:((UInt8.ofNat (n / 2 ^ (56 - 8*k))).toNat:Int)=(n:Int) / 2 ^ (56 - 8*k) % 256:=by simp
      have hlen:x.length+1<=140737488355328:=by rw [<-hx,List.length_append,List.length_take,word_len];omega
      have hsz:B<=wr.heap.size:=Nat.le_trans hB hW.out.kp.size
      clear hx
      go_wp2_with (first
        | (at_builtin;refine append_byte (UInt8.ofNat (n / 2 ^ (56 - 8*k))) _ hz rfl _ _ rfl B _ _ _ rfl rfl rfl hW.out.own hlen hsz ?_;intro g cap w2 hw2;have hW2:=Lib.hid (hW.out.then hw2))
        | fail)
      clear hw2 hW hz
      go_wp2
      go_roundw
      case rel=>exact ⟨k+1,by go_num,by omega,Lib.hid (by rw [word_take n k hlt,<-List.append_assoc,hx'.out];simpa using hW2.out)⟩
      case measure=>simp [RowKit.intOf];omega
    · obtain rfl:k=8:=by omega
      have hxe:x=l++word n:=by rw [<-hx,List.take_of_length_le (by rw [word_len];exact Nat.le_refl _)]
      have hW':Hid (Wr B w wr (.slice a0 l.length c0) (.slice a1 x.length c1) (l++word n)):=Lib.hid (by rw [<-hxe];exact hW.out)
      clear hx hW hxe
      go_wp2
      go_ret
      exact ⟨_,rfl,hW'.out⟩
theorem text_any (w:World) (B:Nat) (v:Value) (l:Row) (t:ByteArray) (h:BOwn B v l w) (hl:l.length+8+t.size<=140737488355328) (hB:B<=w.heap.size) :
    Calls Tryz.prog 58 #[v,.string t] w fun e w'=>∃ v',e=.returned v'/\Wr B w w' v v' (l++text t.data.toList):=by
  obtain ⟨a0,c0,rfl⟩:=h.form
  have cN:=number_any w B _ l t.size h (by omega) hB (by omega)
  have hts:text t.data.toList=word t.size++t.data.toList:=by unfold text;rw [<-Lib.size_eq]
  go_enter Tryz.func58,Tryz.ntmps58
  go_wp2_with fail
  go_at_call 35
  refine cN.mono ?_
  rintro e w1 ⟨v1,rfl,h1⟩
  obtain ⟨x,hx⟩:∃ x,l++word t.size=x:=⟨_,rfl⟩
  have hxl:x.length+t.size<=140737488355328:=by rw [<-hx,List.length_append,word_len];omega
  have hxt:l++text t.data.toList=x++t.data.toList:=by rw [hts,<-List.append_assoc,hx]
  rw [hx] at h1
  have hxt':=Lib.hid hxt
  obtain ⟨a1,c1,rfl⟩:=h1.own.form
  have hsz:B<=w1.heap.size:=Nat.le_trans hB h1.kp.size
  have h1':=Lib.hid h1
  clear cN hts hx hxt h1 hl
  go_wp2_with (first
    | (at_builtin;refine append_text t rfl _ _ rfl B _ x rfl rfl h1'.out.own hxl hsz ?_;intro v2 w2 hw2;have hW2:=Lib.hid (h1'.out.then hw2))
    | fail)
  clear hw2
  go_wp2
  go_ret
  exact ⟨_,rfl,by rw [hxt'.out];exact hW2.out⟩
theorem flag_any (w:World) (B:Nat) (v:Value) (l:Row) (b:Bool) (h:BOwn B v l w) (hl:l.length+1<=140737488355328) (hB:B<=w.heap.size) :
    Calls Tryz.prog 61 #[v,.bool b] w fun e w'=>∃ v',e=.returned v'/\Wr B w w' v v' (l++flag b):=by
  obtain ⟨a0,c0,rfl⟩:=h.form
  have h':=Lib.hid h
  clear h
  cases b
  · go_enter Tryz.func61,Tryz.ntmps61
    go_wp2_with (first
      | (at_builtin;refine append_byte 0 0 rfl rfl _ _ rfl B _ _ _ rfl rfl rfl h'.out hl hB ?_;intro g cap w2 hw2;have hW2:=Lib.hid hw2)
      | fail)
    clear hw2
    go_wp2
    go_ret
    exact ⟨_,rfl,hW2.out⟩
  · go_enter Tryz.func61,Tryz.ntmps61
    go_wp2_with (first
      | (at_builtin;refine append_byte 1 1 rfl rfl _ _ rfl B _ _ _ rfl rfl rfl h'.out hl hB ?_;intro g cap w2 hw2;have hW2:=Lib.hid hw2)
      | fail)
    clear hw2
    go_wp2
    go_ret
    exact ⟨_,rfl,hW2.out⟩
open Bo (Kp Row ownsRow_heap)
structure Rd (w:World) (rb db:Nat) (l:Row):Prop where
  cells:∃ off c,w.heap[rb]?=some (.cells #[.slice (some ⟨db,off,none⟩) l.length c,.bool false,.bool false] 99 (0,0))/\l.length<=c/\c<=maxLen/\∀ j x,l[j]?=some x->w.cell? ⟨db,off+j,none⟩=some (.int .u8 ((x:UInt8).toNat:Int))
  lt:db < w.heap.size
  ne:db≠rb
theorem Rd.kept {w w':World} {rb db:Nat} {l:Row} (h:Rd w rb db l) (h1:w'.heap[rb]?=w.heap[rb]?) (h2:w'.heap[db]?=w.heap[db]?) (hs:w.heap.size<=w'.heap.size):Rd w' rb db l:=by
  obtain ⟨⟨off,c,e1,e2,e3,e4⟩,h3,h4⟩:=h
  refine ⟨⟨off,c,h1.trans e1,e2,e3,fun j x hj=>?_⟩,by omega,h4⟩
  have e:w'.cell? ⟨db,off+j,none⟩=w.cell? ⟨db,off+j,none⟩:=by simp [World.cell?,h2]
  rw [e]
  exact e4 j x hj
theorem Rd.rlt {w:World} {rb db:Nat} {l:Row} (h:Rd w rb db l):rb < w.heap.size:=by
  obtain ⟨off,c,e1,_⟩:=h.cells
  exact (Array.getElem?_eq_some_iff.1 e1).1
theorem Rd.below {w w':World} {rb db:Nat} {l:Row} (h:Rd w rb db l) (hb:Below w.heap.size w w'):Rd w' rb db l:=h.kept (hb.block rb h.rlt) (hb.block db h.lt) hb.size
theorem set_heap {W:World} {g:Nat} {cs:Array Value} {t:TypeId} (h:W.heap[g]?=some (.cells cs t (0,0))) (j:Nat) (v:Value):(W.setCell ⟨g,j,none⟩ v).heap[g]?=some (.cells (cs.setIfInBounds j v) t (0,0)):=by
  simp [World.setCell,Array.getElem?_modify,h]
theorem take_any (w:World) (rb db:Nat) (x l:Row) (h:Rd w rb db (x++l)) (n:Nat) (hn:x.length=n) :
    Calls Tryz.prog 75 #[.pointer (some ⟨rb,0,none⟩),.int .i64 (n:Int)] w fun e w'=>(∃ off c,e=.returned (.slice (some ⟨db,off,none⟩) n c)/\∀ j b,x[j]?=some b->w'.cell? ⟨db,off+j,none⟩=some (.int .u8 ((b:UInt8).toNat:Int)))/\Rd w' rb db l/\Kp [rb] w w':=by
  obtain ⟨⟨off,c,e1,e2,e3,e4⟩,h3,h4⟩:=h
  obtain ⟨n2,hn2⟩:∃ n2,(x++l).length=n2:=⟨_,rfl⟩
  rw [hn2] at e1 e2
  have hn3:n2=n+l.length:=by rw [<-hn2,List.length_append,hn]
  have c0:=Lib.cell_of_heap e1 0
  have f0:w.frozen? ⟨rb,0,none⟩=false:=Lib.frozen_of_heap e1 0
  subst hn3
  have hgt:decide ((n:Int)+(l.length:Int) < (n:Int))=false:=decide_eq_false (by omega)
  have hdc:∀ v,(w.setCell ⟨rb,0,none⟩ v).heap[db]?=w.heap[db]?:=fun v=>Below.heap_setCell _ _ _ db h4
  have hfin:∀ off' c' wz,w.setCell ⟨rb,0,none⟩ (.slice (some ⟨db,off',none⟩) l.length c')=wz->l.length<=c'->c'<=maxLen->(0 < l.length->off'=off+n)->(∀ j b,x[j]?=some b->wz.cell? ⟨db,off+j,none⟩=some (.int .u8 ((b:UInt8).toNat:Int)))/\Rd wz rb db l/\Kp [rb] w wz:=fun off' c' wz hz hc1 hc2 hc3=>by
    have hd:wz.heap[db]?=w.heap[db]?:=by rw [<-hz];exact hdc _
    have hcell:∀ j b,(x++l)[j]?=some b->wz.cell? ⟨db,off+j,none⟩=some (.int .u8 ((b:UInt8).toNat:Int)):=fun j b hj=>by
      have e:wz.cell? ⟨db,off+j,none⟩=w.cell? ⟨db,off+j,none⟩:=by simp [World.cell?,hd]
      rw [e]
      exact e4 j b hj
    have hrb:wz.heap[rb]?=some (.cells #[.slice (some ⟨db,off',none⟩) l.length c',.bool false,.bool false] 99 (0,0)):=by
      rw [<-hz]
      exact set_heap e1 0 _
    have hK:Kp [rb] w wz:=by rw [<-hz];exact (Kp.refl _ _).setCell (.inl (by simp)) _
    refine ⟨fun j b hj=>hcell j b (by rw [List.getElem?_append_left (List.getElem?_eq_some_iff.1 hj).1];exact hj),⟨⟨off',c',hrb,hc1,hc2,fun j b hj=>?_⟩,Nat.lt_of_lt_of_le h3 hK.size,h4⟩,hK⟩
    have:=hcell (n+j) b (by rw [List.getElem?_append_right (by omega),hn,Nat.add_sub_cancel_left];exact hj)
    have hlp:0 < l.length:=by have:=(List.getElem?_eq_some_iff.1 hj).1;omega
    rw [hc3 hlp,Nat.add_assoc]
    exact this
  have hfin':=Lib.hid hfin
  clear hfin hdc e4 e1 hn2
  by_cases hcn:c=n
  · subst hcn
    have hl0:l.length=0:=by omega
    go_enter Tryz.func75,Tryz.ntmps75
    go_wp2
    go_ret
    obtain ⟨r1,r2,r3⟩:=hfin'.out off 0 _ rfl (by omega) (Nat.zero_le _) (fun h=>by omega)
    rw [hl0] at r1 r2 r3
    exact ⟨⟨off,c,rfl,r1⟩,r2,r3⟩
  · go_enter Tryz.func75,Tryz.ntmps75
    go_wp2
    go_ret
    obtain ⟨r1,r2,r3⟩:=hfin'.out (off+n) (c - n) _ rfl (by omega) (Nat.le_trans (Nat.sub_le _ _) e3) (fun _=>rfl)
    exact ⟨⟨off,c,rfl,r1⟩,r2,r3⟩
theorem u64_wrap (n:Nat) (h:n < 18446744073709551616):IntKind.u64.wrap (n:Int)=(n:Int):=by
  simp [IntKind.wrap,IntKind.bits,IntKind.signed]
  omega
theorem or_byte (z:Nat) (b:UInt8) (h:z*256 < 18446744073709551616):bits BinOp.or IntKind.u64 ((z:Int)*256) (IntKind.u64.wrap (b.toNat:Int))=((z*256+b.toNat:Nat):Int):=by
  have hb:=b.toNat_lt
  have e:((z:Int)*256)=((z*256:Nat):Int):=by omega
  rw [e,u64_wrap _ (by omega),u64_or_nat (z*256) b.toNat (by omega) (by omega),Nat.or_comm]
  have:=Nat.shiftLeft_add_eq_or_of_lt (a:=z) (b:=b.toNat) (i:=8) (by omega)
  rw [Nat.shiftLeft_eq] at this
  rw [Nat.or_comm,<-this]
theorem word_any (w:World) (rb db:Nat) (x l:Row) (h:Rd w rb db (x++l)) (hx:x.length=8) :
    Calls Tryz.prog 50 #[.pointer (some ⟨rb,0,none⟩)] w fun e w'=>e=.returned (.int .u64 (num x:Int))/\Rd w' rb db l/\Kp [rb] w w':=by
  have cT:=take_any w rb db x l h 8 hx
  go_enter Tryz.func50,Tryz.ntmps50
  go_wp2_with fail
  go_at_call 75
  refine cT.mono ?_
  rintro e w1 ⟨⟨off,c,rfl,hb⟩,hR,hK⟩
  have hb':=Lib.hid hb
  have hX:=Lib.hid (And.intro hR hK)
  clear cT h hb hR hK
  go_wp2
  go_loopw [3,9] (fun s3 s9 wr=>wr=w1/\∃ k:Nat,s9=.int .i64 (k:Int)/\k<=8/\s3=.int .u64 (num (x.take k):Int)) (fun _ s9 wr=>8 - (RowKit.intOf s9).toNat)
  case atStart=>exact ⟨rfl,0,rfl,by omega,rfl⟩
  case round =>
    obtain ⟨rfl,k,rfl,hk,rfl⟩:=hrel
    by_cases hlt:k < 8
    · obtain ⟨b,hbk⟩:∃ b,x[k]?=some b:=⟨_,List.getElem?_eq_getElem (by omega)⟩
      have hcb:=hb'.out k b hbk
      obtain ⟨z,hz⟩:∃ z:Nat,num (x.take k)=z:=⟨_,rfl⟩
      have hz256:z*256 < 18446744073709551616:=by
        have h1:=num_lt k (x.take k) (by rw [List.length_take];omega)
        have h2:256 ^ k<=256 ^ 7:=Nat.pow_le_pow_right (by decide) (by omega)
        rw [hz] at h1
        omega
      have hsn:num (x.take (k+1))=z*256+b.toNat:=by
        have e:=(List.getElem?_eq_some_iff.1 hbk)
        rw [List.take_succ_eq_append_getElem e.1,num_snoc,hz,e.2]
      have hor:=Lib.hid (or_byte z b hz256)
      rw [hz]
      go_wp2
      go_roundw
      case rel=>exact ⟨trivial,k+1,by go_num,by omega,by rw [hsn,hor.out]⟩
      case measure=>simp [RowKit.intOf];omega
    · obtain rfl:k=8:=by omega
      have htk:x.take 8=x:=List.take_of_length_le (by omega)
      rw [htk]
      go_wp2
      go_ret
      exact ⟨rfl,hX.out.1,hX.out.2⟩
open Bo (Kp Row ownsRow_heap)
abbrev rp (rb:Nat):Value:=.pointer (some ⟨rb,0,none⟩)
theorem need_any (w:World) (rb db:Nat) (l:Row) (h:Rd w rb db l) :
    Calls Tryz.prog 52 #[rp rb,.bool true] w fun e w'=>e=.returned (.tuple #[])/\Rd w' rb db l/\Kp [rb] w w':=by
  obtain ⟨⟨off,c,e1,e2,e3,e4⟩,h3,h4⟩:=h
  have c2:=Lib.cell_of_heap e1 2
  have f2:w.frozen? ⟨rb,2,none⟩=false:=Lib.frozen_of_heap e1 2
  have hfin:Rd (w.setCell ⟨rb,2,none⟩ (.bool false)) rb db l/\Kp [rb] w (w.setCell ⟨rb,2,none⟩ (.bool false)):=by
    have hd:(w.setCell ⟨rb,2,none⟩ (.bool false)).heap[db]?=w.heap[db]?:=Below.heap_setCell _ _ _ db h4
    have hK:Kp [rb] w (w.setCell ⟨rb,2,none⟩ (.bool false)):=(Kp.refl _ _).setCell (.inl (by simp)) _
    refine ⟨⟨⟨off,c,set_heap e1 2 _,e2,e3,fun j b hj=>?_⟩,Nat.lt_of_lt_of_le h3 hK.size,h4⟩,hK⟩
    have e:(w.setCell ⟨rb,2,none⟩ (.bool false)).cell? ⟨db,off+j,none⟩=w.cell? ⟨db,off+j,none⟩:=by simp [World.cell?,hd]
    rw [e]
    exact e4 j b hj
  have hfin':=Lib.hid hfin
  clear hfin e4 e1
  go_enter Tryz.func52,Tryz.ntmps52
  go_wp2
  go_end0
  exact ⟨rfl,hfin'.out⟩
theorem end_any (w:World) (rb db:Nat) (h:Rd w rb db []) :
    Calls Tryz.prog 33 #[rp rb] w fun e w'=>e=.returned (.int .i64 0)/\w'=w:=by
  obtain ⟨⟨off,c,e1,e2,e3,e4⟩,h3,h4⟩:=h
  have c0:=Lib.cell_of_heap e1 0
  have c1:=Lib.cell_of_heap e1 1
  have c2:=Lib.cell_of_heap e1 2
  go_enter Tryz.func33,Tryz.ntmps33
  go_wp2
  go_ret
  exact ⟨rfl,rfl⟩
theorem count_any (w:World) (rb db:Nat) (n:Nat) (l:Row) (h:Rd w rb db (word n++l)) (hn:n<=l.length) (hl:l.length<=140737488355328) :
    Calls Tryz.prog 51 #[rp rb] w fun e w'=>e=.returned (.int .i64 (n:Int))/\Rd w' rb db l/\Kp [rb] w w':=by
  have cW:=word_any w rb db (word n) l h (word_len n)
  rw [num_word n (by omega)] at cW
  go_enter Tryz.func51,Tryz.ntmps51
  go_wp2_with fail
  go_at_call 50
  refine cW.mono ?_
  rintro e w1 ⟨rfl,hR,hK⟩
  have hX:=Lib.hid (And.intro hR hK)
  obtain ⟨⟨off,c,e1,e2,e3,e4⟩,h3,h4⟩:=hR
  have c0:=Lib.cell_of_heap e1 0
  have hgt:decide ((l.length:Int) < (n:Int))=false:=decide_eq_false (by omega)
  clear e4 e1 hK cW h
  go_wp2
  go_ret
  exact ⟨rfl,hX.out⟩
theorem readNumber_any (w:World) (rb db:Nat) (n:Nat) (lo hi:Int) (l:Row) (h:Rd w rb db (word n++l)) (hn:n<=4611686018427387904) (h1:lo<=n) (h2:(n:Int)<=hi) :
    Calls Tryz.prog 29 #[rp rb,.int .i64 lo,.int .i64 hi] w fun e w'=>e=.returned (.int .i64 (n:Int))/\Rd w' rb db l/\Kp [rb] w w':=by
  have cW:=word_any w rb db (word n) l h (word_len n)
  rw [num_word n (by omega)] at cW
  go_enter Tryz.func29,Tryz.ntmps29
  go_wp2_with fail
  go_at_call 50
  refine cW.mono ?_
  rintro e w1 ⟨rfl,hR,hK⟩
  have hX:=Lib.hid (And.intro hR hK)
  have hg1:decide ((9223372036854775807:Int) < (n:Int))=false:=decide_eq_false (by omega)
  have hg2:decide ((n:Int) < lo)=false:=decide_eq_false (by omega)
  have hg3:decide (hi < (n:Int))=false:=decide_eq_false (by omega)
  clear hR hK cW h
  go_wp2
  go_ret
  exact ⟨rfl,hX.out⟩
theorem readText_any (w:World) (rb db:Nat) (t l:Row) (h:Rd w rb db (text t++l)) (hl:t.length+l.length<=140737488355328) :
    Calls Tryz.prog 77 #[rp rb] w fun e w'=>e=.returned (.string ⟨t.toArray⟩)/\Rd w' rb db l/\Kp [rb] w w':=by
  unfold text at h
  rw [List.append_assoc] at h
  have cC:=count_any w rb db t.length (t++l) h (by rw [List.length_append];omega) (by rw [List.length_append];omega)
  go_enter Tryz.func77,Tryz.ntmps77
  go_wp2_with fail
  go_at_call 51
  refine cC.mono ?_
  rintro e w1 ⟨rfl,hR,hK⟩
  have cT:=take_any w1 rb db t l hR t.length rfl
  have hK':=Lib.hid hK
  clear hR hK cC h
  go_wp2_with fail
  go_at_call 75
  refine cT.mono ?_
  rintro e w2 ⟨⟨off,c,rfl,hb⟩,hR,hK⟩
  have hcv:(convert 56 9 (.slice (some ⟨db,off,none⟩) t.length c)).run Tryz.prog w2=.ok (.string ⟨t.toArray⟩) w2:=by
    refine run_convert_bytes_back w2 56 9 5 ⟨db,off,none⟩ c t Tryz.underlying56 Tryz.underlying5 Tryz.underlying9 fun j hj=>?_
    have hp:(⟨db,off,none⟩:Addr).add j=⟨db,off+j,none⟩:=by unfold Addr.add;split<;>simp_all
    rw [hp,hb j _ (List.getElem?_eq_getElem hj)]
  have hX:=Lib.hid (And.intro hR (hK'.out.trans hK))
  clear hb hR hK cT
  go_wp2
  go_ret
  exact ⟨rfl,hX.out⟩
theorem readFlag_any (w:World) (rb db:Nat) (b:Bool) (l:Row) (h:Rd w rb db (flag b++l)) :
    Calls Tryz.prog 78 #[rp rb] w fun e w'=>e=.returned (.bool b)/\Rd w' rb db l/\Kp [rb] w w':=by
  have cT:=take_any w rb db (flag b) l h 1 rfl
  cases b
  all_goals
    go_enter Tryz.func78,Tryz.ntmps78
    go_wp2_with fail
    go_at_call 75
    refine cT.mono ?_
    rintro e w1 ⟨⟨off,c,rfl,hb⟩,hR,hK⟩
    have hb0:=hb 0 _ rfl
    rw [Nat.add_zero] at hb0
    simp only [reduceIte,Bool.false_eq_true] at hb0
    have hc:=hb0
    have cN:=need_any w1 rb db l hR
    have hK':=Lib.hid hK
    have hdb:db≠rb:=hR.ne
    have hdl:db < w1.heap.size:=hR.lt
    clear hb hR hK cT h
    have heq:(binOp .eql 56 (.slice (some ⟨db,off,none⟩) 1 c) (.slice none 0 0)).run Tryz.prog w1=.ok (.bool false) w1:=by kernel_rfl
    go_wp2_with fail
    go_at_call 52
    refine cN.mono ?_
    rintro e w2 ⟨rfl,hR2,hK2⟩
    have hc2:w2.cell? ⟨db,off,none⟩=w1.cell? ⟨db,off,none⟩:=by simp [World.cell?,hK2.block db hdl (by simpa using hdb)]
    rw [hc] at hc2
    have hX:=Lib.hid (And.intro hR2 (hK'.out.trans hK2))
    clear hR2 hK2 cN
    go_wp2
    go_ret
    exact ⟨rfl,hX.out⟩
theorem of_any (w:World) (db off c:Nat) (l:Row) (h1:l.length<=c) (h2:c<=maxLen) (h3:db < w.heap.size) (h4:∀ j x,l[j]?=some x->w.cell? ⟨db,off+j,none⟩=some (.int .u8 ((x:UInt8).toNat:Int))) :
    Calls Tryz.prog 28 #[.slice (some ⟨db,off,none⟩) l.length c] w fun e w'=>e=.returned (rp w.heap.size)/\Rd w' w.heap.size db l/\Below w.heap.size w w':=by
  have hfin:∀ wz,w.alloc (.cells #[.slice (some ⟨db,off,none⟩) l.length c,.bool false,.bool false] 99)=wz->Rd wz w.heap.size db l/\Below w.heap.size w wz:=fun wz hz=>by
    have hb:Below w.heap.size w wz:=by rw [<-hz];exact (Below.refl _ _).alloc (Nat.le_refl _) _
    refine ⟨⟨⟨off,c,by rw [<-hz];exact heap_alloc_new w _,h1,h2,fun j x hj=>?_⟩,Nat.lt_of_lt_of_le h3 hb.size,by omega⟩,hb⟩
    have e:wz.cell? ⟨db,off+j,none⟩=w.cell? ⟨db,off+j,none⟩:=by simp [World.cell?,hb.block db h3]
    rw [e]
    exact h4 j x hj
  have hfin':=Lib.hid hfin
  clear hfin h4
  go_enter Tryz.func28,Tryz.ntmps28
  go_wp2
  go_ret
  exact ⟨rfl,hfin'.out _ rfl⟩
end Ly
namespace Bo
open Go.Lib Go.RowKit
open Ly (Wr BOwn word text flag)
def cardF (l:Leaf):Row:=word l.tag++text l.text
def noteF (n:Note):Row:=word n.chg++text n.name++flag n.was
def bookF (b:Bk):Row:=word b.made++word b.hor++(word b.cards.length++b.cards.flatMap fun l=>text l.name++cardF l)++word b.notes.length++b.notes.flatMap noteF
def shelfF (s:Sh):Row:=word s.chg++(word s.books.length++s.books.flatMap fun b=>text b.name++bookF b)
theorem below_then2 {B:Nat} {A w w':World} (hA:Below B A w) (hb:Below w.heap.size w w') (hB:B<=w.heap.size):Below B A w':=hA.trans (hb.mono hB)
theorem putCard_any (w:World) (B:Nat) (v:Value) (l:Row) (tg:Nat) (tx:ByteArray) (h:BOwn B v l w) (hl:l.length+16+tx.size<=140737488355328) (hB:B<=w.heap.size) (ht:tg<=4611686018427387904) :
    Calls Tryz.prog 60 #[v,.agg #[.int .i64 (tg:Int),.string tx]] w fun e w'=>∃ v',e=.returned v'/\Wr B w w' v v' (l++(word tg++text tx.data.toList)):=by
  obtain ⟨wX,hwX⟩:∃ wX,w.alloc (.cells #[.int .i64 (tg:Int),.string tx] 105)=wX:=⟨_,rfl⟩
  have hbX:Below w.heap.size w wX:=by rw [<-hwX];exact (Below.refl _ _).alloc (Nat.le_refl _) _
  have hXc:wX.heap[w.heap.size]?=some (.cells #[.int .i64 (tg:Int),.string tx] 105 (0,0)):=by rw [<-hwX];exact heap_alloc_new w _
  have hXl:w.heap.size < wX.heap.size:=by rw [<-hwX];simp
  have hX:=h.kept hbX
  have hnot:w.heap.size∉v.ownBlock.toList:=fun hm=>by have:=(World.ownsRow.lt h w.heap.size (by simpa using hm)).2;omega
  have hSS:Hid (∀ W,Kp v.ownBlock.toList wX W->Kp v.ownBlock.toList wX W/\W.cell? ⟨w.heap.size,0,none⟩=some (.int .i64 (tg:Int))/\W.cell? ⟨w.heap.size,1,none⟩=some (.string tx)):=Lib.hid fun W hW=>by
    have e:=(hW.block _ hXl hnot).trans hXc
    exact ⟨hW,Lib.cell_of_heap e 0,Lib.cell_of_heap e 1⟩
  have cN:∀ W,Below wX.heap.size wX W->Calls Tryz.prog 35 #[v,.int .i64 (tg:Int)] W fun e w'=>∃ v1,e=.returned v1/\Wr B wX w' v v1 (l++word tg)/\Kp v.ownBlock.toList wX w':=fun W hW=>by
    refine (Ly.number_any W B _ l tg (hX.kept hW) (by omega) (Nat.le_trans hB (Nat.le_trans hbX.size hW.size)) ht).mono ?_
    rintro e w' ⟨v',rfl,hw⟩
    have:=Wr.after hW hw
    exact ⟨v',rfl,this,this.kp⟩
  have cT:∀ W v1,Wr B wX W v v1 (l++word tg)->Calls Tryz.prog 58 #[v1,.string tx] W fun e w'=>∃ v',e=.returned v'/\Wr B w w' v v' (l++(word tg++text tx.data.toList))/\Kp v.ownBlock.toList wX w':=fun W v1 hW=>by
    refine (Ly.text_any W B v1 (l++word tg) tx hW.own (by rw [List.length_append,Ly.word_len];omega) (Nat.le_trans hB (Nat.le_trans hbX.size hW.kp.size))).mono ?_
    rintro e w' ⟨v',rfl,hw⟩
    have:=Wr.after hbX (hW.then hw)
    rw [List.append_assoc] at this
    exact ⟨v',rfl,this,(hW.then hw).kp⟩
  obtain ⟨x1,hx1⟩:∃ x1,l++word tg=x1:=⟨_,rfl⟩
  obtain ⟨x2,hx2⟩:∃ x2,l++(word tg++text tx.data.toList)=x2:=⟨_,rfl⟩
  rw [hx1] at cN
  rw [hx1,hx2] at cT
  rw [hx2]
  clear hx1 hx2 hX hXc h hl hnot
  go_enter Tryz.func60,Tryz.ntmps60
  go_wp2_with fail
  go_region_held3 (fun W=>Kp v.ownBlock.toList wX W/\W.cell? ⟨w.heap.size,0,none⟩=some (.int .i64 (tg:Int))/\W.cell? ⟨w.heap.size,1,none⟩=some (.string tx))
    (refine hSS.out _ ?_<;>first | assumption | exact Kp.of_below (Below.drew (Below.refl _ _)) | exact Kp.refl _ _)
    (first
      | (go_at_call 35;refine (cN _ (Below.drew (Below.refl _ _))).mono ?_;rintro e wN ⟨v1,rfl,hN,hNk⟩)
      | (go_at_call 58;refine (cT _ _ hN).mono ?_;rintro e wT ⟨v2,rfl,hT,hTk⟩))
  all_goals
    have hT':=Lib.hid hT
    clear hT hTk hN hNk cN cT
    go_wp2
    go_ret
    exact ⟨_,rfl,hT'.out⟩
end Bo
end Go.Proofs.YtobfaibofhmpgaaGreatDoor
