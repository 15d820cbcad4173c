import Derived.Test.YtobfaibofhmpgaaGreatDoorAp3
import Derived.Test.YtobfaibofhmpgaaGreatDoorAp4
import Derived.Test.YtobfaibofhmpgaaGreatDoorAp9
import Derived.Deep.RegionHeld3
import Derived.Deep.CutRange
import Derived.Deep.AppendLies
set_option linter.unusedVariables false
set_option maxHeartbeats 16000000
set_option maxRecDepth 100000
namespace Go.Proofs.YtobfaibofhmpgaaGreatDoor
namespace Li
open Go.Lib Go.RowKit Bu
theorem wpList_append_strs {w:World} {ops:Array Oper} {rest:List Oper} {o:Oper} {a:Act} {Q:Exit->Act->World->Prop} (hgd:o.guard=none) (s x:Operand)
    (ho:o.op=.call { callee:=.builtin .append,args:=#[s,x],argTypes:=#[32,32] }) (base:Nat) (v xv:Value) (ls:List Row) (hs:a.eval s=v) (hx:a.eval x=xv)
    (hown:w.ownsRow base 9 1 v 0 []) (hS:StrsAt w xv ls) (hls:ls.length<=8796093022208) (hbase:base<=w.heap.size)
    (h:∀ v' w',Own base v' ls w'->w.grownBy w' v.ownBlock->wpList Tryz.prog ops Q rest (a.put o.dst v') w'):wpList Tryz.prog ops Q (o :: rest) a w:=by
  obtain ⟨i0,hi,hz0,hz1,hz2⟩:=info_parts infoStr
  obtain ⟨A,b,off,c,rfl,h1,h2,h3,h4⟩:=hS
  cases A with
  | none =>
    have hl:ls=[]:=by
      cases ls with
      | nil=>rfl
      | cons y t =>
        obtain ⟨h5,_⟩:=h3 (by simp)
        cases h5
    subst hl
    refine wpList_plain hgd fun K hK=>?_
    have hrun:(Builtin.append_ #[32,32] o.type #[v,.slice none 0 c]).run Tryz.prog w=.ok v w:=by
      rcases hown.2 with ⟨rfl,_⟩ | ⟨g,cap,cur,rfl,_,_,hnc,_⟩
      · simp [Builtin.append_,run_underlying Tryz.underlying32,sizeOf,typeInfo,hi,Builtin.lenOf,Builtin.firstCells]
      · simp [Builtin.append_,run_underlying Tryz.underlying32,sizeOf,typeInfo,hi,Builtin.lenOf,Builtin.firstCells,storeCells]
    have hk:=hK _ _ (h v w hown (World.grownBy.refl w _))
    unfold Oper.wp execOp
    simp only [ho,resolve,invoke,builtin,Sem.run_bind,Sem.run_pure,Result.andThen_ok,List.map_toArray,List.map_cons,List.map_nil,hs,hx]
    rw [show (List.length ([]:List Row))=0 from rfl,hrun]
    exact hk
  | some ad =>
    refine wpList_append_own _ hgd s x 32 ho base 9 i0 (.string ⟨#[]⟩) 1 16 Tryz.underlying32 hi hz0 hz1 hz2 rfl (by decide) v 0 [] hs hown ad ls.length c (ls.map sv) hx (by simp) (fun j u hj=>?_) (fun u hu=>?_) (by unfold maxLen;omega) (by omega) hbase (fun v' w' h5 h6 _=>h v' w' ?_ h6)
    · rw [List.getElem?_map] at hj
      obtain ⟨l,hl,rfl⟩:=Option.map_eq_some_iff.1 hj
      have hlt:=(List.getElem?_eq_some_iff.1 hl).1
      obtain ⟨he,_⟩:=h3 (by omega)
      obtain rfl:=Option.some.inj he
      have:=h4 j l hl
      unfold Addr.add
      by_cases hj0:j=0
      · subst hj0;simpa using this
      · rw [if_neg hj0];exact this
    · obtain ⟨l,_,rfl⟩:=List.mem_map.1 hu
      rfl
    · unfold Own
      rw [Nat.zero_add,List.nil_append] at h5
      exact h5
theorem asc3:An.Asc ⟨#[44,59,58]⟩:=fun j b hb=>by
  have:b∈([44,59,58]:List UInt8):=List.mem_iff_getElem?.2 ⟨j,hb⟩
  simp only [List.mem_cons,List.not_mem_nil,or_false] at this
  rcases this with rfl | rfl | rfl<;>decide
theorem sgn_is (l:Row):Lib.containsAny l [44,59,58]=sgn l:=by
  rw [An.contains_any]
  unfold sgn
  congr 1
  funext b
  rw [Bool.eq_iff_iff]
  unfold sgB
  simp [or_assoc]
theorem v10 (x:UInt8) (h:x≠10):((x.toNat:Int)==10)=false:=Ch.byte_all (P:=fun x=>x≠10->((x.toNat:Int)==10)=false) (by decide +kernel) x h
theorem w10 (x:UInt8) (h:x=10):((x.toNat:Int)==10)=true:=by subst h;rfl
theorem v94 (x:UInt8) (h:x≠94):((x.toNat:Int)==94)=false:=Ch.byte_all (P:=fun x=>x≠94->((x.toNat:Int)==94)=false) (by decide +kernel) x h
theorem w94 (x:UInt8) (h:x=94):((x.toNat:Int)==94)=true:=by subst h;rfl
theorem v34 (x:UInt8) (h:x≠34):((x.toNat:Int)==34)=false:=Ch.byte_all (P:=fun x=>x≠34->((x.toNat:Int)==34)=false) (by decide +kernel) x h
theorem w34 (x:UInt8) (h:x=34):((x.toNat:Int)==34)=true:=by subst h;rfl
theorem esc_take (l:Row) (k:Nat) (x:UInt8) (h:l[k]?=some x):esc (l.take (k+1))=esc (l.take k)++esc1 x:=by
  obtain ⟨hl,hv⟩:=List.getElem?_eq_some_iff.1 h
  rw [List.take_succ_eq_append_getElem hl,esc_append,hv]
  simp [esc]
theorem esc_take_len (l:Row) (k:Nat):(esc (l.take k)).length<=(esc l).length:=by
  conv=>rhs;rw [<-List.take_append_drop k l,esc_append,List.length_append]
  omega
theorem writeValue_q (q:ByteArray) (Q:Bool) (B b:Nat) (l:Row) (v:ByteArray) (w:World) (hq:q=if Q=true then ⟨#[34]⟩ else ⟨#[]⟩) (hQ:sgn v.data.toList=Q) (h:Bd B b l w) (hlen:l.length+(wval v.data.toList).length<=140737488355328) (hBw:B<=w.heap.size) (hs:v.size<=9223372036854775807) :
    Calls Tryz.prog 228 #[.pointer (some ⟨b,0,none⟩),.string v] w fun e w'=>e=.returned (.tuple #[])/\Bd B b (l++wval v.data.toList) w'/\Below B w w'/\KeptT w w':=by
  have hw:wval v.data.toList=q.data.toList++(esc v.data.toList++q.data.toList):=by
    rw [hq];unfold wval;rw [hQ]
    cases Q<;>simp
  have hwl:=congrArg List.length hw
  rw [List.length_append,List.length_append] at hwl
  have hqs:q.size=q.data.toList.length:=Lib.size_eq q
  have hqsm:q.size<=1:=by rw [hq];cases Q<;>decide
  have cA:=fun W=>An.containsAny_all v ⟨#[44,59,58]⟩ asc3 (by decide) (by decide) W hs
  rw [show (⟨#[44,59,58]⟩:ByteArray).data.toList=[44,59,58] from rfl,sgn_is,hQ] at cA
  obtain ⟨L1,hL1⟩:∃ L1,l++q.data.toList=L1:=⟨_,rfl⟩
  have hl0:L1.length=l.length+q.data.toList.length:=by rw [<-hL1,List.length_append]
  have hl1:l.length+q.size<=140737488355328:=by omega
  have hl2:L1.length+(esc v.data.toList).length+q.size<=140737488355328:=by omega
  have hfin:∀ W,Bd B b (L1++esc v.data.toList++q.data.toList) W->Bd B b (l++wval v.data.toList) W:=fun W hW=>by
    rw [hw,<-List.append_assoc,hL1,<-List.append_assoc];exact hW
  clear hw hwl hqs hlen hQ hl0
  have key:∀ W,Below w.heap.size w W->Calls Tryz.prog 156 #[.pointer (some ⟨b,0,none⟩),.string q] W fun e w'=>e=.returned (.tuple #[.int .i64 q.size,.nilIface])/\Bd B b L1 w'/\Below B W w'/\KeptT W w':=fun W hW=>by
    have:=write_full B b l q W (h.kept hW) hl1 (by have:=hW.size;omega)
    rwa [hL1] at this
  have key2:∀ W,Bd B b (L1++esc v.data.toList) W->B<=W.heap.size->Calls Tryz.prog 156 #[.pointer (some ⟨b,0,none⟩),.string q] W fun e w'=>e=.returned (.tuple #[.int .i64 q.size,.nilIface])/\Bd B b (L1++esc v.data.toList++q.data.toList) w'/\Below B W w'/\KeptT W w':=fun W hW hB=>by
    exact write_full B b _ q W hW (by rw [List.length_append];omega) hB
  have hstep:∀ (k:Nat) (x:UInt8) (a:Row),v.data.toList[k]?=some x->esc1 x=a->(L1++esc (v.data.toList.take k))++a=L1++esc (v.data.toList.take (k+1))/\(L1++esc (v.data.toList.take k)).length+a.length<=140737488355328:=fun k x a hx ha=>by
    have h1:=esc_take _ _ _ hx
    rw [ha] at h1
    have h2:=esc_take_len v.data.toList (k+1)
    rw [h1,List.length_append] at h2
    refine ⟨by rw [h1,List.append_assoc],?_⟩
    rw [List.length_append];omega
  have hstep':=Lib.hid hstep
  have hfin':=Lib.hid hfin
  have key2':=Lib.hid key2
  clear hL1 hstep hfin key2
  cases Q
  all_goals
    subst hq
    simp only [Bool.false_eq_true,if_false,if_true] at *
    clear h
    go_enter Tryz.func228,Tryz.ntmps228
    go_wp2_with (go_at_call 188;refine (cA _).mono ?_;rintro e w1 ⟨rfl,hb1⟩)
    go_at_call 156
    refine (key _ hb1).mono ?_
    rintro e w2 ⟨rfl,hbd2,hb2,ht2⟩
    have hB2:Below B w w2:=(hb1.mono hBw).trans hb2
    have hT2:KeptT w w2:=(KeptT.of_below hb1).trans ht2
    clear hb1 hb2 ht2 key cA
    go_wp2
    go_loopw [5] (fun s5 wr=>∃ k:Nat,s5=.int .i64 (k:Int)/\k<=v.size/\Bd B b (L1++esc (v.data.toList.take k)) wr/\Below B w wr/\KeptT w wr) (fun s5 wr=>v.size - (RowKit.intOf s5).toNat)
    case atStart=>exact ⟨0,rfl,Nat.zero_le _,by simpa [esc] using hbd2,hB2,hT2⟩
    case round =>
      obtain ⟨k,rfl,hk,hbd,hbw,hkt⟩:=hrel
      have hBr:B<=wr.heap.size:=Nat.le_trans hBw hbw.size
      have hkt':=Lib.hid hkt
      clear hkt
      by_cases hlt:k < v.size
      · have hg:=Lib.data_getElem? v k hlt
        by_cases c1:v[k]'hlt=10
        · obtain ⟨e1,e2⟩:=hstep'.out k _ [94,110] hg (by rw [c1];rfl)
          have cW:=write_full B b _ ⟨#[94,110]⟩ wr hbd e2 hBr
          rw [show (⟨#[94,110]⟩:ByteArray).data.toList=[94,110] from rfl,e1] at cW
          have d1:=w10 _ c1
          clear c1 hg e1 e2
          go_wp2_with (go_at_call 156;refine cW.mono ?_;rintro e w3 ⟨rfl,hbd3,hb3,ht3⟩)
          go_roundw
          case rel=>exact ⟨k+1,by go_num,by omega,hbd3,hbw.trans hb3,hkt'.out.trans ht3⟩
          case measure=>simp [RowKit.intOf];omega
        · have d1:=v10 _ c1
          by_cases c2:v[k]'hlt=94
          · obtain ⟨e1,e2⟩:=hstep'.out k _ [94,94] hg (by rw [c2];rfl)
            have cW:=write_full B b _ ⟨#[94,94]⟩ wr hbd e2 hBr
            rw [show (⟨#[94,94]⟩:ByteArray).data.toList=[94,94] from rfl,e1] at cW
            have d2:=w94 _ c2
            clear c1 c2 hg e1 e2
            go_wp2_with (go_at_call 156;refine cW.mono ?_;rintro e w3 ⟨rfl,hbd3,hb3,ht3⟩)
            go_roundw
            case rel=>exact ⟨k+1,by go_num,by omega,hbd3,hbw.trans hb3,hkt'.out.trans ht3⟩
            case measure=>simp [RowKit.intOf];omega
          · have d2:=v94 _ c2
            by_cases c3:v[k]'hlt=34
            · obtain ⟨e1,e2⟩:=hstep'.out k _ [94,39] hg (by rw [c3];rfl)
              have cW:=write_full B b _ ⟨#[94,39]⟩ wr hbd e2 hBr
              rw [show (⟨#[94,39]⟩:ByteArray).data.toList=[94,39] from rfl,e1] at cW
              have d3:=w34 _ c3
              clear c1 c2 c3 hg e1 e2
              go_wp2_with (go_at_call 156;refine cW.mono ?_;rintro e w3 ⟨rfl,hbd3,hb3,ht3⟩)
              go_roundw
              case rel=>exact ⟨k+1,by go_num,by omega,hbd3,hbw.trans hb3,hkt'.out.trans ht3⟩
              case measure=>simp [RowKit.intOf];omega
            · have d3:=v34 _ c3
              obtain ⟨e1,e2⟩:=hstep'.out k _ [v[k]'hlt] hg (by unfold esc1;rw [if_neg c1,if_neg c2,if_neg c3])
              have cW:=byte_full B b _ (v[k]'hlt) wr hbd e2 hBr
              rw [e1] at cW
              clear c1 c2 c3 hg e1 e2
              go_wp2_with (go_at_call 81;refine cW.mono ?_;rintro e w3 ⟨rfl,hbd3,hb3,ht3⟩)
              go_roundw
              case rel=>exact ⟨k+1,by go_num,by omega,hbd3,hbw.trans hb3,hkt'.out.trans ht3⟩
              case measure=>simp [RowKit.intOf];omega
      · rw [List.take_of_length_le (by rw [<-Lib.size_eq];omega)] at hbd
        have cW:=key2'.out wr hbd hBr
        go_wp2_with (go_at_call 156;refine cW.mono ?_;rintro e w3 ⟨rfl,hbd3,hb3,ht3⟩)
        go_end0
        exact ⟨rfl,hfin'.out _ hbd3,hbw.trans hb3,hkt'.out.trans ht3⟩
theorem writeValue_any (B b:Nat) (l:Row) (v:ByteArray) (w:World) (h:Bd B b l w) (hlen:l.length+(wval v.data.toList).length<=140737488355328) (hBw:B<=w.heap.size) (hs:v.size<=9223372036854775807) :
    Calls Tryz.prog 228 #[.pointer (some ⟨b,0,none⟩),.string v] w fun e w'=>e=.returned (.tuple #[])/\Bd B b (l++wval v.data.toList) w'/\Below B w w'/\KeptT w w' :=
  writeValue_q _ _ B b l v w rfl rfl h hlen hBw hs
end Li
namespace Li
open Go.Lib
def Out (g n:Row) (acc:List PD) (x:Nat) (c:UInt8) (t:Row):LR:=if x=0 then fin g n acc (c :: t) else .bad x
end Li
namespace Li
open Go.Lib Go.RowKit Bu
theorem blk_grown {w w':World} {i:Nat} {o:Obj} {row:Option Nat} (h:w.heap[i]?=some o) (hg:w.grownBy w' row) (hne:∀ g,row=some g->i≠g):w'.heap[i]?=some o:=by
  rw [hg.block i (Array.getElem?_eq_some_iff.1 h).1 (fun e=>hne i e.symm rfl)];exact h
theorem blk_alloc {w:World} {i:Nat} {o:Obj} (h:w.heap[i]?=some o) (o':Obj):(w.alloc o').heap[i]?=some o:=by
  rw [Below.heap_alloc w o' i (Array.getElem?_eq_some_iff.1 h).1];exact h
theorem blk_store {w:World} {i:Nat} {o:Obj} (h:w.heap[i]?=some o) {p:Addr} (hp:i≠p.block) (u:Value):(w.setCell p u).heap[i]?=some o:=by
  rw [Below.heap_setCell w p u i hp];exact h
theorem res2 {W:World} {b:Nat} {x0 x1:Value} {t:TypeId} (hk:W.heap[b]?=some (.cells #[x0,x1] t (0,0))) :
    W.cell? ⟨b,0,none⟩=some x0/\W.cell? ⟨b,1,none⟩=some x1/\W.frozen? ⟨b,0,none⟩=false/\W.frozen? ⟨b,1,none⟩=false:=by
  refine ⟨?_,?_,Lib.frozen_of_heap hk 0,Lib.frozen_of_heap hk 1⟩
  all_goals rw [Lib.cell_of_heap hk];rfl
end Li
namespace Li
open Go.Lib Go.RowKit
theorem sv_some (l:Row):∃ x:ByteArray,sv l=.string x/\x.data.toList=l:=⟨⟨l.toArray⟩,rfl,by simp⟩
end Li
namespace Li
open Go.Lib Go.RowKit Bu
def canP (p:PD):PD:=⟨Ch.up p.name,p.vals⟩
def canL (L:LD):LD:=⟨Ch.up L.group,Ch.up L.name,L.params.map canP,L.value⟩
theorem keep_call {B b:Nat} {a W w':World} (h:Below b W w') (k:Below B a W) (hb:B<=b):Below B a w':=k.trans (h.mono hb)
theorem alloc_kept {W w':World} {o:Obj} (h:Below (W.alloc o).heap.size (W.alloc o) w'):w'.heap[W.heap.size]?=some o:=(h.block _ (by simp)).trans (heap_alloc_new W o)
theorem alloc_kept_drew {W w':World} {o:Obj} (h:Below (W.alloc o).drew.heap.size (W.alloc o).drew w'):w'.heap[W.heap.size]?=some o:=(h.block _ (by show W.heap.size < (W.alloc o).heap.size;simp)).trans (heap_alloc_new W o)
theorem blk_below {w w':World} {i:Nat} {o:Obj} (hb:Below w.heap.size w w') (h:w.heap[i]?=some o):w'.heap[i]?=some o:=(hb.block i (Array.getElem?_eq_some_iff.1 h).1).trans h
theorem set4_blk {W:World} {g:Nat} {y0 y1 y2 y3:Value} {t:TypeId} (hk:W.heap[g]?=some (.cells #[y0,y1,y2,y3] t (0,0))) (x0 x1 x2 x3:Value) :
    ((((W.setCell ⟨g,0,none⟩ x0).setCell ⟨g,1,none⟩ x1).setCell ⟨g,2,none⟩ x2).setCell ⟨g,3,none⟩ x3).heap[g]?=some (.cells #[x0,x1,x2,x3] t (0,0)):=by
  simp [World.setCell,Array.getElem?_modify,hk]
theorem below_drew_then {w w':World} (h:Below w.drew.heap.size w.drew w'):Below w.heap.size w w':=(Below.drew (Below.refl _ _)).trans h
theorem set4_2 {W:World} {g:Nat} {y0 y1 y2 y3:Value} {t:TypeId} (hk:W.heap[g]?=some (.cells #[y0,y1,y2,y3] t (0,0))) (x2:Value) :
    (W.setCell ⟨g,2,none⟩ x2).heap[g]?=some (.cells #[y0,y1,x2,y3] t (0,0)):=by
  simp [World.setCell,Array.getElem?_modify,hk]
theorem keep_again {B:Nat} {a W:World} {o:Obj} (k:Below B a (W.alloc o)) (hB:B<=W.heap.size) (ha:a.heap.size<=W.heap.size) (o':Obj):Below B a (W.alloc o') :=
  ⟨k.os,k.tape,k.output,by simp;omega,fun i hi=>by rw [Below.heap_alloc W o' i (by omega),<-Below.heap_alloc W o i (by omega)];exact k.block i hi⟩
theorem keep_set4 {B:Nat} {a W:World} {g:Nat} (k:Below B a W) (hg:B<=g) (x0 x1 x2 x3:Value):Below B a ((((W.setCell ⟨g,0,none⟩ x0).setCell ⟨g,1,none⟩ x1).setCell ⟨g,2,none⟩ x2).setCell ⟨g,3,none⟩ x3) :=
  (((k.setCell (p:=⟨g,0,none⟩) hg _).setCell (p:=⟨g,1,none⟩) hg _).setCell (p:=⟨g,2,none⟩) hg _).setCell (p:=⟨g,3,none⟩) hg _
theorem keep_alloc {B:Nat} {a W:World} (k:Below B a W) (ha:B<=a.heap.size) (o:Obj):Below B a (W.alloc o):=k.alloc (Nat.le_trans ha k.size) o
theorem canon_any (v:Value) (L:LD) (w:World) (hv:LineAt w v L) (hg:L.group.length<=4611686018427387904) (hm:L.name.length<=4611686018427387904) (hnm:∀ p∈L.params,p.name.length<=4611686018427387904) (hn0:L.params.length<=1099511627776) (hvs:∀ p∈L.params,p.vals.length<=8796093022208) :
    Calls Tryz.prog 166 #[v] w fun e w'=>(∃ u,e=.returned u/\LOwn w.heap.size u (canL L) w')/\Below w.heap.size w w':=by
  obtain ⟨j0,hj,hjz0,hjz1,hjz2⟩:=info_parts infoPrm
  obtain ⟨pv,rfl,A,b,o,c,rfl,h1,h2,h3,h4⟩:=hv
  obtain ⟨n,hn⟩:∃ n,L.params.length=n:=⟨_,rfl⟩
  rw [hn] at h1 h3 hn0 ⊢
  obtain ⟨a1,ea1,ha1⟩:=sv_some L.group
  obtain ⟨a2,ea2,ha2⟩:=sv_some L.name
  obtain ⟨a4,ea4,ha4⟩:=sv_some L.value
  rw [ea1,ea2,ea4]
  have hs1:a1.size<=4611686018427387904:=by rw [Lib.size_eq,ha1];exact hg
  have hs2:a2.size<=4611686018427387904:=by rw [Lib.size_eq,ha2];exact hm
  obtain ⟨g1,hg1⟩:∃ g1:ByteArray,(⟨(Ch.up a1.data.toList).toArray⟩:ByteArray)=g1:=⟨_,rfl⟩
  obtain ⟨g2,hg2⟩:∃ g2:ByteArray,(⟨(Ch.up a2.data.toList).toArray⟩:ByteArray)=g2:=⟨_,rfl⟩
  have cU1:=fun W=>Ch.upper_any a1 W (by omega)
  have cU2:=fun W=>Ch.upper_any a2 W (by omega)
  rw [hg1] at cU1
  rw [hg2] at cU2
  have hd1:g1.data.toList=Ch.up L.group:=by rw [<-hg1,ha1]
  have hd2:g2.data.toList=Ch.up L.name:=by rw [<-hg2,ha2]
  have hd1':=Lib.hid hd1
  have hd2':=Lib.hid hd2
  have hn':=Lib.hid hn
  have h3':=Lib.hid h3
  have h4':=Lib.hid h4
  have hvs':=Lib.hid hvs
  have hnm':=Lib.hid hnm
  have ha4':=Lib.hid ha4
  unfold maxLen at h2
  clear ea1 ea2 ea4 ha1 ha2 ha4 hn h3 h4 hvs hnm hg1 hg2 hd1 hd2 hg hm
  go_enter Tryz.func166,Tryz.ntmps166
  go_upto_region 1 with fail
  obtain ⟨wB,hwB⟩:∃ wB,(w.alloc (.cells #[.string a1,.string a2,.slice A n c,.string a4] 203)).alloc (.cells #[.string ⟨#[]⟩,.string ⟨#[]⟩,.slice none 0 0,.string ⟨#[]⟩] 203)=wB:=⟨_,rfl⟩
  have hbB:Below w.heap.size w wB:=by rw [<-hwB];exact ((Below.refl _ _).alloc (Nat.le_refl _) _).alloc (by simp) _
  have hxB:wB.heap[w.heap.size]?=some (.cells #[.string a1,.string a2,.slice A n c,.string a4] 203 (0,0)):=by rw [<-hwB];exact blk_alloc (heap_alloc_new w _) _
  have hyB:wB.heap[w.heap.size+1]?=some (.cells #[.string ⟨#[]⟩,.string ⟨#[]⟩,.slice none 0 0,.string ⟨#[]⟩] 203 (0,0)):=by
    rw [<-hwB]
    have:=heap_alloc_new (w.alloc (.cells #[.string a1,.string a2,.slice A n c,.string a4] 203)) (.cells #[.string ⟨#[]⟩,.string ⟨#[]⟩,.slice none 0 0,.string ⟨#[]⟩] 203)
    simpa using this
  have hzB:wB.heap.size=w.heap.size+2:=by rw [<-hwB];simp
  rw [hwB]
  obtain ⟨Z,hZ⟩:∃ Z,w.heap.size=Z:=⟨_,rfl⟩
  rw [hZ] at hxB hyB hzB hbB ⊢
  clear hwB
  go_cut [3] from 7 to 15 (fun s3 wx=>∃ g:Nat,s3=.pointer (some ⟨g,0,none⟩)/\Z+2<=g/\Below (Z+2) wB wx/\wx.heap[g]?=some (.cells #[.string g1,.string g2,.slice none 0 0,.string a4] 203 (0,0)))
  case first =>
    obtain ⟨p0,p1,p2,p3,q0,q1,q2,q3⟩:=res4 hxB
    have hS:∀ W,Below (Z+2) wB W->Below (Z+2) wB W/\W.cell? ⟨Z,0,none⟩=some (.string a1)/\W.cell? ⟨Z,1,none⟩=some (.string a2)/\W.cell? ⟨Z,3,none⟩=some (.string a4):=fun W h =>
      ⟨h,(h.cell (p:=⟨Z,0,none⟩) (by show Z < Z+2;omega)).trans p0,(h.cell (p:=⟨Z,1,none⟩) (by show Z < Z+2;omega)).trans p1,(h.cell (p:=⟨Z,3,none⟩) (by show Z < Z+2;omega)).trans p3⟩
    have hle:Z+2<=wB.heap.size:=by omega
    have hle2:wB.heap.size<=Z+2:=by omega
    have hxB':=Lib.hid hxB
    have hyB':=Lib.hid hyB
    clear hxB hyB hzB
    go_region_held3 (fun w'=>Below (Z+2) wB w'/\w'.cell? ⟨Z,0,none⟩=some (.string a1)/\w'.cell? ⟨Z,1,none⟩=some (.string a2)/\w'.cell? ⟨Z,3,none⟩=some (.string a4))
      (refine hS _ ?_<;>first | assumption | exact Below.drew (Below.refl _ _) | exact keep_call (by assumption) (And.left (by assumption)) (by first | exact hle | assumption | omega | (simp;omega)) | exact keep_call (by assumption) (Below.drew (Below.refl _ _)) (by first | exact hle | assumption | omega | (simp;omega)) | exact keep_alloc (And.left (by assumption)) (by assumption) _ | exact keep_alloc (Below.drew (Below.refl _ _)) (by assumption) _ | exact keep_again (And.left (by assumption)) (by assumption) (by omega) _ | exact keep_set4 (And.left (by assumption)) (by omega) _ _ _ _ | exact keep_call (by assumption) (keep_alloc (And.left (by assumption)) (by assumption) _) (by simp;omega) | exact keep_call (by assumption) (keep_alloc (Below.drew (Below.refl _ _)) (by assumption) _) (by simp;omega))
      (first | (go_at_call 141;((first | (with_reducible refine (cU1 _).mono ?_) | (with_reducible refine (cU2 _).mono ?_));rintro e wx ⟨rfl,hbx⟩;have hsx:Z+2<=wx.heap.size:=Nat.le_trans (by first | exact hle | assumption | omega | (simp;omega)) hbx.size;have hsy:wB.heap.size<=wx.heap.size:=(by omega);(first | (have hk:=alloc_kept_drew hbx;obtain ⟨k0,k1,k2,k3,k4,k5,k6,k7⟩:=res4 hk) | (have hk:wx.heap[wB.heap.size]?=some (.cells #[.string ⟨#[]⟩,.string ⟨#[]⟩,.slice none 0 0,.string ⟨#[]⟩] 203 (0,0)):=alloc_kept hbx;obtain ⟨k0,k1,k2,k3,k4,k5,k6,k7⟩:=res4 hk) | (have hk:=alloc_kept hbx;obtain ⟨k0,k1,k2,k3,k4,k5,k6,k7⟩:=res4 hk) | (have hk:=blk_below hbx (by assumption);obtain ⟨k0,k1,k2,k3,k4,k5,k6,k7⟩:=res4 hk) | skip))))
    all_goals
      go_wp2_with fail
      go_meet
    case rel=>exact ⟨_,rfl,by omega,And.left (by assumption),heap_alloc_new _ _⟩
    case rel=>exact ⟨_,rfl,by omega,And.left (by assumption),set4_blk (by assumption) _ _ _ _⟩
    case rel=>exact ⟨_,rfl,by omega,And.left (by assumption),set4_blk (by assumption) _ _ _ _⟩
  case rest =>
    obtain ⟨g,rfl,hg,hbc,hkg⟩:=hcut
    have hxc:wc.heap[Z]?=some (.cells #[.string a1,.string a2,.slice A n c,.string a4] 203 (0,0)):=(hbc.block Z (by omega)).trans hxB
    have hyc:wc.heap[Z+1]?=some (.cells #[.string ⟨#[]⟩,.string ⟨#[]⟩,.slice none 0 0,.string ⟨#[]⟩] 203 (0,0)):=(hbc.block (Z+1) (by omega)).trans hyB
    have hbZ:Below Z w wc:=hbB.trans (hbc.mono (by omega))
    obtain ⟨p0,p1,p2,p3,q0,q1,q2,q3⟩:=res4 hxc
    have hgc:g < wc.heap.size:=(Array.getElem?_eq_some_iff.1 hkg).1
    obtain ⟨B,hB⟩:∃ B,wc.heap.size=B:=⟨_,rfl⟩
    rw [hB] at hgc
    have hBc:B<=wc.heap.size:=by omega
    have hkg':=Lib.hid hkg
    have hyc':=Lib.hid hyc
    clear hxB hyB hzB hbB hbc hB hxc hkg hyc cU1 cU2
    go_wp2_with fail
    go_loopw [19] (fun s19 wr=>∃ (k:Nat) (pv:Value),s19=.int .i64 (k:Int)/\k<=n/\Below Z w wr/\B<=wr.heap.size/\Hid (wr.heap[Z+1]?=some (.cells #[.string ⟨#[]⟩,.string ⟨#[]⟩,.slice none 0 0,.string ⟨#[]⟩] 203 (0,0)))/\
        Hid (wr.heap[g]?=some (.cells #[.string g1,.string g2,pv,.string a4] 203 (0,0)))/\POwn B pv ((L.params.take k).map canP) wr) (fun s19 wr=>n - (RowKit.intOf s19).toNat)
    case atStart=>exact ⟨0,_,rfl,Nat.zero_le _,hbZ,hBc,hyc',hkg',POwn.nil _ _⟩
    case round =>
      clear hbZ hBc hyc' hkg' p0 p1 p2 p3 q0 q1 q2 q3
      obtain ⟨k,pv,rfl,hk,hbw,hBr,hy,hkg,hown⟩:=hrel
      by_cases hlt:k < n
      · have hv:L.params[k]?=some (L.params[k]'(by have:=hn'.out;omega)):=List.getElem?_eq_getElem _
        obtain ⟨V,hV⟩:∃ V,L.params[k]'(by have:=hn'.out;omega)=V:=⟨_,rfl⟩
        have hVm:V∈L.params:=by rw [<-hV];exact List.getElem_mem _
        rw [hV] at hv
        obtain ⟨rfl,hgb⟩:=h3'.out (by omega)
        obtain ⟨hc,u,hu,hsu⟩:=h4'.out k V hv
        rw [<-hbw.cell (p:=⟨b,o+k*2,none⟩) (by show b < Z;omega)] at hc
        rw [<-hbw.cell (p:=⟨b,o+k*2+1,none⟩) (by show b < Z;omega)] at hu
        have hVl:=hvs'.out V hVm
        obtain ⟨x,ex,hx⟩:=sv_some V.name
        rw [ex] at hc
        have hxs:x.size<=4611686018427387904:=by rw [Lib.size_eq,hx];exact hnm'.out V hVm
        obtain ⟨A2,c2,rfl⟩:∃ A c,u=.slice A V.vals.length c:=by
          obtain ⟨A,b,o,c,h,_⟩:=hsu
          exact ⟨A,c,h⟩
        obtain ⟨wP,hwP⟩:∃ wP,wr.alloc (.cells #[.string x,.slice A2 V.vals.length c2] 246)=wP:=⟨_,rfl⟩
        have hbP:Below wr.heap.size wr wP:=by rw [<-hwP];exact (Below.refl _ _).alloc (Nat.le_refl _) _
        have hkP:wP.heap[wr.heap.size]?=some (.cells #[.string x,.slice A2 V.vals.length c2] 246 (0,0)):=by rw [<-hwP];exact heap_alloc_new wr _
        have hS:StrsAt wP (.slice A2 V.vals.length c2) V.vals:=by
          refine hsu.kept ?_
          rw [hZ]
          exact hbw.trans (hbP.mono (by have:=hbw.size;omega))
        obtain ⟨l,hl⟩:∃ l,V.vals.length=l:=⟨_,rfl⟩
        rw [hl] at hu hwP hkP hS hVl
        have hv':=Lib.hid hv
        have hx':=Lib.hid hx
        have hl':=Lib.hid hl
        have hkP':=Lib.hid hkP
        have hzP:wr.heap.size < wP.heap.size:=(Array.getElem?_eq_some_iff.1 hkP).1
        obtain ⟨e0,e1,e2,e3⟩:=res2 hkP
        clear hv hV hVm hsu ex hx hl hgb hkP
        go_wp2_with (at_builtin;refine wpList_append_strs rfl _ _ rfl wP.heap.size (.slice none 0 0) (.slice A2 l c2) V.vals rfl rfl (World.ownsRow_nil _ _ _ 1) hS ?c1 (by simp) ?_)
        case c1=>have:=hl'.out;omega
        intro v2 w2 hO2 hg2
        obtain ⟨ao,cc,rfl⟩:=hO2.form
        rw [hl'.out] at hO2 ⊢
        have hb2:Below wP.heap.size wP w2:=⟨hg2.os,hg2.tape,hg2.output,hg2.size,fun i hi=>hg2.block i hi (by simp [Value.ownBlock])⟩
        have hb2r:Below wr.heap.size wr w2:=below_then hbP hb2
        have hkg2:=Lib.hid ((hb2r.block g (by omega)).trans hkg.out)
        have hkP2:=Lib.hid ((hb2.block _ hzP).trans hkP'.out)
        have hy2:=Lib.hid ((hb2r.block (Z+1) (by omega)).trans hy.out)
        obtain ⟨us,hus,hrow,hvals⟩:=hown.kept hb2r
        have hO2B:Own B (.slice ao l cc) V.vals w2:=hO2.less (by omega)
        have hlk:((L.params.take k).map canP).length=k:=by rw [List.length_map,List.length_take];have:=hn'.out;omega
        have hsz2:wr.heap.size < w2.heap.size:=Nat.lt_of_lt_of_le hzP hb2.size
        obtain ⟨gx,hgx⟩:∃ gx:ByteArray,(⟨(Ch.up x.data.toList).toArray⟩:ByteArray)=gx:=⟨_,rfl⟩
        have cU:=fun W=>Ch.upper_any x W (by omega)
        rw [hgx] at cU
        have hgxd:gx.data.toList=Ch.up V.name:=by rw [<-hgx,hx'.out]
        have hmore:∀ (W:World) (v':Value) (w':World),Below w2.heap.size w2 W->w'.ownsRow B 246 2 v' (k+1) (pcells ((L.params.take k).map canP) us++[.string gx,.slice ao l cc])->W.grownBy w' pv.ownBlock->POwn B v' ((L.params.take (k+1)).map canP) w':=fun W v' w' hW h5 h6=>by
          obtain ⟨hlt2,hve⟩:=List.getElem?_eq_some_iff.1 hv'.out
          rw [List.take_succ_eq_append_getElem hlt2,hve,List.map_append,List.map_singleton]
          refine POwn.more (p:=canP V) (u:=.slice ao l cc) (W:=W) (w':=w') (v:=pv) hus (ownsRow_kept hrow hW) (fun j p u hp hu=>(hvals j p u hp hu).kept hW) (hO2B.kept hW) ?_ h6
          rw [hlk]
          have e:sv (canP V).name=.string gx:=by show sv (Ch.up V.name)=_;rw [<-hgxd,sv_data]
          rw [e];exact h5
        have hrowK:∀ W,Below w2.heap.size w2 W->W.ownsRow B 246 2 pv k (pcells ((L.params.take k).map canP) us):=fun W hW=>by
          have:=ownsRow_kept hrow hW
          rwa [hlk] at this
        have hrlt:∀ q,pv.ownBlock=some q->B<=q:=fun q hq=>(hrow.lt q hq).1
        obtain ⟨m0,m1,m2,m3,m4,m5,m6,m7⟩:=res4 hkg2.out
        obtain ⟨t0,t1,t2,t3⟩:=res2 hkP2.out
        have hone:∀ u∈[Value.string gx,Value.slice ao l cc],u.oneCell'=true:=fun u hu=>by
          simp at hu
          rcases hu with rfl | rfl<;>rfl
        have hBw:B<=w2.heap.size:=by omega
        have hk1:k+1<=maxLen:=by unfold maxLen;omega
        have hk2:(k+1)*40<=140737488355328:=by omega
        have hmore':=Lib.hid hmore
        have hrowK':=Lib.hid hrowK
        have hrlt':=Lib.hid hrlt
        clear hO2 hg2 hb2 hus hrow hvals hO2B hlk hgx hgxd hmore hrowK hrlt hown hS hbP hkg hy e0 e1 e2 e3 hu hc
        go_wp2_with fail
        go_region_law (first
          | ((refine step_append_lies _ (by rfl) _ _ _ (by rfl) B 246 j0 (.agg #[.string ⟨#[]⟩,.slice none 0 0]) 2 40 Tryz.underlying201 hj hjz0 hjz1 hjz2 rfl (by decide) pv k _ (by rfl) ((hrowK'.out wx hbx2).alloc _) ⟨wx.heap.size,0,none⟩ 1 1 [.string gx,.slice ao l cc] (by rfl) (by rfl) (World.news_of_block (heap_alloc_new wx _)) hone (by omega) hk1 hk2 (by simp;omega) (wx.heap.size+1) (by simp) ?_);intro gg cap w5 hown5 hgrow5 hat5 hlt5;have hk5:=blk_grown (blk_alloc hkx _) hgrow5 (fun q hq=>by have:=hrlt'.out q hq;omega);obtain ⟨x0,x1,x2,x3,x4,x5,x6,x7⟩:=res4 hk5)
          | (go_simp;go_at_call 141;refine (cU _).mono ?_;rintro e wx ⟨rfl,hbx⟩;have hbx2:=below_drew_then hbx;have hkx:=blk_below hbx2 hkg2.out;obtain ⟨y0,y1,y2,y3,y4,y5,y6,y7⟩:=res4 hkx;have hszx:=hbx2.size;have z2:(wx.alloc (.cells #[.string gx,.slice ao l cc] 246)).cell? ⟨g,2,none⟩=some pv:=(res4 (blk_alloc hkx _)).2.2.1))
        all_goals
          have hal:=keep_alloc hbx2 (Nat.le_refl _) (.cells #[.string gx,.slice ao l cc] 246)
          have hP5:=hmore'.out _ _ w5 hal hown5 hgrow5
          have hP6:=Lib.hid (hP5.stored (a:=⟨g,2,none⟩) hgc (.slice (some ⟨gg,0,none⟩) (k+1) cap))
          have hk6:=Lib.hid (set4_2 hk5 (.slice (some ⟨gg,0,none⟩) (k+1) cap))
          have hy6:=Lib.hid (blk_store (blk_grown (blk_alloc (blk_below hbx2 hy2.out) (.cells #[.string gx,.slice ao l cc] 246)) hgrow5 (fun q hq=>by have:=hrlt'.out q hq;omega)) (p:=⟨g,2,none⟩) (by show Z+1≠g;omega) (.slice (some ⟨gg,0,none⟩) (k+1) cap))
          have hb6:Below Z w (w5.setCell ⟨g,2,none⟩ (.slice (some ⟨gg,0,none⟩) (k+1) cap)):=(((hbw.trans (hb2r.mono (by omega))).trans (hal.mono (by omega))).grown hgrow5 (by simp;omega) (fun q hq=>by have:=hrlt'.out q hq;omega)).setCell (p:=⟨g,2,none⟩) (by show Z<=g;omega) _
          have hs6:B<=(w5.setCell ⟨g,2,none⟩ (.slice (some ⟨gg,0,none⟩) (k+1) cap)).heap.size:=by have:=hgrow5.size;simp at this;simp [World.setCell];omega
          clear hal hP5 hk5 hown5 hgrow5 hat5 hlt5 hbx hbx2 hkx x0 x1 x2 x3 x4 x5 x6 x7 z2 m0 m1 m2 m3 m4 m5 m6 m7 t0 t1 t2 t3
          go_wp2_with fail
          go_roundw
        case rel=>exact ⟨k+1,_,by go_num,by omega,hb6,hs6,hy6,hk6,hP6.out⟩
        case measure=>simp [RowKit.intOf];omega
        case rel=>exact ⟨k+1,_,by go_num,by omega,hb6,hs6,hy6,hk6,hP6.out⟩
        case measure=>simp [RowKit.intOf];omega
        case rel=>exact ⟨k+1,_,by go_num,by omega,hb6,hs6,hy6,hk6,hP6.out⟩
        case measure=>simp [RowKit.intOf];omega
        case rel=>exact ⟨k+1,_,by go_num,by omega,hb6,hs6,hy6,hk6,hP6.out⟩
        case measure=>simp [RowKit.intOf];omega
      · rw [List.take_of_length_le (by have:=hn'.out;omega)] at hown
        obtain ⟨x0,x1,x2,x3,r0,r1,r2,r3⟩:=res4 hkg.out
        obtain ⟨y0,y1,y2,y3,f0,f1,f2,f3⟩:=res4 hy.out
        obtain ⟨ag,cg,rfl⟩:=hown.form
        obtain ⟨lg,hlg⟩:∃ lg,(L.params.map canP).length=lg:=⟨_,rfl⟩
        rw [hlg] at hown x2
        have hgd1:=hd1'.out
        have hgd2:=hd2'.out
        have hZB:Z+1 < B:=by omega
        have hfin:∀ W,POwn B (.slice ag lg cg) (L.params.map canP) W->LOwn Z (.agg #[.string g1,.string g2,.slice ag lg cg,.string a4]) (canL L) W:=fun W h=>⟨_,by show _=Value.agg #[sv (Ch.up L.group),sv (Ch.up L.name),_,sv L.value];rw [<-hgd1,<-hgd2,<-ha4'.out,sv_data,sv_data,sv_data],h.less (by omega)⟩
        have hlo:=Lib.hid (hfin _ (((((hown.stored (a:=⟨Z+1,0,none⟩) hZB (.string g1)).stored (a:=⟨Z+1,1,none⟩) hZB (.string g2)).stored (a:=⟨Z+1,2,none⟩) hZB (.slice ag lg cg)).stored (a:=⟨Z+1,3,none⟩) hZB (.string a4))))
        have hZ1:Z<=Z+1:=by omega
        have hbf:=(((hbw.setCell (p:=⟨Z+1,0,none⟩) hZ1 (.string g1)).setCell (p:=⟨Z+1,1,none⟩) hZ1 (.string g2)).setCell (p:=⟨Z+1,2,none⟩) hZ1 (.slice ag lg cg)).setCell (p:=⟨Z+1,3,none⟩) hZ1 (.string a4)
        have hne1:¬ g=Z+1:=by omega
        have hne2:¬ Z+1=g:=by omega
        clear hlg hy hkg hown hfin hgd1 hgd2
        go_wp2
        exact bodyPost_ret (v:=.agg #[.string g1,.string g2,.slice ag lg cg,.string a4]) (by simp [results,Tryz.results166,go_sem,y0,y1,y2,y3]) rfl (by rw [hZ];exact ⟨⟨_,rfl,hlo.out⟩,hbf⟩)
theorem up_up (l:Row):Ch.up (Ch.up l)=Ch.up l:=by
  unfold Ch.up
  rw [List.map_map]
  congr 1
  funext c
  exact Ch.byte_all (P:=fun c=>Ch.upB (Ch.upB c)=Ch.upB c) (by decide +kernel) c
end Li
namespace Ca
open Li (LD PD canL chk)
def nFN:Row:=[70,78]
def can1 (L:LD):LD:={ canL L with value:=(anew (canL L).name L.value).1 }
theorem can1_name (L:LD):(can1 L).name=Ch.up L.name:=rfl
def keyL (L:LD):RowB:=if L.name=nFN then [] else L.name
def srt (out:List LD):List LD:=out.filter (fun L=>decide (L.name=nFN))++riseF keyL out.length [] out
theorem keyL_fn {L:LD} (h:L.name=nFN):keyL L=[]:=if_pos h
theorem keyL_own {L:LD} (h:L.name≠nFN):keyL L=L.name:=if_neg h
theorem srt_spec (out:List LD) (hne:∀ L∈out,L.name≠[]):Sorted keyL (srt out)/\∀ m,(srt out).filter (fun L=>decide (keyL L=m))=out.filter (fun L=>decide (keyL L=m)):=by
  obtain ⟨i1,i2,i3⟩:=rise_spec keyL out.length [] out List.countP_le_length
  have hk:∀ L∈out.filter (fun L=>decide (L.name=nFN)),keyL L=[]:=fun L hL=>keyL_fn (by simpa using (List.mem_filter.1 hL).2)
  have hiff:∀ L∈out,(keyL L=[]↔L.name=nFN):=fun L hL=>⟨fun h=>(by
    by_cases hn:L.name=nFN
    · exact hn
    · rw [keyL_own hn] at h;exact absurd h (hne L hL)),keyL_fn⟩
  refine ⟨List.pairwise_append.2 ⟨?_,i1,fun a ha b hb=>?_⟩,fun m=>?_⟩
  · refine List.Pairwise.imp_of_mem (R:=fun _ _=>True) (fun {a b} ha hb _=>by rw [hk a ha,hk b hb];exact lt_irrefl _) ?_
    exact List.pairwise_of_forall (fun _ _=>trivial)
  · rw [hk a ha];exact lt_nil _
  · unfold srt
    rw [List.filter_append,i3 m,List.filter_filter]
    cases m with
    | nil =>
      rw [if_neg (by rw [lt_nil];simp),List.append_nil]
      apply List.filter_congr
      intro L hL
      have:=hiff L hL
      by_cases hn:L.name=nFN
      · simp [hn,this.2 hn]
      · have:¬ keyL L=[]:=fun e=>hn (this.1 e)
        simp [hn,this]
    | cons b m =>
      rw [if_pos (lt_nil_cons b m)]
      have e0:out.filter (fun L=>decide (keyL L=b :: m) && decide (L.name=nFN))=[]:=by
        rw [List.filter_eq_nil_iff]
        intro L _ e
        simp only [Bool.and_eq_true,decide_eq_true_eq] at e
        rw [keyL_fn e.2] at e
        exact absurd e.1 (by simp)
      rw [e0,List.nil_append]
theorem srt_uniq (out s:List LD) (hne:∀ L∈out,L.name≠[]) (hs:Sorted keyL s) (h:∀ m,s.filter (fun L=>decide (keyL L=m))=out.filter (fun L=>decide (keyL L=m))):s=srt out :=
  sorted_uniq keyL s (srt out) hs (srt_spec out hne).1 (fun m=>by rw [h m,(srt_spec out hne).2 m])
end Ca
end Go.Proofs.YtobfaibofhmpgaaGreatDoor
