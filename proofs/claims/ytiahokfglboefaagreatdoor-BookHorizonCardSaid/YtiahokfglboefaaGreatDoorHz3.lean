import Derived.Test.YtiahokfglboefaaGreatDoorHz2
import Derived.Test.YtiahokfglboefaaGreatDoorProg
import Derived.Maps.AppendAt
import Derived.Laws.AppendOwn
import Derived.Laws.OwnMore
import Derived.Below
import Derived.Lib.Hide
import Derived.Lib.IndexLaws
import Derived.BigQuiet
import Derived.KernelRfl
import Derived.WalkKit
import Derived.Deep.QuietTactic
import Derived.IntWalk
import Derived.Lib.Builder
import Derived.Laws.Rows
set_option linter.unusedVariables false
set_option maxHeartbeats 4000000
set_option maxRecDepth 100000
namespace Go.Proofs.YtiahokfglboefaaGreatDoor
namespace Bo
open Go.Lib Go.RowKit
def sv (l:Row):Value:=.string ⟨l.toArray⟩
theorem sv_data (s:ByteArray):sv s.data.toList=.string s:=by unfold sv;rw [Lib.mk_data]
structure Pl where
  c:Nat
  m:Nat
  j:Value
def Pl.fp (p:Pl):List Nat:=p.c :: p.m :: p.j.ownBlock.toList
def nc:List Note→List Value
  | []=>[]
  | n :: r=>.int .i64 (n.chg:Int) :: sv n.name :: .bool n.was :: nc r
theorem nc_app:∀ a b:List Note,nc (a++b)=nc a++nc b
  | [],_=>rfl
  | n :: a,b=>by simp only [List.cons_append,nc,nc_app a b]
theorem nc_len:∀ l:List Note,(nc l).length=l.length*3
  | []=>rfl
  | n :: l=>by
    have:=nc_len l
    simp only [nc,List.length_cons];omega
def lv (l:Leaf):Value:=.agg #[.int .i64 (l.tag:Int),sv l.text]
def cM (C:List Leaf):List (Row × Value):=C.map fun l=>(l.name,lv l)
abbrev pv (c:Nat):Value:=.pointer (some ⟨c,0,none⟩)
structure BkIs (w:World) (b:Bk) (p:Pl):Prop where
  blk:w.heap[p.c]?=some (.cells #[.int .i64 (b.made:Int),.int .i64 (b.hor:Int),.map (some p.m),p.j] 74 (0,0))
  map:MapIs Tryz.prog 9 w p.m (cM b.cards)
  jou:w.ownsRow 0 80 3 p.j b.notes.length (nc b.notes)
abbrev Bks:Type:=List (Bk × Pl)
def bM (L:Bks):List (Row × Value):=L.map fun x=>(x.1.name,pv x.2.c)
def fpS (sb bm:Nat) (L:Bks):List Nat:=sb :: bm :: L.flatMap fun x=>x.2.fp
structure ShIs (w:World) (sb bm:Nat) (L:Bks) (chg:Nat):Prop where
  blk:w.heap[sb]?=some (.cells #[.int .i64 (chg:Int),.map (some bm)] 69 (0,0))
  map:MapIs Tryz.prog 9 w bm (bM L)
  bks:∀ x∈L,BkIs w x.1 x.2
  apart:(fpS sb bm L).Nodup
structure Kp (F:List Nat) (w w':World):Prop where
  os:w'.os=w.os
  tape:w'.tape=w.tape
  output:w'.output=w.output
  size:w.heap.size≤w'.heap.size
  block:∀ k,k < w.heap.size→k∉F→w'.heap[k]?=w.heap[k]?
theorem Kp.refl (F:List Nat) (w:World):Kp F w w:=⟨rfl,rfl,rfl,Nat.le_refl _,fun _ _ _=>rfl⟩
theorem Kp.of_below {F:List Nat} {w w':World} (h:Below w.heap.size w w'):Kp F w w':=⟨h.os,h.tape,h.output,h.size,fun k hk _=>h.block k hk⟩
theorem Kp.trans {F:List Nat} {a w w':World} (h:Kp F a w) (k:Kp F w w'):Kp F a w' :=
  ⟨k.os.trans h.os,k.tape.trans h.tape,k.output.trans h.output,Nat.le_trans h.size k.size,fun i hi hn=>by rw [k.block i (Nat.lt_of_lt_of_le hi h.size) hn,h.block i hi hn]⟩
theorem Kp.mono {F G:List Nat} {w w':World} (h:Kp F w w') (hs:∀ k∈F,k∈G):Kp G w w':=⟨h.os,h.tape,h.output,h.size,fun k hk hn=>h.block k hk fun hf=>hn (hs k hf)⟩
theorem Kp.then {F G:List Nat} {a w w':World} (h:Kp F a w) (k:Kp G w w') (hG:∀ x∈G,x∈F∨a.heap.size≤x):Kp F a w' :=
  ⟨k.os.trans h.os,k.tape.trans h.tape,k.output.trans h.output,Nat.le_trans h.size k.size,fun i hi hn=>by
    rw [k.block i (Nat.lt_of_lt_of_le hi h.size) (fun hg=>by
      rcases hG i hg with h1 | h1
      · exact hn h1
      · omega),h.block i hi hn]⟩
theorem Kp.below {F:List Nat} {B:Nat} {a w w':World} (h:Kp F w w') (ha:Below B a w) (hF:∀ k∈F,B≤k) (hB:B≤w.heap.size):Below B a w' :=
  ⟨h.os.trans ha.os,h.tape.trans ha.tape,h.output.trans ha.output,Nat.le_trans ha.size h.size,fun k hk=>by rw [h.block k (by omega) (fun hf=>by have:=hF k hf;omega),ha.block k hk]⟩
theorem Kp.setCell {F:List Nat} {a w:World} (h:Kp F a w) {ad:Addr} (hF:ad.block∈F∨a.heap.size≤ad.block) (v:Value):Kp F a (w.setCell ad v) :=
  ⟨h.os,h.tape,h.output,Nat.le_trans h.size (by simp),fun k hk hn=>by
    rw [Below.heap_setCell w ad v k (fun e=>by
      subst e
      rcases hF with hF | hF
      · exact hn hF
      · omega)]
    exact h.block k hk hn⟩
theorem Kp.grown {F:List Nat} {a w w':World} {row:Option Nat} (h:Kp F a w) (hg:w.grownBy w' row) (hF:∀ k,row=some k→k∈F∨a.heap.size≤k):Kp F a w' :=
  ⟨hg.os.trans h.os,hg.tape.trans h.tape,hg.output.trans h.output,Nat.le_trans h.size hg.size,fun k hk hn=>by
    rw [hg.block k (Nat.lt_of_lt_of_le hk h.size) (fun e=>by
      rcases hF k e.symm with h1 | h1
      · exact hn h1
      · omega)]
    exact h.block k hk hn⟩
theorem Kp.belowThen {F:List Nat} {a w w':World} (h:Kp F a w) (hb:Below w.heap.size w w'):Kp F a w':=h.trans (Kp.of_below hb)
theorem ownsRow_heap {w w':World} {B:Nat} {e:TypeId} {size:Nat} {v:Value} {n:Nat} {xs:List Value} (h:w.ownsRow B e size v n xs) (hk:∀ g,v.ownBlock=some g→w'.heap[g]?=w.heap[g]?):w'.ownsRow B e size v n xs:=by
  refine ⟨h.1,?_⟩
  rcases h.2 with h | ⟨g,cap,cur,e1,e2,e3,e4⟩
  · exact .inl h
  · exact .inr ⟨g,cap,cur,e1,e2,by rw [hk g (by rw [e1];rfl)];exact e3,e4⟩
theorem BkIs.heap {w w':World} {b:Bk} {p:Pl} (h:BkIs w b p) (hk:∀ k∈p.fp,w'.heap[k]?=w.heap[k]?):BkIs w' b p :=
  ⟨by rw [hk p.c (by simp [Pl.fp])];exact h.blk,h.map.block (hk p.m (by simp [Pl.fp])),ownsRow_heap h.jou fun g hg=>hk g (by simp [Pl.fp,hg])⟩
theorem BkIs.lt {w:World} {b:Bk} {p:Pl} (h:BkIs w b p):∀ k∈p.fp,k < w.heap.size:=fun k hk=>by
  rcases List.mem_cons.1 hk with rfl | hk
  · exact (Array.getElem?_eq_some_iff.1 h.blk).1
  rcases List.mem_cons.1 hk with rfl | hk
  · exact h.map.lt
  · exact (h.jou.lt k (by simpa using hk)).2
section
variable {w:World} {sb bm:Nat} {L:Bks} {chg:Nat}
theorem ShIs.lt (h:ShIs w sb bm L chg):∀ k∈fpS sb bm L,k < w.heap.size:=fun k hk=>by
  rcases List.mem_cons.1 hk with rfl | hk
  · exact (Array.getElem?_eq_some_iff.1 h.blk).1
  rcases List.mem_cons.1 hk with rfl | hk
  · exact h.map.lt
  · obtain ⟨x,hx,hk⟩:=List.mem_flatMap.1 hk
    exact (h.bks x hx).lt k hk
theorem ShIs.heap (h:ShIs w sb bm L chg) {w':World} (hk:∀ k∈fpS sb bm L,w'.heap[k]?=w.heap[k]?):ShIs w' sb bm L chg :=
  ⟨by rw [hk sb (by simp [fpS])];exact h.blk,h.map.block (hk bm (by simp [fpS])),fun x hx=>(h.bks x hx).heap fun k hkf=>hk k (by
    unfold fpS
    exact List.mem_cons_of_mem _ (List.mem_cons_of_mem _ (List.mem_flatMap.2 ⟨x,hx,hkf⟩))),h.apart⟩
theorem ShIs.kept (h:ShIs w sb bm L chg) {w':World} (hb:Below w.heap.size w w'):ShIs w' sb bm L chg:=h.heap fun k hk=>hb.block k (h.lt k hk)
theorem mem_fpS {x:Bk × Pl} (hx:x∈L) {k:Nat} (hk:k∈x.2.fp):k∈fpS sb bm L:=by
  unfold fpS
  exact List.mem_cons_of_mem _ (List.mem_cons_of_mem _ (List.mem_flatMap.2 ⟨x,hx,hk⟩))
theorem ShIs.apartB (h:ShIs w sb bm L chg) {x:Bk × Pl} (hx:x∈L):sb∉x.2.fp∧bm∉x.2.fp∧sb≠bm∧x.2.fp.Nodup:=by
  have ha:=h.apart
  unfold fpS at ha
  rw [List.nodup_cons,List.nodup_cons] at ha
  obtain ⟨h1,h2,h3⟩:=ha
  refine ⟨fun hk=>h1 (List.mem_cons_of_mem _ (List.mem_flatMap.2 ⟨x,hx,hk⟩)),fun hk=>h2 (List.mem_flatMap.2 ⟨x,hx,hk⟩),fun e=>h1 (by rw [e];simp),?_⟩
  exact (List.pairwise_flatMap.1 h3).1 x hx
def atL (L:Bks) (n:Row):Option (Bk × Pl):=L.find? fun x=>decide (x.1.name=n)
theorem atL_look (L:Bks) (n:Row):lookM (bM L) n=(atL L n).map fun x=>pv x.2.c:=by
  unfold lookM bM atL
  rw [List.find?_map]
  cases h:L.find? ((fun p:Row × Value=>decide (p.1=n)) ∘ fun x=>(x.1.name,pv x.2.c)) with
  | none =>
    rw [show L.find? (fun x=>decide (x.1.name=n))=none from h];rfl
  | some y=>rw [show L.find? (fun x=>decide (x.1.name=n))=some y from h];rfl
theorem atL_bk {L:Bks} {s:Sh} (hL:L.map Prod.fst=s.books) (n:Row):bkAt s n=(atL L n).map Prod.fst:=by
  unfold bkAt atL
  rw [←hL,List.find?_map]
  rfl
theorem atL_some {L:Bks} {n:Row} {x:Bk × Pl} (h:atL L n=some x):x∈L∧x.1.name=n:=⟨List.mem_of_find?_eq_some h,by simpa using List.find?_some h⟩
theorem lookC (C:List Leaf) (n:Row):lookM (cM C) n=(C.find? fun l=>decide (l.name=n)).map lv:=by
  unfold lookM cM
  rw [List.find?_map]
  cases h:C.find? ((fun p:Row × Value=>decide (p.1=n)) ∘ fun l=>(l.name,lv l)) with
  | none=>rw [show C.find? (fun l=>decide (l.name=n))=none from h];rfl
  | some y=>rw [show C.find? (fun l=>decide (l.name=n))=some y from h];rfl
def setL (L:Bks) (b:Bk) (p:Pl):Bks:=L.map fun x=>if x.1.name=b.name then (b,p) else x
theorem setL_fst {L:Bks} {s:Sh} (hL:L.map Prod.fst=s.books) (b:Bk) (p:Pl):(setL L b p).map Prod.fst=setBk s b:=by
  unfold setL setBk
  rw [←hL,List.map_map,List.map_map]
  refine List.map_congr_left fun x _=>?_
  show (if x.1.name=b.name then (b,p) else x).1=if x.1.name=b.name then b else x.1
  split<;>rfl
theorem inj_name {L:Bks} (hn:(L.map fun x=>x.1.name).Nodup) {x y:Bk × Pl} (hx:x∈L) (hy:y∈L) (h:x.1.name=y.1.name):x=y:=by
  induction L with
  | nil=>cases hx
  | cons a L ih =>
    rw [List.map_cons,List.nodup_cons] at hn
    rcases List.mem_cons.1 hx with rfl | hx'<;>rcases List.mem_cons.1 hy with rfl | hy'
    · rfl
    · exact absurd (by rw [h];exact List.mem_map_of_mem (f:=fun x:Bk × Pl=>x.1.name) hy') hn.1
    · exact absurd (by rw [←h];exact List.mem_map_of_mem (f:=fun x:Bk × Pl=>x.1.name) hx') hn.1
    · exact ih hn.2 hx' hy'
theorem ShIs.names (h:ShIs w sb bm L chg):(L.map fun x=>x.1.name).Nodup:=by
  have:=h.map.nodup (Go.Maps.string_keyed Tryz.underlying9)
  unfold bM at this
  rw [List.map_map] at this
  exact this
theorem ShIs.setB (h:ShIs w sb bm L chg) {b b':Bk} {p p':Pl} {w':World} {chg':Nat} (hx:(b,p)∈L) (hE:Kp (sb :: p.fp) w w')
    (hs:w'.heap[sb]?=some (.cells #[.int .i64 (chg':Int),.map (some bm)] 69 (0,0))) (hb:BkIs w' b' p') (hn:b'.name=b.name) (hc:p'.c=p.c) (hf:∀ k∈p'.fp,k∈p.fp∨w.heap.size≤k) (hd:p'.fp.Nodup) :
    ShIs w' sb bm (setL L b' p') chg'∧(∀ k∈fpS sb bm (setL L b' p'),k∈fpS sb bm L∨w.heap.size≤k):=by
  have hnm:=h.names
  obtain ⟨a1,a2,a3,a4⟩:=h.apartB hx
  have ha:=h.apart
  unfold fpS at ha
  rw [List.nodup_cons,List.nodup_cons] at ha
  obtain ⟨g1,g2,g3⟩:=ha
  have hset:∀ y∈setL L b' p',y=(b',p')∨(y∈L∧y.1.name≠b.name):=fun y hy=>by
    obtain ⟨x,hxm,rfl⟩:=List.mem_map.1 hy
    by_cases e:x.1.name=b'.name
    · rw [if_pos e];exact .inl rfl
    · rw [if_neg e];exact .inr ⟨hxm,by rw [←hn];exact e⟩
  have hoth:∀ y∈L,y.1.name≠b.name→∀ k∈y.2.fp,k∉p.fp:=fun y hy hne k hk hkp=>by
    have hpw:=(List.pairwise_flatMap.1 g3).2
    have hne':y≠(b,p):=fun e=>hne (by rw [e])
    have:∀ (l:Bks),l.Pairwise (fun a₁ a₂=>∀ x∈a₁.2.fp,∀ y∈a₂.2.fp,x≠y)→y∈l→(b,p)∈l→False:=fun l=>by
      induction l with
      | nil=>intro _ h _;cases h
      | cons z l ih =>
        intro hp h1 h2
        obtain ⟨q1,q2⟩:=List.pairwise_cons.1 hp
        rcases List.mem_cons.1 h1 with r1 | r1<;>rcases List.mem_cons.1 h2 with r2 | r2
        · exact hne' (r1.trans r2.symm)
        · exact q1 _ r2 k (r1▸hk) k hkp rfl
        · exact q1 _ r1 k (r2▸hkp) k hk rfl
        · exact ih q2 r1 r2
    exact this L hpw hy hx
  have hnew:∀ k∈p'.fp,∀ q∈fpS sb bm L,q∉p.fp→k≠q:=fun k hk q hq hqp e=>by
    subst e
    rcases hf k hk with h1 | h1
    · exact hqp h1
    · have:=h.lt k hq;omega
  refine ⟨⟨hs,?_,fun y hy=>?_,?_⟩,fun k hk=>?_⟩
  · have e:bM (setL L b' p')=bM L:=by
      unfold bM setL
      rw [List.map_map]
      refine List.map_congr_left fun x hxm=>?_
      show (((if x.1.name=b'.name then (b',p') else x).1.name,pv (if x.1.name=b'.name then (b',p') else x).2.c):Row × Value)=_
      split
      · rename_i e
        rw [inj_name hnm hxm hx (by rw [e,hn])]
        rw [hn,hc]
      · rfl
    rw [e]
    exact h.map.block (hE.block bm h.map.lt (by simp only [List.mem_cons,not_or];exact ⟨fun e=>a3 e.symm,a2⟩))
  · rcases hset y hy with rfl | ⟨hyl,hyn⟩
    · exact hb
    · exact (h.bks y hyl).heap fun k hk=>hE.block k ((h.bks y hyl).lt k hk) (by
        simp only [List.mem_cons,not_or]
        exact ⟨fun e=>(h.apartB hyl).1 (e▸hk),hoth y hyl hyn k hk⟩)
  · unfold fpS
    rw [List.nodup_cons,List.nodup_cons]
    have key:∀ q,(q=sb∨q=bm)→q∉(setL L b' p').flatMap fun x=>x.2.fp:=fun q hq hm=>by
      obtain ⟨y,hy,hk⟩:=List.mem_flatMap.1 hm
      rcases hset y hy with rfl | ⟨hyl,_⟩
      · refine hnew q hk q ?_ ?_ rfl
        · rcases hq with rfl | rfl<;>simp [fpS]
        · rcases hq with rfl | rfl
          · exact a1
          · exact a2
      · rcases hq with rfl | rfl
        · exact (h.apartB hyl).1 hk
        · exact (h.apartB hyl).2.1 hk
    refine ⟨?_,key bm (.inr rfl),?_⟩
    · rw [List.mem_cons,not_or]
      exact ⟨a3,key sb (.inl rfl)⟩
    · refine List.pairwise_flatMap.2 ⟨fun y hy=>?_,List.pairwise_map.2 ?_⟩
      · rcases hset y hy with rfl | ⟨hyl,_⟩
        · exact hd
        · exact (h.apartB hyl).2.2.2
      · have hnp:=List.pairwise_map.1 hnm
        refine ((List.pairwise_flatMap.1 g3).2.and hnp).imp_of_mem fun {x y} hxm hym hxy=>?_
        by_cases ex:x.1.name=b'.name<;>by_cases ey:y.1.name=b'.name
        · exact absurd (ex.trans ey.symm) hxy.2
        · rw [if_pos ex,if_neg ey]
          intro k hk q hq
          exact hnew k hk q (mem_fpS hym hq) (hoth y hym (by rw [←hn];exact ey) q hq)
        · rw [if_neg ex,if_pos ey]
          intro q hq k hk e
          exact hnew k hk q (mem_fpS hxm hq) (hoth x hxm (by rw [←hn];exact ex) q hq) e.symm
        · rw [if_neg ex,if_neg ey]
          exact hxy.1
  · rcases List.mem_cons.1 hk with rfl | hk
    · exact .inl (by simp [fpS])
    rcases List.mem_cons.1 hk with rfl | hk
    · exact .inl (by simp [fpS])
    obtain ⟨y,hy,hk⟩:=List.mem_flatMap.1 hk
    rcases hset y hy with rfl | ⟨hyl,_⟩
    · rcases hf k hk with h1 | h1
      · exact .inl (mem_fpS hx h1)
      · exact .inr h1
    · exact .inl (mem_fpS hyl hk)
theorem ShIs.more (h:ShIs w sb bm L chg) {b:Bk} {p:Pl} {w':World} {chg':Nat} (hE:Kp [sb,bm] w w')
    (hs:w'.heap[sb]?=some (.cells #[.int .i64 (chg':Int),.map (some bm)] 69 (0,0))) (hm:MapIs Tryz.prog 9 w' bm (putM (bM L) b.name (pv p.c))) (hno:∀ x∈L,x.1.name≠b.name)
    (hb:BkIs w' b p) (hf:∀ k∈p.fp,w.heap.size≤k) (hd:p.fp.Nodup) {L':Bks} (hp:L'.Perm ((b,p) :: L)) :
    ShIs w' sb bm L' chg'∧(∀ k∈fpS sb bm L',k∈fpS sb bm L∨w.heap.size≤k):=by
  have ha:=h.apart
  unfold fpS at ha
  rw [List.nodup_cons,List.nodup_cons] at ha
  obtain ⟨g1,g2,g3⟩:=ha
  have hold:∀ q∈fpS sb bm L,q∉p.fp:=fun q hq hqp=>by have:=h.lt q hq;have:=hf q hqp;omega
  refine ⟨⟨hs,hm.of_perm ?_,fun y hy=>?_,?_⟩,fun k hk=>?_⟩
  · have e:(bM L).filter (fun q=>decide (q.1≠b.name))=bM L:=List.filter_eq_self.2 fun q hq=>by
      obtain ⟨x,hx,rfl⟩:=List.mem_map.1 hq
      simpa using hno x hx
    unfold putM
    rw [e]
    exact ((hp.map fun x:Bk × Pl=>(x.1.name,pv x.2.c)).symm)
  · rcases List.mem_cons.1 (hp.mem_iff.1 hy) with rfl | hyl
    · exact hb
    · exact (h.bks y hyl).heap fun k hk=>hE.block k ((h.bks y hyl).lt k hk) (by
        simp only [List.mem_cons,List.not_mem_nil,or_false,not_or]
        exact ⟨fun e=>(h.apartB hyl).1 (e▸hk),fun e=>(h.apartB hyl).2.1 (e▸hk)⟩)
  · have hpf:(fpS sb bm L').Perm (fpS sb bm ((b,p) :: L)):=((hp.flatMap_right _).cons bm).cons sb
    refine hpf.nodup_iff.2 ?_
    unfold fpS
    rw [List.flatMap_cons,List.nodup_cons,List.nodup_cons]
    refine ⟨fun hk=>?_,fun hk=>?_,List.nodup_append.2 ⟨hd,g3,fun k hk q hq e=>?_⟩⟩
    · rcases List.mem_cons.1 hk with e | hk
      · exact g1 (by rw [e];simp)
      · rcases List.mem_append.1 hk with hk | hk
        · exact hold sb (by simp [fpS]) hk
        · exact g1 (List.mem_cons_of_mem _ hk)
    · rcases List.mem_append.1 hk with hk | hk
      · exact hold bm (by simp [fpS]) hk
      · exact g2 hk
    · subst e
      exact hold k (List.mem_cons_of_mem _ (List.mem_cons_of_mem _ hq)) hk
  · have hpf:(fpS sb bm L').Perm (fpS sb bm ((b,p) :: L)):=((hp.flatMap_right _).cons bm).cons sb
    have hk:=hpf.mem_iff.1 hk
    unfold fpS at hk
    rw [List.flatMap_cons] at hk
    rcases List.mem_cons.1 hk with rfl | hk
    · exact .inl (by simp [fpS])
    rcases List.mem_cons.1 hk with rfl | hk
    · exact .inl (by simp [fpS])
    rcases List.mem_append.1 hk with hk | hk
    · exact .inr (hf k hk)
    · exact .inl (List.mem_cons_of_mem _ (List.mem_cons_of_mem _ hk))
theorem sub_flat {α β:Type} {l l':List α} (h:l.Sublist l') (f:α→List β):(l.flatMap f).Sublist (l'.flatMap f):=by
  induction h with
  | slnil=>exact List.Sublist.refl _
  | cons a h ih=>rw [List.flatMap_cons];exact ih.trans (List.sublist_append_right _ _)
  | cons_cons a h ih=>rw [List.flatMap_cons,List.flatMap_cons];exact ih.append_left _
theorem ShIs.fewer (h:ShIs w sb bm L chg) {n:Row} {w':World} {chg':Nat} (hE:Kp [sb,bm] w w')
    (hs:w'.heap[sb]?=some (.cells #[.int .i64 (chg':Int),.map (some bm)] 69 (0,0))) (hm:MapIs Tryz.prog 9 w' bm (delM (bM L) n)) :
    ShIs w' sb bm (L.filter fun x=>decide (x.1.name≠n)) chg'∧(∀ k∈fpS sb bm (L.filter fun x=>decide (x.1.name≠n)),k∈fpS sb bm L):=by
  have hsub:(fpS sb bm (L.filter fun x=>decide (x.1.name≠n))).Sublist (fpS sb bm L):=((sub_flat (List.filter_sublist (l:=L) (p:=fun x:Bk × Pl=>decide (x.1.name≠n))) fun x=>x.2.fp).cons_cons bm).cons_cons sb
  refine ⟨⟨hs,?_,fun y hy=>?_,h.apart.sublist hsub⟩,fun k hk=>hsub.subset hk⟩
  · have e:delM (bM L) n=bM (L.filter fun x=>decide (x.1.name≠n)):=by
      unfold delM bM
      rw [List.filter_map]
      rfl
    rw [←e]
    exact hm
  · have hyl:=(List.mem_filter.1 hy).1
    exact (h.bks y hyl).heap fun k hk=>hE.block k ((h.bks y hyl).lt k hk) (by
        simp only [List.mem_cons,List.not_mem_nil,or_false,not_or]
        exact ⟨fun e=>(h.apartB hyl).1 (e▸hk),fun e=>(h.apartB hyl).2.1 (e▸hk)⟩)
end
theorem insL_fst {L:Bks} {s:Sh} (hL:L.map Prod.fst=s.books) (b:Bk) (p:Pl):(insBy (fun x:Bk × Pl=>x.1.name) (b,p) L).map Prod.fst=insBy (fun x=>x.name) b s.books:=by
  rw [←hL]
  clear hL
  induction L with
  | nil=>rfl
  | cons x L ih =>
    rw [List.map_cons]
    unfold insBy
    by_cases h:less b.name x.1.name=true
    · rw [if_pos h,if_pos h];rfl
    · rw [if_neg h,if_neg h,List.map_cons,ih]
theorem delL_fst {L:Bks} {s:Sh} (hL:L.map Prod.fst=s.books) (n:Row):(L.filter fun x=>decide (x.1.name≠n)).map Prod.fst=s.books.filter fun x=>decide (x.name≠n):=by
  rw [←hL,List.filter_map]
  rfl
end Bo
namespace Bo
open Go.Lib Go.RowKit
theorem below_then {a b c:World} (h1:Below a.heap.size a b) (h2:Below b.heap.size b c):Below a.heap.size a c:=h1.trans (h2.mono h1.size)
abbrev repV (st tag:Int) (data:ByteArray) (ents:Value) (tok:ByteArray):Value:=.agg #[.int .i64 st,.int .i64 tag,.string data,ents,.string tok]
abbrev noS:ByteArray:=⟨#[]⟩
abbrev noE:Value:=.slice none 0 0
theorem rep_ret {fn:Func} {p:Tmp} (h:fn.results=#[.cell p 38]) (tmps:Array Value) (W:World) (g:Nat) (st tag:Int) (data:ByteArray) (ents:Value) (tok:ByteArray) (hp:tmps.getD p undef=.pointer (some ⟨g,0,none⟩))
    (hg:W.heap[g]?=some (.cells #[.int .i64 st,.int .i64 tag,.string data,ents,.string tok] 38 (0,0))):(results fn tmps).run Tryz.prog W=.ok (repV st tag data ents tok) W :=
  results_cell_row h tmps W g _ _ _ _ hp hg Tryz.underlying38 rfl (by kernel_rfl)
theorem set_heap {W:World} {g:Nat} {cs:Array Value} {t:TypeId} (h:W.heap[g]?=some (.cells cs t (0,0))) (j:Nat) (v:Value):(W.setCell ⟨g,j,none⟩ v).heap[g]?=some (.cells (cs.setIfInBounds j v) t (0,0)):=by
  simp [World.setCell,Array.getElem?_modify,h]
abbrev put5 (W:World) (g:Nat) (st tag:Int) (data:ByteArray) (ents:Value) (tok:ByteArray):World :=
  ((((W.setCell ⟨g,0,none⟩ (.int .i64 st)).setCell ⟨g,1,none⟩ (.int .i64 tag)).setCell ⟨g,2,none⟩ (.string data)).setCell ⟨g,3,none⟩ ents).setCell ⟨g,4,none⟩ (.string tok)
theorem put5_heap {W:World} {g:Nat} {a0 a1 a2 a3 a4:Value} {t:TypeId} (h:W.heap[g]?=some (.cells #[a0,a1,a2,a3,a4] t (0,0))) (st tag:Int) (data:ByteArray) (ents:Value) (tok:ByteArray) :
    (put5 W g st tag data ents tok).heap[g]?=some (.cells #[.int .i64 st,.int .i64 tag,.string data,ents,.string tok] t (0,0)):=by
  have h0:=set_heap h 0 (.int .i64 st)
  have h1:=set_heap h0 1 (.int .i64 tag)
  have h2:=set_heap h1 2 (.string data)
  have h3:=set_heap h2 3 ents
  exact set_heap h3 4 (.string tok)
theorem res5 {W:World} {b:Nat} {x0 x1 x2 x3 x4:Value} {t:TypeId} (hk:W.heap[b]?=some (.cells #[x0,x1,x2,x3,x4] t (0,0))) :
    W.cell? ⟨b,0,none⟩=some x0∧W.cell? ⟨b,1,none⟩=some x1∧W.cell? ⟨b,2,none⟩=some x2∧W.cell? ⟨b,3,none⟩=some x3∧W.cell? ⟨b,4,none⟩=some x4∧
      W.frozen? ⟨b,0,none⟩=false∧W.frozen? ⟨b,1,none⟩=false∧W.frozen? ⟨b,2,none⟩=false∧W.frozen? ⟨b,3,none⟩=false∧W.frozen? ⟨b,4,none⟩=false :=
  ⟨Lib.cell_of_heap hk 0,Lib.cell_of_heap hk 1,Lib.cell_of_heap hk 2,Lib.cell_of_heap hk 3,Lib.cell_of_heap hk 4,Lib.frozen_of_heap hk 0,Lib.frozen_of_heap hk 1,Lib.frozen_of_heap hk 2,Lib.frozen_of_heap hk 3,Lib.frozen_of_heap hk 4⟩
theorem Kp.put5 {F:List Nat} {a W:World} (h:Kp F a W) {g:Nat} (hg:a.heap.size≤g) (st tag:Int) (data:ByteArray) (ents:Value) (tok:ByteArray):Kp F a (put5 W g st tag data ents tok) :=
  ((((h.setCell (ad:=⟨g,0,none⟩) (.inr hg) _).setCell (ad:=⟨g,1,none⟩) (.inr hg) _).setCell (ad:=⟨g,2,none⟩) (.inr hg) _).setCell (ad:=⟨g,3,none⟩) (.inr hg) _).setCell (ad:=⟨g,4,none⟩) (.inr hg) _
theorem below_put5 {B:Nat} {a W:World} (h:Below B a W) {g:Nat} (hg:B≤g) (st tag:Int) (data:ByteArray) (ents:Value) (tok:ByteArray):Below B a (put5 W g st tag data ents tok) :=
  ((((h.setCell (p:=⟨g,0,none⟩) hg _).setCell (p:=⟨g,1,none⟩) hg _).setCell (p:=⟨g,2,none⟩) hg _).setCell (p:=⟨g,3,none⟩) hg _).setCell (p:=⟨g,4,none⟩) hg _
theorem put5_block (W:World) (g:Nat) (st tag:Int) (data:ByteArray) (ents:Value) (tok:ByteArray) {k:Nat} (hk:k≠g):(put5 W g st tag data ents tok).heap[k]?=W.heap[k]?:=by
  unfold put5
  rw [Below.heap_setCell _ _ _ k hk,Below.heap_setCell _ _ _ k hk,Below.heap_setCell _ _ _ k hk,Below.heap_setCell _ _ _ k hk,Below.heap_setCell _ _ _ k hk]
theorem rep_fin {fn:Func} {p:Tmp} (h:fn.results=#[.cell p 38]) {Q:Ending→World→Prop} {tm:Array Value} {W:World} {g:Nat} (hp:tm.getD p undef=.pointer (some ⟨g,0,none⟩)) {a0 a1 a2 a3 a4:Value}
    (hg:W.heap[g]?=some (.cells #[a0,a1,a2,a3,a4] 38 (0,0))) {st tag:Int} {data:ByteArray} {ents:Value} {tok:ByteArray} (hQ:Q (.returned (repV st tag data ents tok)) (put5 W g st tag data ents tok)) :
    bodyPost Tryz.prog fn Q Exit.ret { tmps:=tm,defers:=[] } (put5 W g st tag data ents tok) :=
  bodyPost_ret (rep_ret h tm _ g _ _ _ _ _ hp (put5_heap hg _ _ _ _ _)) rfl hQ
theorem rep_finW {fn:Func} {p:Tmp} (h:fn.results=#[.cell p 38]) {Q:Ending→World→Prop} {tm:Array Value} {W:World} {g:Nat} (hp:tm.getD p undef=.pointer (some ⟨g,0,none⟩)) {st tag:Int} {data:ByteArray} {ents:Value} {tok:ByteArray}
    (hg:W.heap[g]?=some (.cells #[.int .i64 st,.int .i64 tag,.string data,ents,.string tok] 38 (0,0))) (hQ:Q (.returned (repV st tag data ents tok)) W) :
    bodyPost Tryz.prog fn Q Exit.ret { tmps:=tm,defers:=[] } W :=
  bodyPost_ret (rep_ret h tm _ g _ _ _ _ _ hp hg) rfl hQ
theorem status_any (n:Int) (w:World):Calls Tryz.prog 32 #[.int .i64 n] w fun e w'=>e=.returned (repV n 0 noS noE noS)∧Below w.heap.size w w':=by
  go_enter Tryz.func32,Tryz.ntmps32
  go_wp2
  exact bodyPost_ret (rep_ret rfl _ _ w.heap.size _ _ _ _ _ rfl (heap_alloc_new w _)) rfl ⟨rfl,(Below.refl _ _).alloc (Nat.le_refl _) _⟩
theorem next_any (w:World) (sb bm n:Nat) (h:w.heap[sb]?=some (.cells #[.int .i64 (n:Int),.map (some bm)] 69 (0,0))) (hn:n < 4611686018427387904) :
    Calls Tryz.prog 72 #[pv sb] w fun e w'=>e=.returned (.int .i64 ((n+1:Nat):Int))∧w'=w.setCell ⟨sb,0,none⟩ (.int .i64 ((n+1:Nat):Int)):=by
  have hc:=Lib.cell_of_heap h 0
  have hf:=Lib.frozen_of_heap h 0
  have hw:IntKind.i64.wrap ((n:Int)+1)=(n:Int)+1:=IntWalk.i64_in _ (by omega)
  go_enter Tryz.func72,Tryz.ntmps72
  go_wp2
  go_ret
  exact ⟨rfl,rfl⟩
theorem keyed:Go.Maps.Keyed Tryz.prog 9:=Go.Maps.string_keyed Tryz.underlying9
theorem zeroK (w:World):(zeroValue 77).run Tryz.prog w=.ok (.agg #[.int .i64 0,.string ⟨#[]⟩]) w:=by kernel_rfl
theorem zeroC (w:World):(zeroValue 70).run Tryz.prog w=.ok (.pointer none) w:=by kernel_rfl
theorem get_any (w:World) (b:Bk) (p:Pl) (n:ByteArray) (h:BkIs w b p) (hn:n.size≤maxLen) :
    Calls Tryz.prog 76 #[pv p.c,.string n] w fun e w' =>
      e=.returned (match lfAt b n.data.toList with | some l=>repV 200 (l.tag:Int) ⟨l.text.toArray⟩ noE noS | none=>repV 404 0 noS noE noS)∧Below w.heap.size w w':=by
  have hk:=keyOf_str Tryz.underlying9 n hn
  have hc:∀ W,Below w.heap.size w W→W.cell? ⟨p.c,2,none⟩=some (.map (some p.m)):=fun W hW=>by
    rw [Lib.cell_of_heap ((hW.block p.c (h.lt p.c (by simp [Pl.fp]))).trans h.blk)];rfl
  have hm:∀ W,Below w.heap.size w W→MapIs Tryz.prog 9 W p.m (cM b.cards):=fun W hW=>h.map.block (hW.block p.m h.map.lt)
  have hl:=lookC b.cards n.data.toList
  have hlf:(b.cards.find? fun l=>decide (l.name=n.data.toList))=lfAt b n.data.toList:=rfl
  rw [hlf] at hl
  cases hb:lfAt b n.data.toList with
  | none =>
    rw [hb] at hl
    have cS:=status_any 404
    have hB1:Below w.heap.size w (w.alloc (.cells #[.int .i64 0,.int .i64 0,.string ⟨#[]⟩,.slice none 0 0,.string ⟨#[]⟩] 38)):=(Below.refl _ _).alloc (Nat.le_refl _) _
    have c1:=hc _ hB1
    have m1:=hm _ hB1
    have hg1:(w.alloc (.cells #[.int .i64 0,.int .i64 0,.string ⟨#[]⟩,.slice none 0 0,.string ⟨#[]⟩] 38)).heap[w.heap.size]?=some (.cells #[.int .i64 0,.int .i64 0,.string ⟨#[]⟩,.slice none 0 0,.string ⟨#[]⟩] 38 (0,0)):=heap_alloc_new w _
    have hs1:(w.alloc (.cells #[.int .i64 0,.int .i64 0,.string ⟨#[]⟩,.slice none 0 0,.string ⟨#[]⟩] 38)).heap.size=w.heap.size+1:=by simp
    go_enter Tryz.func76,Tryz.ntmps76
    go_wp2_with (first | (at_lookup;refine wp_look_ok _ rfl _ _ 71 rfl 9 77 keyed Tryz.underlying71 (zeroK _) p.m _ rfl m1 _ _ rfl hk (.agg #[.int .i64 0,.string ⟨#[]⟩]) false (by rw [hl];rfl) (by rw [hl];rfl) ?_) | fail)
    refine (cS _).mono ?_
    rintro e w2 ⟨rfl,hb2⟩
    have hB2:=Lib.hid (below_then (below_then hB1 ((Below.refl _ _).alloc (Nat.le_refl _) (.cells #[.int .i64 0,.string ⟨#[]⟩] 77))) hb2)
    have hg2:=(hb2.block w.heap.size (by simp;omega)).trans ((heap_alloc_old _ _ _ (by simp)).trans hg1)
    have hg2':=Lib.hid hg2
    obtain ⟨p0,p1,p2,p3,p4,f0,f1,f2,f3,f4⟩:=res5 hg2
    clear c1 m1 hg1 hs1 hB1 hg2 hb2 cS
    go_wp2
    exact rep_fin rfl rfl hg2'.out ⟨rfl,below_put5 hB2.out (Nat.le_refl _) _ _ _ _ _⟩
  | some l =>
    rw [hb] at hl
    have hB1:Below w.heap.size w (w.alloc (.cells #[.int .i64 0,.int .i64 0,.string ⟨#[]⟩,.slice none 0 0,.string ⟨#[]⟩] 38)):=(Below.refl _ _).alloc (Nat.le_refl _) _
    have c1:=hc _ hB1
    have m1:=hm _ hB1
    have hg1:(w.alloc (.cells #[.int .i64 0,.int .i64 0,.string ⟨#[]⟩,.slice none 0 0,.string ⟨#[]⟩] 38)).heap[w.heap.size]?=some (.cells #[.int .i64 0,.int .i64 0,.string ⟨#[]⟩,.slice none 0 0,.string ⟨#[]⟩] 38 (0,0)):=heap_alloc_new w _
    go_enter Tryz.func76,Tryz.ntmps76
    go_wp2_with (first | (at_lookup;refine wp_look_ok _ rfl _ _ 71 rfl 9 77 keyed Tryz.underlying71 (zeroK _) p.m _ rfl m1 _ _ rfl hk (.agg #[.int .i64 (l.tag:Int),.string ⟨l.text.toArray⟩]) true (by rw [hl];rfl) (by rw [hl];rfl) ?_) | fail)
    exact rep_finW rfl rfl (g:=w.heap.size) ((heap_alloc_old _ _ _ (by simp)).trans (heap_alloc_new w _)) ⟨rfl,((Below.refl _ _).alloc (Nat.le_refl _) _).alloc (by simp) _⟩
end Bo
end Go.Proofs.YtiahokfglboefaaGreatDoor
