import Derived.Test.YtobfaibofhmpgaaGreatDoorAp41
import Derived.Test.YtobfaibofhmpgaaGreatDoorRows
import Derived.ChangeSame
import Derived.ChangeSlices
import Derived.Deep.Slices
import Derived.Deep.Fields
import Derived.Lib.SmallJoins
set_option linter.unusedVariables false
set_option maxRecDepth 100000
set_option maxHeartbeats 8000000
namespace Go.Proofs.YtobfaibofhmpgaaGreatDoor
namespace Bo
open Go.Lib Go.RowKit
def AtX (B sb:Nat) (X:List Nat) (w:World) (s:Sh) (wr:World):Prop:=∃ F,Shf B sb F s wr/\Grd w wr/\Below w.heap.size w wr/\∀ k∈X,k∉F/\k < wr.heap.size
section
variable {B sb:Nat} {X:List Nat} {w wr w':World} {s:Sh}
theorem At.x (h:At B sb w s wr):AtX B sb [] w s wr:=by
  obtain ⟨F,h1,h2,h3⟩:=h
  exact ⟨F,h1,h2,h3,fun k hk=>by cases hk⟩
theorem AtX.below (h:AtX B sb X w s wr):Below w.heap.size w wr:=by
  obtain ⟨F,h1,h2,h3,_⟩:=h
  exact h3
theorem AtX.kept (h:AtX B sb X w s wr) (hb:Below wr.heap.size wr w'):AtX B sb X w s w':=by
  obtain ⟨F,h1,h2,h3,h4⟩:=h
  exact ⟨F,h1.kept hb,h2.below hb,h3.trans (hb.mono h3.size),fun k hk=>⟨(h4 k hk).1,Nat.lt_of_lt_of_le (h4 k hk).2 hb.size⟩⟩
theorem AtX.add (h:AtX B sb X w s wr) (o:Obj):AtX B sb (wr.heap.size :: X) w s (wr.alloc o):=by
  have hb:Below wr.heap.size wr (wr.alloc o):=(Below.refl _ _).alloc (Nat.le_refl _) _
  obtain ⟨F,h1,h2,h3,h4⟩:=h
  refine ⟨F,h1.kept hb,h2.below hb,h3.trans (hb.mono h3.size),fun k hk=>?_⟩
  rcases List.mem_cons.1 hk with rfl | hk
  · exact ⟨fun hm=>by have:=h1.lt _ hm;omega,by simp⟩
  · exact ⟨(h4 k hk).1,Nat.lt_of_lt_of_le (h4 k hk).2 hb.size⟩
theorem AtX.doN (h:AtX B sb X w s wr) (hB:w.heap.size<=B) (op:Int) (bk nm dt mt nn tk:ByteArray) (pos:Int) (hl:bk.size<=1048576/\nm.size<=1048576/\dt.size<=1048576/\mt.size<=1048576/\nn.size<=1048576/\tk.size<=1048576/\0<=pos/\pos<=1048576) (hchg:s.chg < 4611686018427387904) :
    Calls Tryz.prog 9 #[pv sb,.agg #[.int .i64 op,.string bk,.string nm,.string dt,.string mt,.string nn,.string tk,.slice none 0 0,.int .i64 pos,.int .i64 0,.int .i64 0]] wr fun e w'=>(∃ tok ao m c,e=.returned (repV ((doC envP s (cmdD op bk nm dt mt nn tk [] pos)).2.st:Int) ((doC envP s (cmdD op bk nm dt mt nn tk [] pos)).2.tag:Int) ⟨(doC envP s (cmdD op bk nm dt mt nn tk [] pos)).2.data.toArray⟩ (.slice ao m c) tok))/\AtX B sb X w (doC envP s (cmdD op bk nm dt mt nn tk [] pos)).1 w'/\∀ k∈X,w'.heap[k]?=wr.heap[k]?:=by
  obtain ⟨F,h1,h2,h3,h4⟩:=h
  refine (Bo.doN w wr B sb F s op bk nm dt mt nn tk pos h2 h1 hB hl hchg).mono ?_
  rintro e w' ⟨v,rfl,⟨ev,rfl,hrow⟩,F',k1,k2,k3,k4,_⟩
  obtain ⟨ao,m,c,rfl⟩:=row_form hrow
  refine ⟨⟨_,_,_,_,rfl⟩,⟨F',k1,k4,k3.below h3 (fun k hk=>Nat.le_trans hB (h1.low k hk)) h3.size,fun k hk=>⟨fun hm=>?_,Nat.lt_of_lt_of_le (h4 k hk).2 k3.size⟩⟩,fun k hk=>k3.block k (h4 k hk).2 (h4 k hk).1⟩
  rcases k2 k hm with hf | hf
  · exact (h4 k hk).1 hf
  · have:=(h4 k hk).2;omega
end
end Bo
namespace Cd
open Go.Lib Go.RowKit
open Bo (Kp Row ownsRow_heap sv sv_data)
def RowsAt {α:Type} (size:Nat) (enc:α->List Value) (w:World) (v:Value) (xs:List α):Prop :=
  ∃ (A:Option Addr) (b off c:Nat),v=.slice A xs.length c/\xs.length<=c/\c<=maxLen/\(0 < xs.length->A=some ⟨b,off,none⟩/\b < w.heap.size)/\
    ∀ (j:Nat) (x:α),xs[j]?=some x->∀ (q:Nat) (u:Value),(enc x)[q]?=some u->w.cell? ⟨b,off+j*size+q,none⟩=some u
section
variable {α:Type} {size:Nat} {enc:α->List Value}
theorem RowsAt.kept {w w':World} {v:Value} {xs:List α} (h:RowsAt size enc w v xs) (hb:Below w.heap.size w w'):RowsAt size enc w' v xs:=by
  obtain ⟨A,b,off,c,h1,h2,h3,h4,h5⟩:=h
  refine ⟨A,b,off,c,h1,h2,h3,fun hl=>⟨(h4 hl).1,Nat.lt_of_lt_of_le (h4 hl).2 hb.size⟩,fun j x hj q u hu=>?_⟩
  have hlt:=(h4 (by have:=(List.getElem?_eq_some_iff.1 hj).1;omega)).2
  rw [hb.cell (p:=⟨b,off+j*size+q,none⟩) hlt]
  exact h5 j x hj q u hu
theorem RowsAt.nil (w:World):RowsAt size enc w (.slice none 0 0) ([]:List α) :=
  ⟨none,0,0,0,rfl,by simp,by unfold maxLen;omega,fun h=>absurd h (by simp),fun j x hj=>by simp at hj⟩
end
def encS (s:Row):List Value:=[sv s]
abbrev StrsAt (w:World) (v:Value) (ls:List Row):Prop:=RowsAt 1 encS w v ls
theorem rows_one {α:Type} {enc:α->List Value} {f:α->Value} (hf:∀ x,enc x=[f x]) {w:World} {v:Value} {xs:List α} (h:RowsAt 1 enc w v xs):∃ (A:Option Addr) (b off c:Nat),v=.slice A xs.length c/\xs.length<=c/\c<=maxLen/\(0 < xs.length->A=some ⟨b,off,none⟩/\b < w.heap.size)/\∀ (j:Nat) (x:α),xs[j]?=some x->w.cell? ⟨b,off+j,none⟩=some (f x):=by
  obtain ⟨A,b,off,c,h1,h2,h3,h4,h5⟩:=h
  refine ⟨A,b,off,c,h1,h2,h3,h4,fun j x hj=>?_⟩
  have:=h5 j x hj 0 (f x) (by rw [hf];rfl)
  rw [Nat.mul_one,Nat.add_zero] at this
  exact this
end Cd
namespace Kc
open Go.Lib Go.RowKit Go.ChangeShapes Go.WideShapes Go.ChangeAt Go.Deep Cd
open Bo (Row sv sv_data)
structure Cm where
  op:Int
  bk:ByteArray
  nm:ByteArray
  dt:ByteArray
  mt:ByteArray
  nn:ByteArray
  tk:ByteArray
  names:List Row
  pos:Int
  ses:Int
  seq:Int
def i64 (z:Int):Prop:=-9223372036854775808<=z/\z<=9223372036854775807
structure Cm.Wf (c:Cm):Prop where
  op:i64 c.op
  pos:i64 c.pos
  ses:i64 c.ses
  seq:i64 c.seq
theorem wf_i64 {z:Int} (h:(Lit.int .i64 z).wf=true):i64 z:=by
  simp [Lit.wf,IntKind.min,IntKind.max,IntKind.signed,IntKind.bits] at h
  unfold i64
  omega
def szN (l:List Row):Nat:=(l.map fun x=>x.length+1).sum
def Cm.sz (c:Cm):Nat:=c.bk.size+c.nm.size+c.dt.size+c.mt.size+c.nn.size+c.tk.size+szN c.names
def cells (c:Cm) (nv:Value):List Value:=[.int .i64 c.op,.string c.bk,.string c.nm,.string c.dt,.string c.mt,.string c.nn,.string c.tk,nv,.int .i64 c.pos,.int .i64 c.ses,.int .i64 c.seq]
def CmsAt (w:World) (v:Value) (t:List Cm):Prop :=
  ∃ (A:Option Addr) (b off c:Nat),v=.slice A t.length c/\t.length<=c/\c<=maxLen/\(0 < t.length->A=some ⟨b,off,none⟩/\b < w.heap.size)/\
    ∀ (j:Nat) (r:Cm),t[j]?=some r->r.Wf/\∃ nv,StrsAt w nv r.names/\∀ (q:Nat) (u:Value),(cells r nv)[q]?=some u->w.cell? ⟨b,off+j*11+q,none⟩=some u
theorem szN_sum (l:List Row):l.length<=szN l:=by
  unfold szN
  induction l with
  | nil=>simp
  | cons x r ih=>simp only [List.map_cons,List.sum_cons,List.length_cons];omega
theorem szN_mem {l:List Row} {x:Row} (h:x∈l):x.length<=szN l:=by
  unfold szN
  induction l with
  | nil=>cases h
  | cons y r ih =>
    simp only [List.map_cons,List.sum_cons]
    rcases List.mem_cons.1 h with rfl | h
    · omega
    · have:=ih h;omega
theorem listed {α:Type} (P:Nat->α->Prop):∀ n,(∀ i,i < n->∃ x,P i x)->∃ xs:List α,xs.length=n/\∀ (i:Nat) (x:α),xs[i]?=some x->P i x
  | 0,_=>⟨[],rfl,fun i x h=>by simp at h⟩
  | n + 1,h=>by
    obtain ⟨xs,hl,hx⟩:=listed P n (fun i hi=>h i (by omega))
    obtain ⟨x,hxn⟩:=h n (by omega)
    refine ⟨xs++[x],by simp [hl],fun i y hy=>?_⟩
    by_cases hi:i < n
    · rw [List.getElem?_append_left (by omega)] at hy
      exact hx i y hy
    · rw [List.getElem?_append_right (by omega)] at hy
      have h0:i - xs.length=0:=by have:=(List.getElem?_eq_some_iff.1 hy).1;simp at this;omega
      rw [h0] at hy
      simp at hy
      subst hy
      rw [show i=n by omega]
      exact hxn
theorem spot_none {W:World} {a:Addr} {v:Value} (h:W.cell? a=some v):a.spot=none:=by
  cases hs:a.spot with
  | none=>rfl
  | some x =>
    exfalso
    unfold World.cell? at h
    rw [hs] at h
    split at h<;>simp at h
theorem add_spot (a:Addr) (h:(a.add 0).spot=none):a=⟨a.block,a.off,none⟩:=by
  obtain ⟨b,off,spot⟩:=a
  unfold Addr.add at h
  split at h<;>simp_all
theorem add_is (b off i:Nat):(⟨b,off,none⟩:Addr).add i=⟨b,off+i,none⟩:=by
  unfold Addr.add
  split
  · rename_i h;subst h;rfl
  · rfl
variable {H:Type} {enc:TypeId × Value->H}
theorem bulk_string (b:List UInt8):Rows.uptoBulk (DataW.lit (H:=H) (.string b))=b.length+1:=by rw [Rows.uptoBulk]
theorem bulk_sum {α:Type} (f:α->Nat):∀ (xs:List α) (D:Nat->DataW H),(∀ (i:Nat) (x:α),xs[i]?=some x->f x<=Rows.uptoBulk (D i))->(xs.map f).sum<=Rows.uptoBulkAll ((List.range xs.length).map D)
  | [],D,_=>by simp
  | x :: xs,D,h=>by
    have h0:=h 0 x rfl
    have ih:=bulk_sum f xs (fun i=>D (i+1)) (fun i y hy=>h (i+1) y (by simpa using hy))
    rw [List.length_cons,List.range_succ_eq_map,List.map_cons,List.map_cons,List.map_map,List.sum_cons,Rows.uptoBulkAll]
    have e:(D ∘ Nat.succ)=fun i=>D (i+1):=rfl
    rw [e]
    omega
theorem strs_trod {W:World} {fuel:Nat} {v:Value} {x:DataW H × List MemPlace} (h:DataW.trod enc Tryz.prog W 0 (fun _=>true) true fuel 32 [v]=some x):∃ ls,StrsAt W v ls/\szN ls<=Rows.uptoBulk x.1:=by
  have hce:Tryz.prog.cellsOf 9=1:=by kernel_rfl
  rcases open_slice1 Tryz.underlying32 hce h with ⟨hcs,hx⟩ | ⟨a,len,cap,m,n,V,D,Pl,hcs,_,hl,hm,hmm,hx,hi⟩
  · simp at hcs
    subst hcs
    exact ⟨[],RowsAt.nil W,Nat.zero_le _⟩
  · simp at hcs
    subst hcs
    simp only [if_true] at hmm
    obtain ⟨qs,hqs,hp⟩:=listed (fun i (p:Row)=>W.cell? (a.add i)=some (sv p)/\p.length+1<=Rows.uptoBulk (D i)) len (fun i hil=>by
      obtain ⟨hc,ht⟩:=hi i (by omega)
      obtain ⟨s,hs,hx,_⟩:=DataW.trod_string Tryz.underlying9 ht
      simp at hs
      obtain ⟨hx1,_⟩:=Prod.mk.inj hx
      refine ⟨s.data.toList,by rw [sv_data,hc,hs],?_⟩
      rw [hx1,bulk_string]
      omega)
    have key:0 < qs.length->a=⟨a.block,a.off,none⟩/\a.block < W.heap.size:=fun h0=>by
      have h1:qs[0]?=some (qs[0]'h0):=List.getElem?_eq_getElem _
      have h2:=(hp 0 _ h1).1
      have h3:=add_spot a (spot_none h2)
      have h4:=World.block_lt_of_cell? W (a.add 0) h2
      rw [h3,add_is] at h4
      exact ⟨h3,h4⟩
    refine ⟨qs,⟨some a,a.block,a.off,cap,by rw [hqs],by omega,hm,fun h0=>?_,fun j p hj q u hu=>?_⟩,?_⟩
    · obtain ⟨h3,h4⟩:=key h0
      exact ⟨by rw [<-h3],h4⟩
    · obtain ⟨g0,_⟩:=hp j p hj
      obtain ⟨h3,_⟩:=key (by have:=(List.getElem?_eq_some_iff.1 hj).1;omega)
      rw [h3,add_is] at g0
      match q,hu with
      | 0,hu =>
        simp [Cd.encS] at hu
        subst hu
        rw [Nat.mul_one,Nat.add_zero]
        exact g0
      | q+1,hu=>simp [Cd.encS] at hu
    · rw [hx,Rows.uptoBulk]
      have:=bulk_sum (fun p:Row=>p.length+1) qs D (fun i p hip=>(hp i p hip).2)
      rw [hqs] at this
      unfold szN
      omega
theorem cmd_trod {W:World} {fuel:Nat} {cs:List Value} {x:DataW H × List MemPlace} (hl:cs.length=11) (h:DataW.trod enc Tryz.prog W 0 (fun _=>true) true fuel 34 cs=some x):∃ (c:Cm) (nv:Value),cs=cells c nv/\StrsAt W nv c.names/\c.sz<=Rows.uptoBulk x.1/\c.Wf:=by
  have h1s:Tryz.prog.cellsOf 9=1:=by kernel_rfl
  have h1i:Tryz.prog.cellsOf 3=1:=by kernel_rfl
  have h1o:Tryz.prog.cellsOf 31=1:=by kernel_rfl
  have h1v:Tryz.prog.cellsOf 32=1:=by kernel_rfl
  obtain ⟨xs,n',_,hx,_,hlen,hft⟩:=DataW.trod_struct Tryz.underlying34 h
  match cs,hl with
  | [c0,c1,c2,c3,c4,c5,c6,c7,c8,c9,c10],_ =>
    match xs,hlen with
    | [y0,y1,y2,y3,y4,y5,y6,y7,y8,y9,y10],_ =>
      have ht0:DataW.trod enc Tryz.prog W 0 (fun _=>true) true n' 31 (([c0,c1,c2,c3,c4,c5,c6,c7,c8,c9,c10].drop 0).take (Tryz.prog.cellsOf 31))=some y0:=hft 0 _ rfl
      have ht1:DataW.trod enc Tryz.prog W 0 (fun _=>true) true n' 9 (([c0,c1,c2,c3,c4,c5,c6,c7,c8,c9,c10].drop 1).take (Tryz.prog.cellsOf 9))=some y1:=hft 1 _ rfl
      have ht2:DataW.trod enc Tryz.prog W 0 (fun _=>true) true n' 9 (([c0,c1,c2,c3,c4,c5,c6,c7,c8,c9,c10].drop 2).take (Tryz.prog.cellsOf 9))=some y2:=hft 2 _ rfl
      have ht3:DataW.trod enc Tryz.prog W 0 (fun _=>true) true n' 9 (([c0,c1,c2,c3,c4,c5,c6,c7,c8,c9,c10].drop 3).take (Tryz.prog.cellsOf 9))=some y3:=hft 3 _ rfl
      have ht4:DataW.trod enc Tryz.prog W 0 (fun _=>true) true n' 9 (([c0,c1,c2,c3,c4,c5,c6,c7,c8,c9,c10].drop 4).take (Tryz.prog.cellsOf 9))=some y4:=hft 4 _ rfl
      have ht5:DataW.trod enc Tryz.prog W 0 (fun _=>true) true n' 9 (([c0,c1,c2,c3,c4,c5,c6,c7,c8,c9,c10].drop 5).take (Tryz.prog.cellsOf 9))=some y5:=hft 5 _ rfl
      have ht6:DataW.trod enc Tryz.prog W 0 (fun _=>true) true n' 9 (([c0,c1,c2,c3,c4,c5,c6,c7,c8,c9,c10].drop 6).take (Tryz.prog.cellsOf 9))=some y6:=hft 6 _ rfl
      have ht7:DataW.trod enc Tryz.prog W 0 (fun _=>true) true n' 32 (([c0,c1,c2,c3,c4,c5,c6,c7,c8,c9,c10].drop 7).take (Tryz.prog.cellsOf 32))=some y7:=hft 7 _ rfl
      have ht8:DataW.trod enc Tryz.prog W 0 (fun _=>true) true n' 3 (([c0,c1,c2,c3,c4,c5,c6,c7,c8,c9,c10].drop 8).take (Tryz.prog.cellsOf 3))=some y8:=hft 8 _ rfl
      have ht9:DataW.trod enc Tryz.prog W 0 (fun _=>true) true n' 3 (([c0,c1,c2,c3,c4,c5,c6,c7,c8,c9,c10].drop 9).take (Tryz.prog.cellsOf 3))=some y9:=hft 9 _ rfl
      have ht10:DataW.trod enc Tryz.prog W 0 (fun _=>true) true n' 3 (([c0,c1,c2,c3,c4,c5,c6,c7,c8,c9,c10].drop 10).take (Tryz.prog.cellsOf 3))=some y10:=hft 10 _ rfl
      simp only [h1s,h1i,h1o,h1v,List.drop_zero,List.take_succ_cons,List.take_zero,List.drop_succ_cons] at ht0 ht1 ht2 ht3 ht4 ht5 ht6 ht7 ht8 ht9 ht10
      obtain ⟨n0,hs0,hx0,hw0⟩:=DataW.trod_int Tryz.underlying31 ht0
      obtain ⟨s1,hs1,hx1,_⟩:=DataW.trod_string Tryz.underlying9 ht1
      obtain ⟨s2,hs2,hx2,_⟩:=DataW.trod_string Tryz.underlying9 ht2
      obtain ⟨s3,hs3,hx3,_⟩:=DataW.trod_string Tryz.underlying9 ht3
      obtain ⟨s4,hs4,hx4,_⟩:=DataW.trod_string Tryz.underlying9 ht4
      obtain ⟨s5,hs5,hx5,_⟩:=DataW.trod_string Tryz.underlying9 ht5
      obtain ⟨s6,hs6,hx6,_⟩:=DataW.trod_string Tryz.underlying9 ht6
      obtain ⟨ls,hls,hb⟩:=strs_trod ht7
      obtain ⟨n8,hs8,hx8,hw8⟩:=DataW.trod_int Tryz.underlying3 ht8
      obtain ⟨n9,hs9,hx9,hw9⟩:=DataW.trod_int Tryz.underlying3 ht9
      obtain ⟨n10,hs10,hx10,hw10⟩:=DataW.trod_int Tryz.underlying3 ht10
      simp at hs0 hs1 hs2 hs3 hs4 hs5 hs6 hs8 hs9 hs10
      subst hs0;subst hs1;subst hs2;subst hs3;subst hs4;subst hs5;subst hs6;subst hs8;subst hs9;subst hs10
      refine ⟨⟨n0,s1,s2,s3,s4,s5,s6,ls,n8,n9,n10⟩,c7,rfl,hls,?_,⟨wf_i64 hw0,wf_i64 hw8,wf_i64 hw9,wf_i64 hw10⟩⟩
      have hx':x.1=.agg [y0.1,y1.1,y2.1,y3.1,y4.1,y5.1,y6.1,y7.1,y8.1,y9.1,y10.1]:=by rw [hx];rfl
      have z:∀ s:ByteArray,s.size=s.data.toList.length:=fun s=>Lib.size_eq s
      rw [hx',Rows.uptoBulk]
      simp only [Rows.uptoBulkAll,hx1,hx2,hx3,hx4,hx5,hx6,bulk_string]
      unfold Cm.sz
      simp only [z]
      omega
theorem cmds_open {base:Nat} {W:World} {v:Value} {d:DataW H} {ps:List MemPlace} (hval:Value.okWide Tryz.prog W .any base 22 v) (h:DataW.Trod enc Tryz.prog W 0 (fun _=>true) true 22 v d ps) :
    ∃ qs,CmsAt W v qs/\(qs.map Cm.sz).sum<=Rows.uptoBulk d:=by
  obtain ⟨a0,len0,cap0,rfl⟩:=okWide_slice Tryz.underlying22 hval
  obtain ⟨fuel,hf⟩:=h
  have hce:Tryz.prog.cellsOf 34=11:=by kernel_rfl
  rcases open_slice Tryz.underlying22 hf with ⟨hcs,hx⟩ | ⟨a,len,cap,m,n,D,Pl,hcs,_,hl,hm,hmm,hx,hi⟩
  · simp [Value.cells] at hcs
    obtain ⟨rfl,rfl,rfl⟩:=hcs
    exact ⟨[],⟨none,0,0,0,rfl,by simp,Nat.zero_le _,fun h=>absurd h (by simp),fun j p h=>by simp at h⟩,Nat.zero_le _⟩
  · simp [Value.cells] at hcs
    obtain ⟨rfl,rfl,rfl⟩:=hcs
    simp only [if_true] at hmm
    rw [hce] at hi
    obtain ⟨qs,hqs,hp⟩:=listed (fun i (p:Cm)=>p.Wf/\(∃ nv,StrsAt W nv p.names/\∀ (q:Nat) (u:Value),(cells p nv)[q]?=some u->W.cell? ((a.add (i*11)).add q)=some u)/\p.sz<=Rows.uptoBulk (D i)) len0 (fun i hil=>by
      obtain ⟨cs',hc,ht⟩:=hi i (by omega)
      obtain ⟨_,hcl,hat⟩:=World.cells?_some hc
      obtain ⟨c,nv,rfl,hns,hsz,hwf⟩:=cmd_trod hcl ht
      refine ⟨c,hwf,⟨nv,hns,fun q u hu=>?_⟩,hsz⟩
      have hq:=(List.getElem?_eq_some_iff.1 hu).1
      have:=hat q (by rw [hcl] at hq;exact hq)
      rw [this]
      simpa using hu)
    have key:0 < qs.length->a=⟨a.block,a.off,none⟩/\a.block < W.heap.size:=fun h0=>by
      have h1:qs[0]?=some (qs[0]'h0):=List.getElem?_eq_getElem _
      obtain ⟨_,⟨nv,_,h2⟩,_⟩:=hp 0 _ h1
      have h2:=h2 0 _ rfl
      rw [Nat.zero_mul] at h2
      have ez:(a.add 0).add 0=a.add 0:=by unfold Addr.add;simp
      rw [ez] at h2
      have h3:=add_spot a (spot_none h2)
      have h4:=World.block_lt_of_cell? W (a.add 0) h2
      rw [h3,add_is] at h4
      exact ⟨h3,h4⟩
    refine ⟨qs,⟨some a,a.block,a.off,cap0,by rw [hqs],by omega,hm,fun h0=>?_,fun j p hj=>?_⟩,?_⟩
    · obtain ⟨h3,h4⟩:=key h0
      exact ⟨by rw [<-h3],h4⟩
    · obtain ⟨hwf,⟨nv,hns,g⟩,_⟩:=hp j p hj
      obtain ⟨h3,_⟩:=key (by have:=(List.getElem?_eq_some_iff.1 hj).1;omega)
      refine ⟨hwf,nv,hns,fun q u hu=>?_⟩
      have:=g q u hu
      rw [h3,add_is,add_is] at this
      exact this
    · have hx1:=(Prod.mk.inj hx).1
      rw [hx1,Rows.uptoBulk]
      have:=bulk_sum Cm.sz qs D (fun i p hip=>(hp i p hip).2.2)
      rw [hqs] at this
      omega
end Kc
namespace Bo
open Go.Lib Go.RowKit
def oN:Row:=[111,119,110]
abbrev oB:ByteArray:=⟨#[111,119,110]⟩
def bo1:Bk:=⟨[111,119,110],1,1,[],[]⟩
def so1:Sh:=⟨1,[bo1]⟩
def bo2:Bk:=⟨[111,119,110],1,1,[⟨[120],2,cardN 3⟩],[⟨2,[120],false⟩]⟩
def so2:Sh:=⟨2,[bo2]⟩
theorem o_make:doC envP ⟨0,[]⟩ (cmdD 1 oB zB zB zB zB zB [] 0)=(so1,{ st:=201,tag:=1 }):=by kernel_rfl
theorem o_put:doC envP so1 (cmdD 3 oB xB ⟨(cardN (letN 3)).toArray⟩ zB zB zB [] 0)=(so2,{ st:=201,tag:=2 }):=by kernel_rfl
theorem o_tok:envP.prT 1 2=t2R:=by kernel_rfl
theorem o_par:envP.paT t2R=some (1,2):=by kernel_rfl
structure ApInv (s:Sh) (k:Nat):Prop where
  at_:bkAt s oN=some bo2
  low:2<=s.chg
  high:s.chg<=k+2
theorem ap_start:ApInv so2 0:=⟨rfl,Nat.le_refl _,Nat.le_refl _⟩
theorem ap_do {s:Sh} {k:Nat} (h:ApInv s k) (c:Cmd) (hc:c.book≠oN):ApInv (doC envP s c).1 (k+1):=by
  have h1:=doC_chg envP s c
  exact ⟨(doC_other envP s c hc).trans h.at_,Nat.le_trans h.low h1.1,by have:=h.high;omega⟩
def eX:Ent:=⟨[120],2,[],false⟩
theorem ap_list {s:Sh} {k:Nat} (h:ApInv s k):doC envP s (cmdD 6 oB zB zB zB zB zB [] 0)=(s,{ st:=207,ents:=[eX],tok:=envP.prT 1 s.chg }):=by
  have hb:bkAt s (cmdD 6 oB zB zB zB zB zB [] 0).book=some bo2:=h.at_
  have hop:(cmdD 6 oB zB zB zB zB zB [] 0).op=6:=rfl
  have hbk:(cmdD 6 oB zB zB zB zB zB [] 0).book≠[]:=by decide
  unfold doC
  rw [if_neg (by omega),if_neg (by omega),if_neg (fun h=>hbk h.2),hb]
  simp only
  rw [if_neg (by omega),if_neg (by omega)]
  unfold onB
  rw [if_neg (by omega),if_neg (by omega),if_neg (by omega),if_pos hop]
  rfl
theorem ap_since {k:Nat} (h:2<=k):since bo2 2=[]:=by kernel_rfl
theorem ap_sync {s:Sh} {k:Nat} (h:ApInv s k):doC envP s (cmdD 7 oB zB zB zB zB ⟨t2R.toArray⟩ [] 0)=(s,{ st:=207,ents:=[],tok:=envP.prT 1 s.chg }):=by
  have hb:bkAt s (cmdD 7 oB zB zB zB zB ⟨t2R.toArray⟩ [] 0).book=some bo2:=h.at_
  have hop:(cmdD 7 oB zB zB zB zB ⟨t2R.toArray⟩ [] 0).op=7:=rfl
  have htk:(cmdD 7 oB zB zB zB zB ⟨t2R.toArray⟩ [] 0).tok=t2R:=rfl
  unfold doC
  rw [if_neg (by omega),if_neg (by omega),if_neg (fun h=>by omega),hb]
  simp only
  rw [if_neg (by omega),if_neg (by omega)]
  unfold onB
  rw [if_neg (by omega),if_neg (by omega),if_neg (by omega),if_neg (by omega),if_pos hop]
  unfold syncB
  rw [htk,if_neg (by decide),o_par]
  simp only
  have h1:(1:Nat)=bo2.made/\bo2.hor<=2/\2<=s.chg:=⟨rfl,by decide,h.low⟩
  rw [if_pos h1,ap_since (Nat.le_refl 2)]
  rfl
section
variable {B sb:Nat} {X:List Nat} {w wr w':World} {s:Sh}
theorem AtX.sub {Y:List Nat} (h:AtX B sb X w s wr) (hs:∀ k∈Y,k∈X):AtX B sb Y w s wr:=by
  obtain ⟨F,h1,h2,h3,h4⟩:=h
  exact ⟨F,h1,h2,h3,fun k hk=>h4 k (hs k hk)⟩
theorem AtX.lt (h:AtX B sb X w s wr) {k:Nat} (hk:k∈X):k < wr.heap.size:=by
  obtain ⟨F,h1,h2,h3,h4⟩:=h
  exact (h4 k hk).2
theorem AtX.doS (h:AtX B sb X w s wr) (hB:w.heap.size<=B) (op:Int) (bk nm dt mt nn tk:ByteArray) (ns:List Row) (nv:Value) (hnv:Li.StrsAt wr nv ns) (pos ses sq:Int) (hC:CmdOk bk nm dt mt nn tk ns pos) (hchg:s.chg < 4611686018427387904) :
    Calls Tryz.prog 9 #[pv sb,.agg #[.int .i64 op,.string bk,.string nm,.string dt,.string mt,.string nn,.string tk,nv,.int .i64 pos,.int .i64 ses,.int .i64 sq]] wr fun e w'=>(∃ v,e=.returned v)/\AtX B sb X w (doC envP s (cmdD op bk nm dt mt nn tk ns pos)).1 w'/\∀ k∈X,w'.heap[k]?=wr.heap[k]?:=by
  obtain ⟨F,h1,h2,h3,h4⟩:=h
  refine (Bo.doS w wr B sb F s op bk nm dt mt nn tk ns nv hnv pos ses sq h2 h1 hB hC hchg).mono ?_
  rintro e w' ⟨v,rfl,_,F',k1,k2,k3,k4,_⟩
  refine ⟨⟨_,rfl⟩,⟨F',k1,k4,k3.below h3 (fun k hk=>Nat.le_trans hB (h1.low k hk)) h3.size,fun k hk=>⟨fun hm=>?_,Nat.lt_of_lt_of_le (h4 k hk).2 k3.size⟩⟩,fun k hk=>k3.block k (h4 k hk).2 (h4 k hk).1⟩
  rcases k2 k hm with hf | hf
  · exact (h4 k hk).1 hf
  · have:=(h4 k hk).2;omega
theorem AtX.doE (h:AtX B sb X w s wr) (hB:w.heap.size<=B) (op:Int) (bk nm dt mt nn tk:ByteArray) (pos:Int) (hl:bk.size<=1048576/\nm.size<=1048576/\dt.size<=1048576/\mt.size<=1048576/\nn.size<=1048576/\tk.size<=1048576/\0<=pos/\pos<=1048576) (hchg:s.chg < 4611686018427387904) :
    Calls Tryz.prog 9 #[pv sb,.agg #[.int .i64 op,.string bk,.string nm,.string dt,.string mt,.string nn,.string tk,.slice none 0 0,.int .i64 pos,.int .i64 0,.int .i64 0]] wr fun e w'=>∃ ev,e=.returned (repV ((doC envP s (cmdD op bk nm dt mt nn tk [] pos)).2.st:Int) ((doC envP s (cmdD op bk nm dt mt nn tk [] pos)).2.tag:Int) ⟨(doC envP s (cmdD op bk nm dt mt nn tk [] pos)).2.data.toArray⟩ ev ⟨(doC envP s (cmdD op bk nm dt mt nn tk [] pos)).2.tok.toArray⟩)/\w'.ownsRow wr.heap.size 38 4 ev (doC envP s (cmdD op bk nm dt mt nn tk [] pos)).2.ents.length (ec (doC envP s (cmdD op bk nm dt mt nn tk [] pos)).2.ents)/\AtX B sb (ev.ownBlock.toList++X) w (doC envP s (cmdD op bk nm dt mt nn tk [] pos)).1 w'/\∀ k∈X,w'.heap[k]?=wr.heap[k]?:=by
  obtain ⟨F,h1,h2,h3,h4⟩:=h
  refine (Bo.doN w wr B sb F s op bk nm dt mt nn tk pos h2 h1 hB hl hchg).mono ?_
  rintro e w' ⟨v,rfl,⟨ev,rfl,hrow⟩,F',k1,k2,k3,k4,k5⟩
  refine ⟨ev,rfl,hrow,⟨F',k1,k4,k3.below h3 (fun k hk=>Nat.le_trans hB (h1.low k hk)) h3.size,fun k hk=>?_⟩,fun k hk=>k3.block k (h4 k hk).2 (h4 k hk).1⟩
  rcases List.mem_append.1 hk with hk | hk
  · have hk':ev.ownBlock=some k:=by simpa using hk
    exact ⟨k5 _ _ _ _ _ rfl k hk',(World.ownsRow.lt hrow k hk').2⟩
  · refine ⟨fun hm=>?_,Nat.lt_of_lt_of_le (h4 k hk).2 k3.size⟩
    rcases k2 k hm with hf | hf
    · exact (h4 k hk).1 hf
    · have:=(h4 k hk).2;omega
end
structure EAt (w:World) (g:Nat):Prop where
  c0:w.cell? ⟨g,0,none⟩=some (.string ⟨#[120]⟩)
  c1:w.cell? ⟨g,1,none⟩=some (.int .i64 2)
  c2:w.cell? ⟨g,2,none⟩=some (.string ⟨#[]⟩)
  c3:w.cell? ⟨g,3,none⟩=some (.bool false)
theorem EAt.heap {w w':World} {g:Nat} (h:EAt w g) (hk:w'.heap[g]?=w.heap[g]?):EAt w' g:=by
  have e:∀ q,w'.cell? ⟨g,q,none⟩=w.cell? ⟨g,q,none⟩:=fun q=>by simp [World.cell?,hk]
  exact ⟨(e 0).trans h.c0,(e 1).trans h.c1,(e 2).trans h.c2,(e 3).trans h.c3⟩
theorem row_one {w:World} {B:Nat} {v:Value} (h:w.ownsRow B 38 4 v 1 (ec [eX])):∃ g cap,v=.slice (some ⟨g,0,none⟩) 1 cap/\EAt w g/\g < w.heap.size/\1<=cap/\cap<=maxLen:=by
  rcases h.2 with ⟨_,h0⟩ | ⟨g,cap,cur,e1,e2,e3,e4,e5,e6,e7⟩
  · omega
  · have hq:∀ q,q < 4->w.cell? ⟨g,q,none⟩=(ec [eX])[q]?:=fun q hq=>by
      rw [Lib.cell_of_heap e3]
      have:(cur.toList.take (1*4))[q]?=(ec [eX])[q]?:=by rw [e7]
      rw [List.getElem?_take,if_pos (by omega)] at this
      rw [<-Array.getElem?_toList,this]
    exact ⟨g,cap,e1,⟨hq 0 (by decide),hq 1 (by decide),hq 2 (by decide),hq 3 (by decide)⟩,(Array.getElem?_eq_some_iff.1 e3).1,e4,e5⟩
theorem neq_ent (w:World):(binOp .neq 38 (.agg #[.string ⟨#[120]⟩,.int .i64 2,.string ⟨#[]⟩,.bool false]) (.agg #[.string ⟨#[120]⟩,.int .i64 2,.string ⟨#[]⟩,.bool false])).run Tryz.prog w=.ok (.bool false) w:=by kernel_rfl
theorem below_drewN {a w:World} (n:Nat) (h:Below a.heap.size a w):Below a.heap.size a (w.drewN n):=⟨h.os,h.tape,h.output,h.size,h.block⟩
theorem same_any (w:World) (g1 g2 c1 c2:Nat) (h1:EAt w g1) (h2:EAt w g2) (l1:g1 < w.heap.size) (l2:g2 < w.heap.size) :
    Calls Tryz.prog 14 #[.agg #[.int .i64 207,.int .i64 0,.string ⟨#[]⟩,.slice (some ⟨g1,0,none⟩) 1 c1,.string ⟨#[]⟩],.agg #[.int .i64 207,.int .i64 0,.string ⟨#[]⟩,.slice (some ⟨g2,0,none⟩) 1 c2,.string ⟨#[]⟩]] w fun e w'=>e=.returned (.bool true)/\Below w.heap.size w w':=by
  obtain ⟨wA,hwA⟩:∃ wA,w.alloc (.cells #[.int .i64 207,.int .i64 0,.string ⟨#[]⟩,.slice (some ⟨g1,0,none⟩) 1 c1,.string ⟨#[]⟩] 29)=wA:=⟨_,rfl⟩
  obtain ⟨wB,hwB⟩:∃ wB,wA.alloc (.cells #[.int .i64 207,.int .i64 0,.string ⟨#[]⟩,.slice (some ⟨g2,0,none⟩) 1 c2,.string ⟨#[]⟩] 29)=wB:=⟨_,rfl⟩
  have hbA:Below w.heap.size w wA:=by rw [<-hwA];exact (Below.refl _ _).alloc (Nat.le_refl _) _
  have hbB:Below wA.heap.size wA wB:=by rw [<-hwB];exact (Below.refl _ _).alloc (Nat.le_refl _) _
  have hA1:wA.heap[w.heap.size]?=some (.cells #[.int .i64 207,.int .i64 0,.string ⟨#[]⟩,.slice (some ⟨g1,0,none⟩) 1 c1,.string ⟨#[]⟩] 29 (0,0)):=by rw [<-hwA];exact heap_alloc_new w _
  have hB1:wB.heap[wA.heap.size]?=some (.cells #[.int .i64 207,.int .i64 0,.string ⟨#[]⟩,.slice (some ⟨g2,0,none⟩) 1 c2,.string ⟨#[]⟩] 29 (0,0)):=by rw [<-hwB];exact heap_alloc_new wA _
  have hA2:=(hbB.block _ (Array.getElem?_eq_some_iff.1 hA1).1).trans hA1
  have hbw:Below w.heap.size w wB:=hbA.trans (hbB.mono hbA.size)
  have e1:=h1.heap (hbw.block g1 l1)
  have e2:=h2.heap (hbw.block g2 l2)
  obtain ⟨a,ha⟩:∃ a,w.heap.size=a:=⟨_,rfl⟩
  obtain ⟨b,hb⟩:∃ b,wA.heap.size=b:=⟨_,rfl⟩
  rw [ha] at hA2
  rw [hb] at hB1
  have hbw':=Lib.hid hbw
  have hX:=Lib.hid (And.intro hA2 (And.intro hB1 (And.intro e1 e2)))
  have a0:=Lib.cell_of_heap hA2 0
  have a1:=Lib.cell_of_heap hA2 1
  have a2:=Lib.cell_of_heap hA2 2
  have a3:=Lib.cell_of_heap hA2 3
  have a4:=Lib.cell_of_heap hA2 4
  have b0:=Lib.cell_of_heap hB1 0
  have b1:=Lib.cell_of_heap hB1 1
  have b2:=Lib.cell_of_heap hB1 2
  have b3:=Lib.cell_of_heap hB1 3
  have b4:=Lib.cell_of_heap hB1 4
  clear hbA hbB hA1 hB1 hA2 hbw e1 e2 h1 h2
  go_enter Tryz.func14,Tryz.ntmps14
  go_wp2
  go_loopw [44] (fun s44 wr=>∃ k:Nat,s44=.int .i64 (k:Int)/\k<=1/\Below wB.heap.size wB wr) (fun s44 _=>1 - (RowKit.intOf s44).toNat)
  case atStart=>exact ⟨0,by rfl,by decide,Below.refl _ _⟩
  case round =>
    obtain ⟨k,rfl,hk,hbr⟩:=hrel
    obtain ⟨hA2,hB1,e1,e2⟩:=hX.out
    have f1:=e1.heap (hbr.block g1 (Nat.lt_of_lt_of_le l1 hbw'.out.size))
    have f2:=e2.heap (hbr.block g2 (Nat.lt_of_lt_of_le l2 hbw'.out.size))
    have x3:=Lib.cell_of_heap ((hbr.block a (Array.getElem?_eq_some_iff.1 hA2).1).trans hA2) 3
    have y3:=Lib.cell_of_heap ((hbr.block b (Array.getElem?_eq_some_iff.1 hB1).1).trans hB1) 3
    by_cases hlt:k < 1
    · have hk0:k=0:=by omega
      have p0:wr.cell? ⟨g1,0+k*4,none⟩=some (.string ⟨#[120]⟩):=by rw [hk0];exact f1.c0
      have p1:wr.cell? ⟨g1,0+k*4+1,none⟩=some (.int .i64 2):=by rw [hk0];exact f1.c1
      have p2:wr.cell? ⟨g1,0+k*4+2,none⟩=some (.string ⟨#[]⟩):=by rw [hk0];exact f1.c2
      have p3:wr.cell? ⟨g1,0+k*4+3,none⟩=some (.bool false):=by rw [hk0];exact f1.c3
      have q0:wr.cell? ⟨g2,0+k*4,none⟩=some (.string ⟨#[120]⟩):=by rw [hk0];exact f2.c0
      have q1:wr.cell? ⟨g2,0+k*4+1,none⟩=some (.int .i64 2):=by rw [hk0];exact f2.c1
      have q2:wr.cell? ⟨g2,0+k*4+2,none⟩=some (.string ⟨#[]⟩):=by rw [hk0];exact f2.c2
      have q3:wr.cell? ⟨g2,0+k*4+3,none⟩=some (.bool false):=by rw [hk0];exact f2.c3
      simp only [Nat.zero_add] at p0 p1 p2 p3 q0 q1 q2 q3
      have hne:=neq_ent
      have hbr':=Lib.hid hbr
      clear hk0 hA2 hB1 e1 e2 f1 f2 hbr
      go_wp2
      go_quiet (fail)
      go_wp2
      go_roundw
      case rel=>exact ⟨k+1,by go_num,by omega,by first | exact hbr'.out | exact below_drewN _ hbr'.out | exact Below.drew hbr'.out⟩
      case measure=>simp [RowKit.intOf];omega
    · have hbr':=Lib.hid (hbw'.out.trans (hbr.mono hbw'.out.size))
      clear hA2 hB1 e1 e2 f1 f2 hbr
      go_wp2
      go_ret
      exact ⟨rfl,hbr'.out⟩
end Bo
end Go.Proofs.YtobfaibofhmpgaaGreatDoor
