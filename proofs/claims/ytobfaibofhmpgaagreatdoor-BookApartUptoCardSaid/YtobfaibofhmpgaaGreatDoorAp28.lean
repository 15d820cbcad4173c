import Derived.Test.YtobfaibofhmpgaaGreatDoorAp27
import Derived.Laws.StructEq
import Derived.Laws.Strings2
import Derived.ChangeKeysEq
import Derived.Laws.ResultCell
set_option linter.unusedVariables false
set_option maxHeartbeats 8000000
set_option maxRecDepth 100000
namespace Go.Proofs.YtobfaibofhmpgaaGreatDoor
namespace Co
open Go.Lib Go.RowKit Go.Shelf Sq
attribute [local go_sem] Oper.semAt_some
theorem splitSeq_any (s:ByteArray) (w:World) :
    Calls Tryz.prog 135 #[.string s,.string ⟨#[44]⟩] w fun e w'=>e=.returned (.func (.func 182) #[] #[.pointer (some ⟨w.heap.size+1,0,none⟩),.pointer (some ⟨w.heap.size,0,none⟩),.pointer (some ⟨w.heap.size+2,0,none⟩)])/\
      w'=((w.alloc (.cells #[.string s] 9)).alloc (.cells #[.string ⟨#[44]⟩] 9)).alloc (.cells #[.int .i64 0] 3):=by
  go_enter Tryz.func135,Tryz.ntmps135
  go_wp2_with (go_at_call 152;go_in)
  go_ret
  exact ⟨rfl,rfl⟩
def Inv (w:World) (T M:Nat) (pre:List ByteArray) (W:World):Prop :=
  ∃ (v:Value) (ts:List Nat),tagsOf (pre.map fun y=>y.data.toList)=some ts/\Boxed W T 23 v/\W.ownsRow M 3 1 v ts.length (ts.map iv)/\
    Res3 w.heap.size (.slice none 0 0) (.bool false) (.int .i64 0) W/\Below w.heap.size w W/\M<=W.heap.size
def InvX (w:World) (M:Nat) (l:Row) (c:Code) (pre:List ByteArray) (W:World):Prop :=
  c=.ret/\cond l=none/\Res3 w.heap.size (.slice none 0 0) (.bool false) (.int .i64 31) W/\Below w.heap.size w W/\M<=W.heap.size
theorem Res3.grown {n:Nat} {v b e:Value} {W W':World} {row:Option Nat} (h:Res3 n v b e W) (hg:W.grownBy W' row) (hr:∀ r,row=some r->n+3<=r):Res3 n v b e W' :=
  ⟨h.1.kept hg (fun k=>by have:=hr _ k.symm;omega),h.2.1.kept hg (fun k=>by have:=hr _ k.symm;omega),h.2.2.kept hg (fun k=>by have:=hr _ k.symm;omega)⟩
theorem ownsRow_grown {W W':World} {M:Nat} {e:TypeId} {size k:Nat} {v:Value} {xs:List Value} {row:Option Nat} (h:W.ownsRow M e size v k xs) (hg:W.grownBy W' row)
    (hr:∀ r,row=some r->r < M\/∃ o:Obj,W.heap[r]?=some o/\o.isCells=false):W'.ownsRow M e size v k xs:=by
  refine h.kept hg ?_
  rcases h.2 with ⟨rfl,_⟩ | ⟨g,cap,cur,rfl,h2,hgb,_⟩
  · exact .inl rfl
  · refine .inr fun e'=>?_
    rcases hr g (by simpa [Value.ownBlock] using e'.symm) with h3 | ⟨o,ho,hc⟩
    · omega
    · rw [hgb] at ho;cases ho;cases hc
theorem Inv.grown {w:World} {T M:Nat} {pre:List ByteArray} {W W':World} {row:Option Nat} (h:Inv w T M pre W) (hT:w.heap.size+3<=T) (hg:W.grownBy W' row)
    (hr:∀ r,row=some r->T < r/\(r < M\/∃ o:Obj,W.heap[r]?=some o/\o.isCells=false)):Inv w T M pre W':=by
  obtain ⟨v,ts,h1,h2,h3,h4,h5,h6⟩:=h
  exact ⟨v,ts,h1,h2.kept hg (fun k=>by have:=(hr _ k.symm).1;omega),ownsRow_grown h3 hg (fun r k=>(hr r k).2),h4.grown hg (fun r k=>by have:=(hr r k).1;omega),h5.grown hg h5.size (fun r k=>by have:=(hr r k).1;omega),Nat.le_trans h6 hg.size⟩
theorem InvX.grown {w:World} {M:Nat} {l:Row} {c:Code} {pre:List ByteArray} {W W':World} {row:Option Nat} (h:InvX w M l c pre W) (hg:W.grownBy W' row) (hr:∀ r,row=some r->w.heap.size+3<=r):InvX w M l c pre W':=by
  obtain ⟨h1,h2,h4,h5,h6⟩:=h
  exact ⟨h1,h2,h4.grown hg hr,h5.grown hg h5.size (fun r k=>by have:=hr r k;omega),Nat.le_trans h6 hg.size⟩
def ListP (l:Row) (e:Ending) (w':World):Prop :=
  (cond l=none/\e=.returned (.tuple #[.slice none 0 0,.bool false,.int .i64 31]))\/
  ∃ (ts:List Nat) (all:Bool) (v:Value),cond l=some (ts,all)/\NsAt w' v ts/\e=.returned (.tuple #[v,.bool all,.int .i64 0])
theorem trim_len (l:Row):(trim l).length<=l.length:=by
  show (Ht.trim l).length<=l.length
  unfold Ht.trim
  rw [List.length_reverse]
  have h1:=(List.dropWhile_suffix (l:=(l.dropWhile Ht.bl).reverse) Ht.bl).length_le
  have h2:=(List.dropWhile_suffix (l:=l) Ht.bl).length_le
  rw [List.length_reverse] at h1
  omega
theorem boxed_below {W W':World} {B:Nat} {t:TypeId} {v:Value} (h:Boxed W B t v) (hb:Below W.heap.size W W'):Boxed W' B t v:=(hb.block B h.lt).trans h
theorem Res3.below {n:Nat} {v b e:Value} {W W':World} (h:Res3 n v b e W) (hb:Below W.heap.size W W'):Res3 n v b e W':=⟨boxed_below h.1 hb,boxed_below h.2.1 hb,boxed_below h.2.2 hb⟩
theorem Res3.stores {n:Nat} {v b e:Value} {W:World} (h:Res3 n v b e W) (v' b' e':Value) :
    Res3 n v' b' e' (((W.setCell ⟨n,0,none⟩ v').setCell ⟨n+1,0,none⟩ b').setCell ⟨n+1+1,0,none⟩ e'):=by
  refine ⟨?_,?_,?_⟩
  · exact box_other (box_other (h.1.set v') (by omega) _) (by omega) _
  · exact box_other ((box_other h.2.1 (by omega) _).set b') (by omega) _
  · exact (box_other (box_other h.2.2 (by omega) _) (by omega) _).set e'
theorem below_stores {w W:World} {n:Nat} (hb:Below n w W) (v' b' e':Value):Below n w (((W.setCell ⟨n,0,none⟩ v').setCell ⟨n+1,0,none⟩ b').setCell ⟨n+1+1,0,none⟩ e') :=
  ((hb.setCell (p:=⟨n,0,none⟩) (Nat.le_refl _) _).setCell (p:=⟨n+1,0,none⟩) (Nat.le_succ _) _).setCell (p:=⟨n+1+1,0,none⟩) (by show n<=n+1+1;omega) _
theorem keeps_stores (W:World) (n:Nat) (v' b' e':Value):KeepsOthers W (((W.setCell ⟨n,0,none⟩ v').setCell ⟨n+1,0,none⟩ b').setCell ⟨n+1+1,0,none⟩ e') :=
  ((KeepsOthers.setCell _ _ _).trans (KeepsOthers.setCell _ _ _)).trans (KeepsOthers.setCell _ _ _)
theorem keepsFrom_below {W W':World} (M:Nat) (hb:Below W.heap.size W W'):KeepsFrom M W W':=⟨hb.size,fun k o _ hk _=>(hb.block k (Array.getElem?_eq_some_iff.1 hk).1).trans hk⟩
theorem kb_below {W W':World} {B:Nat} (hB:B+3<=W.heap.size) (hb:Below W.heap.size W W'):KB B W W':=fun k _ hk=>hb.block k (by omega)
theorem KB.trans {B:Nat} {X Y Z:World} (h:KB B X Y) (k:KB B Y Z):KB B X Z:=fun j h1 h2=>(k j h1 h2).trans (h j h1 h2)
theorem ownsRow_stores {W:World} {M n:Nat} {e:TypeId} {size k:Nat} {v:Value} {xs:List Value} (h:W.ownsRow M e size v k xs) (hn:n+3<=M) (v' b' e':Value) :
    (((W.setCell ⟨n,0,none⟩ v').setCell ⟨n+1,0,none⟩ b').setCell ⟨n+1+1,0,none⟩ e').ownsRow M e size v k xs:=by
  refine ownsRow_grown (ownsRow_grown (ownsRow_grown h (grownBy_setCell' _ _ _) ?_) (grownBy_setCell' _ _ _) ?_) (grownBy_setCell' _ _ _) ?_ <;>
    (intro r k;cases k;left;omega)
theorem appended {w W w1:World} {T M k m:Nat} {v v' tx:Value} {xs ys:List Value} {a b c:Value} (h2:Boxed W T 23 v) (h3:W.ownsRow M 3 1 v k xs) (h4:Res3 w.heap.size a b c W) (h5:Below w.heap.size w W)
    (h6:M<=W.heap.size) (hT:w.heap.size+3<=T) (hTM:T+4<=M) (hown:w1.ownsRow M 3 1 v' m ys) (hg:(W.alloc (.cells #[tx] 3)).grownBy w1 v.ownBlock) :
    Boxed w1 T 23 v/\Boxed (w1.setCell ⟨T,0,none⟩ v') T 23 v'/\(w1.setCell ⟨T,0,none⟩ v').ownsRow M 3 1 v' m ys/\Res3 w.heap.size a b c (w1.setCell ⟨T,0,none⟩ v')/\
      Below w.heap.size w (w1.setCell ⟨T,0,none⟩ v')/\M<=(w1.setCell ⟨T,0,none⟩ v').heap.size/\KeepsFrom M W (w1.setCell ⟨T,0,none⟩ v')/\KB (T+1) W (w1.setCell ⟨T,0,none⟩ v'):=by
  have hlt:∀ r,v.ownBlock=some r->M<=r:=fun r hr=>(h3.lt r hr).1
  have hM:Below M W w1:=((Below.refl M W).alloc h6 _).grown hg (by simp;omega) hlt
  have e1:Boxed w1 T 23 v:=(hM.block T (by omega)).trans h2
  have hS:w1.grownBy (w1.setCell ⟨T,0,none⟩ v') (some T):=grownBy_setCell' _ _ _
  have h4':Res3 w.heap.size a b c w1:=⟨(hM.block _ (by omega)).trans h4.1,(hM.block _ (by omega)).trans h4.2.1,(hM.block _ (by omega)).trans h4.2.2⟩
  refine ⟨e1,e1.set v',ownsRow_grown hown hS (fun r k=>by cases k;left;omega),h4'.grown hS (fun r k=>by cases k;exact hT),?_,?_,?_,?_⟩
  · exact ((h5.alloc h5.size _).grown hg (by have:=h5.size;simp;omega) (fun r k=>by have:=hlt r k;omega)).setCell (p:=⟨T,0,none⟩) (by show w.heap.size<=T;omega) _
  · have h1:=hM.size
    have h2:=hS.size
    omega
  · refine (((KeepsOthers.alloc W _).trans (KeepsOthers.of_grownBy hg fun j o ej hj=>?_)).trans (KeepsOthers.setCell _ _ _)).from M
    rcases (h3.alloc (.cells #[tx] 3)).2 with ⟨rfl,_⟩ | ⟨g,cap,cur,rfl,_,hgb,_⟩
    · simp [Value.ownBlock] at ej
    · obtain rfl:g=j:=by simpa [Value.ownBlock] using ej
      rw [hgb] at hj;cases hj;rfl
  · intro j j1 j2
    rw [Below.heap_setCell w1 ⟨T,0,none⟩ v' j (by show j≠T;omega)]
    exact hM.block j (by omega)
theorem list_any (s:ByteArray) (w:World) (hs:s.size<=1099511627776) :
    Calls Tryz.prog 110 #[.string s] w fun e w'=>ListP s.data.toList e w'/\Below w.heap.size w w':=by
  have cBa:=fun W=>bare_any s W (by omega)
  obtain ⟨x,hx,hxl⟩:=sv_some (trim s.data.toList)
  rw [hx] at cBa
  clear hx
  have b0:=Boxed.new w 23 (.slice none 0 0)
  have b1:=Boxed.new (w.alloc (.cells #[.slice none 0 0] 23)) 4 (.bool false)
  have b2:=Boxed.new ((w.alloc (.cells #[.slice none 0 0] 23)).alloc (.cells #[.bool false] 4)) 44 (.int .i64 0)
  have hB1:Below w.heap.size w (((w.alloc (.cells #[.slice none 0 0] 23)).alloc (.cells #[.bool false] 4)).alloc (.cells #[.int .i64 0] 44)) :=
    (((Below.refl _ w).alloc (Nat.le_refl _) _).alloc (by simp) _).alloc (by simp;omega) _
  have hR1:Res3 w.heap.size (.slice none 0 0) (.bool false) (.int .i64 0) (((w.alloc (.cells #[.slice none 0 0] 23)).alloc (.cells #[.bool false] 4)).alloc (.cells #[.int .i64 0] 44)):=by
    refine ⟨(b0.alloc _).alloc _,?_,?_⟩
    · rw [World.size_alloc] at b1;exact b1.alloc _
    · rw [World.size_alloc,World.size_alloc] at b2;exact b2
  have hs1:(((w.alloc (.cells #[.slice none 0 0] 23)).alloc (.cells #[.bool false] 4)).alloc (.cells #[.int .i64 0] 44)).heap.size=w.heap.size+3:=by simp
  have hB1':=Lib.hid hB1
  have hR1':=Lib.hid hR1
  have hs1':=Lib.hid hs1
  clear b0 b1 b2 hB1 hR1 hs1
  refine (callsIn_wide (n:=6)).1 ?_
  refine callsIn_of_wp_marks Tryz.func110 rfl trivial ?_ rfl
  simp only [Tryz.ntmps110,List.size_toArray,List.length_cons,List.length_nil,Nat.reduceAdd,Nat.reduceSub,Array.replicate_succ,Array.replicate_zero,List.push_toArray,List.append_toArray,List.nil_append,List.cons_append]
  by_cases hst:trim s.data.toList=[42]
  · have hE:(x.toList==[42])=true:=by rw [Lib.toList_data,hxl,hst];rfl
    have hfin:∀ W,ListP s.data.toList (.returned (.tuple #[.slice none 0 0,.bool true,.int .i64 0])) W:=fun W=>.inr ⟨[],true,_,by unfold cond;rw [if_pos hst],nsAt_nil _,rfl⟩
    have hfin':=Lib.hid hfin
    clear hfin hst hxl
    gi_wp2_with fail
    refine ⟨trivial,?_⟩
    gi_at_call 134
    refine (callsIn_wide.2 (cBa _)).mono ?_
    rintro e w2 ⟨rfl,hb2⟩
    have hR2:=hR1'.out.below hb2
    have hB2:Below w.heap.size w w2:=hB1'.out.trans (hb2.mono hB1'.out.size)
    have c0:=hR2.1.cell
    have c1:=hR2.2.1.cell
    have c2:w2.cell? ⟨w.heap.size+1+1,0,none⟩=_:=hR2.2.2.cell
    have f0:=hR2.1.frozen
    have f1:=hR2.2.1.frozen
    have f2:w2.frozen? ⟨w.heap.size+1+1,0,none⟩=_:=hR2.2.2.frozen
    have hR2':=Lib.hid hR2
    have hB2':=Lib.hid hB2
    clear hb2 hR2 hB2
    gi_wp2
    exact ⟨_,res3 rfl _ (hR2'.out.stores _ _ _) rfl rfl rfl,hfin'.out _,below_stores hB2'.out _ _ _⟩
  · have hE:(x.toList==[42])=false:=by rw [Lib.toList_data,hxl];exact beq_false_of_ne hst
    gi_wp2_with fail
    refine ⟨trivial,?_⟩
    gi_at_call 134
    refine (callsIn_wide.2 (cBa _)).mono ?_
    rintro e w2 ⟨rfl,hb2⟩
    have hR2:=hR1'.out.below hb2
    have hB2:Below w.heap.size w w2:=hB1'.out.trans (hb2.mono hB1'.out.size)
    have hT:w.heap.size+3<=w2.heap.size:=by have:=hb2.size;have:=hs1'.out;omega
    clear hb2
    have hst':=Lib.hid hst
    have hR2':=Lib.hid hR2
    have hB2':=Lib.hid hB2
    clear hst hxl hR2 hB2
    gi_wp2_with (refine ⟨trivial,?_⟩;gi_at_call 135;refine (callsIn_wide.2 (splitSeq_any _ _)).mono ?_;rintro e w3 ⟨rfl,hw3⟩)
    clear hw3
    have hT0:=Boxed.new w2 23 (.slice none 0 0)
    have hx0:=Boxed.new (w2.alloc (.cells #[.slice none 0 0] 23)) 9 (.string s)
    have hx1:=Boxed.new ((w2.alloc (.cells #[.slice none 0 0] 23)).alloc (.cells #[.string s] 9)) 9 (.string ⟨#[44]⟩)
    have hx2:=Boxed.new (((w2.alloc (.cells #[.slice none 0 0] 23)).alloc (.cells #[.string s] 9)).alloc (.cells #[.string ⟨#[44]⟩] 9)) 3 (.int .i64 0)
    simp only [World.size_alloc] at hx0 hx1 hx2
    have hT5:=((hT0.alloc (.cells #[.string s] 9)).alloc (.cells #[.string ⟨#[44]⟩] 9)).alloc (.cells #[.int .i64 0] 3)
    have hx05:=(hx0.alloc (.cells #[.string ⟨#[44]⟩] 9)).alloc (.cells #[.int .i64 0] 3)
    have hx15:=hx1.alloc (.cells #[.int .i64 0] 3)
    have hb5:=((((Below.refl w2.heap.size w2).alloc (Nat.le_refl _) (.cells #[.slice none 0 0] 23)).alloc (by simp) (.cells #[.string s] 9)).alloc (by simp;omega) (.cells #[.string ⟨#[44]⟩] 9)).alloc (by simp;omega) (.cells #[.int .i64 0] 3)
    have hs5:((((w2.alloc (.cells #[.slice none 0 0] 23)).alloc (.cells #[.string s] 9)).alloc (.cells #[.string ⟨#[44]⟩] 9)).alloc (.cells #[.int .i64 0] 3)).heap.size=w2.heap.size+4:=by simp
    clear hT0 hx0 hx1
    generalize ((((w2.alloc (.cells #[.slice none 0 0] 23)).alloc (.cells #[.string s] 9)).alloc (.cells #[.string ⟨#[44]⟩] 9)).alloc (.cells #[.int .i64 0] 3))=w5 at hT5 hx05 hx15 hx2 hb5 hs5 ⊢
    have hBox:Box3 (w2.heap.size+1) s w5:=⟨hx05,hx15,hx2⟩
    have hR5:=hR2'.out.below hb5
    have hB5:Below w.heap.size w w5:=below_then hB2'.out hb5
    clear hx05 hx15 hx2 hb5
    generalize w2.heap.size=T at hT hT5 hBox hs5 ⊢
    refine Sq.wpIn_iter rfl (by decide) (gf:=182) (lb:=#[.pointer (some ⟨T+1+1,0,none⟩),.pointer (some ⟨T+1,0,none⟩),.pointer (some ⟨T+1+2,0,none⟩)]) rfl trivial (enters_of Tryz.func182 (by kernel_rfl) rfl)
      (seq_in (T+1) s (by omega)) ?K0 ?T ?Kt ?Kb (fun _=>rfl) (Inv w T (T+4)) (fun c pre W=>InvX w (T+4) s.data.toList c pre W) ?I ?Ix ?IT ?IxT ?start
      (fun y=>{ tmps:=#[.string s,undef,.pointer (some ⟨w.heap.size,0,none⟩),.pointer (some ⟨w.heap.size+1,0,none⟩),.pointer (some ⟨w.heap.size+1+1,0,none⟩),.pointer (some ⟨T,0,none⟩),.string y,undef,undef,.string s,.string x,.bool false,.string s,
        .func (.func 182) #[] #[.pointer (some ⟨T+1+1,0,none⟩),.pointer (some ⟨T+1,0,none⟩),.pointer (some ⟨T+1+2,0,none⟩)],.string y,undef,undef,undef,undef,undef,undef,undef,undef,undef,undef,undef,undef,undef],defers:=[] }) ?assign ?body ?done ?stop
    case K0=>exact fun o o'=>⟨(hBox.1.alloc o).alloc o',(hBox.2.1.alloc o).alloc o',(hBox.2.2.alloc o).alloc o'⟩
    case T =>
      rintro A B ⟨v,rfl⟩ k o hk ho
      rw [Below.heap_setCell A _ v k (by show k≠T+1;omega)]
      exact ho
    case Kt=>exact fun h k=>h.trans k
    case Kb=>exact fun W l o o' hl _ _ k _ hk=>World.putObj_heap_other (by omega)
    case I=>exact fun pre W W' row h hg hr=>h.grown hT hg (fun r k=>⟨by have:=(hr r k).1;omega,.inr (hr r k).2⟩)
    case Ix=>exact fun c pre W W' row h hg hr=>h.grown hg (fun r k=>by have:=(hr r k).1;omega)
    case IT =>
      rintro pre A B h ⟨v,rfl⟩
      exact h.grown hT (grownBy_setCell' A _ v) (fun r k=>by cases k;exact ⟨by omega,.inl (by omega)⟩)
    case IxT =>
      rintro c pre A B h ⟨v,rfl⟩
      exact h.grown (grownBy_setCell' A _ v) (fun r k=>by cases k;omega)
    case start=>exact ⟨_,[],rfl,hT5,World.ownsRow_nil _ _ _ _,hR5,hB5,by omega⟩
    case assign =>
      intro l y W K hK
      gi_wp2
      exact hK
    case body =>
      rintro l pre y W ⟨v,ts,h1,h2,h3,h4,h5,h6⟩ ⟨hys,r,hsp⟩
      rw [hs5]
      have cB:=fun W=>bare_any y W (by omega)
      obtain ⟨z,hz,hzl⟩:=sv_some (trim y.data.toList)
      rw [hz] at cB
      have hzs:z.size<=y.size:=by rw [Lib.size_eq,Lib.size_eq,hzl];exact trim_len _
      have cP:=fun W=>parse_any z W (by omega)
      clear hz hT5 hBox hR5 hB5
      have hTW:T+1+3<=W.heap.size:=h6
      by_cases h0:par (trim y.data.toList)=0
      · rw [parE_no (by rw [hzl];exact h0)] at cP
        have hN:cond s.data.toList=none:=by
          unfold cond
          rw [if_neg hst'.out,hsp,tagsOf_stop h1 h0];rfl
        have hN':=Lib.hid hN
        clear h1 h3 hN hzl h0 hsp hzs hys h2
        have h4':=Lib.hid h4
        have h5':=Lib.hid h5
        clear h4 h5
        gi_wp2_with fail
        refine ⟨trivial,?_⟩
        gi_at_call 134
        refine (CallsIn.inRound l (callsIn_wide.2 (cB _))).mono ?_
        rintro e W2 ⟨rfl,hb⟩
        have h4:=h4'.out.below hb
        have h5:Below w.heap.size w W2:=below_then h5'.out hb
        have hk:=keepsFrom_below (T+4) hb
        have h6':=Nat.le_trans h6 hb.size
        have c0:=h4.1.cell
        have c1:=h4.2.1.cell
        have c2:W2.cell? ⟨w.heap.size+1+1,0,none⟩=_:=h4.2.2.cell
        have f0:=h4.1.frozen
        have f1:=h4.2.1.frozen
        have f2:W2.frozen? ⟨w.heap.size+1+1,0,none⟩=_:=h4.2.2.frozen
        have k4:=Lib.hid h4
        have k5:=Lib.hid h5
        have kk:=Lib.hid hk
        have k6:=Lib.hid h6'
        clear hb h4 h5 hk h6' h6
        gi_wp2_with (refine ⟨trivial,?_⟩;gi_at_call 136;refine (CallsIn.inRound l (callsIn_wide.2 (cP _))).mono ?_;rintro e W3 ⟨rfl,rfl⟩)
        exact ⟨kk.out.trans ((keeps_stores _ _ _ _ _).from _),rfl,hN'.out,k4.out.stores _ _ _,below_stores k5.out _ _ _,Nat.le_trans k6.out (keeps_stores _ _ _ _ _).size⟩
      · rw [parE_yes rfl (by rw [hzl];exact h0),hzl] at cP
        have hmore:=tagsOf_more h1 h0
        have hlen:=tagsOf_len h1
        have hpl:=spl_len s.data.toList
        rw [hsp,<-Lib.size_eq] at hpl
        simp at hlen hpl
        have hple:=par_le (trim y.data.toList)
        generalize par (trim y.data.toList)=m at cP hmore hple
        have hts:ts.length<=1099511627776:=by omega
        obtain ⟨i0,hi,hz0,hz1,hz2⟩:=info_parts infoInt
        have hmore':=Lib.hid hmore
        have h2':=Lib.hid h2
        have h3':=Lib.hid h3
        have h4':=Lib.hid h4
        have h5':=Lib.hid h5
        clear h1 hzl h0 hsp hzs hys hmore hlen hpl h2 h3 h4 h5
        gi_wp2_with fail
        refine ⟨trivial,?_⟩
        gi_at_call 134
        refine (CallsIn.inRound l (callsIn_wide.2 (cB _))).mono ?_
        rintro e W2 ⟨rfl,hb⟩
        have h2:=boxed_below h2'.out hb
        have h3:W2.ownsRow (T+4) 3 1 v ts.length (ts.map iv):=by
          refine ⟨h3'.out.1,?_⟩
          rcases h3'.out.2 with h | ⟨g,cap,cur,e1,e2,e3,e4⟩
          · exact .inl h
          · exact .inr ⟨g,cap,cur,e1,e2,by rw [hb.block g (Array.getElem?_eq_some_iff.1 e3).1];exact e3,e4⟩
        have h4:=h4'.out.below hb
        have h5:Below w.heap.size w W2:=below_then h5'.out hb
        have hk:=keepsFrom_below (T+4) hb
        have hkb:KB (T+1) W W2:=kb_below hTW hb
        have h6':=Nat.le_trans h6 hb.size
        obtain ⟨ao,co,hv⟩:=ownsRow_form h3
        subst hv
        have c5:=h2.cell
        have k2:=Lib.hid h2
        have k4:=Lib.hid h4
        have k5:=Lib.hid h5
        have kk:=Lib.hid hk
        have kkb:=Lib.hid hkb
        clear hb h2 h4 h5 hk hkb h2' h3' h4' h5'
        gi_wp2_with (first
          | (refine ⟨trivial,?_⟩;gi_at_call 136;refine (CallsIn.inRound l (callsIn_wide.2 (cP _))).mono ?_;rintro e W3 ⟨rfl,rfl⟩)
          | (gi_at_builtin;refine wpListIn_append_own _ rfl _ _ 23 rfl (T+4) 3 i0 (.int .i64 0) 1 8 Tryz.underlying23 hi hz0 hz1 hz2 rfl (by decide) _ _ _ rfl (h3.alloc _) ⟨W3.heap.size,0,none⟩ 1 1 [iv m] rfl rfl (cell_one_new _ _ _) (by simp [Value.oneCell',iv]) (by unfold maxLen;omega) (by omega) (by simp;omega) ?_
             intro v' w1 hown' hgrow _
             obtain ⟨g',cap',rfl⟩:=ownsRow_succ hown'
             obtain ⟨q1,q2,q3,q4,q5,q6,q7,q8⟩:=appended k2.out h3 k4.out k5.out h6' hT (by omega) hown' hgrow
             have hc1:=q1.cell
             have hf1:=q1.frozen))
        refine ⟨kk.out.trans q7,kkb.out.trans q8,_,ts++[m],by rw [List.map_append];exact hmore'.out,q2,?_,q4,q5,q6⟩
        rw [List.map_append,List.length_append]
        exact q3
    case done =>
      rintro D xs W hD hS ⟨v,ts,h1,h2,h3,h4,h5,h6⟩ hK
      have hfin:cond s.data.toList=some (ts,false):=by
        unfold cond
        rw [if_neg hst'.out,hS,h1];rfl
      have hfin':=Lib.hid hfin
      obtain ⟨ao,co,hv⟩:=ownsRow_form h3
      subst hv
      have c5:=h2.cell
      have c0:=h4.1.cell
      have c1:=h4.2.1.cell
      have c2:W.cell? ⟨w.heap.size+1+1,0,none⟩=_:=h4.2.2.cell
      have f0:=h4.1.frozen
      have f1:=h4.2.1.frozen
      have f2:W.frozen? ⟨w.heap.size+1+1,0,none⟩=_:=h4.2.2.frozen
      have k3:=Lib.hid h3
      have k4:=Lib.hid h4
      have k5:=Lib.hid h5
      have kK:=Lib.hid hK
      clear hT5 hBox hR5 hB5 h1 hS hfin h2 h3 h4 h5 hK
      gi_wp2
      have hK2:=(keeps_stores W w.heap.size (.slice ao ts.length co) (.bool false) (.int .i64 0)).same D _ kK.out rfl
      have hR9:=k4.out.stores (.slice ao ts.length co) (.bool false) (.int .i64 0)
      have hO9:=ownsRow_stores k3.out (n:=w.heap.size) (by omega) (.slice ao ts.length co) (.bool false) (.int .i64 0)
      have hB9:=below_stores k5.out (.slice ao ts.length co) (.bool false) (.int .i64 0)
      refine ⟨by simp,.inl ⟨_,_,rfl,run_takeDeferred hK2,?_⟩⟩
      have hg9:=grownBy_putObj' (((W.setCell ⟨w.heap.size,0,none⟩ (.slice ao ts.length co)).setCell ⟨w.heap.size+1,0,none⟩ (.bool false)).setCell ⟨w.heap.size+1+1,0,none⟩ (.int .i64 0)) D (.deferred none)
      exact ⟨_,res3 rfl _ (hR9.grown hg9 (fun r k=>by cases k;omega)) rfl rfl rfl,.inr ⟨ts,false,_,hfin'.out,ownsRow_at (ownsRow_putObj hO9 _ hK2 rfl),rfl⟩,hB9.grown hg9 hB9.size (fun r k=>by cases k;omega)⟩
    case stop =>
      rintro D c pre W hD ⟨rfl,hc,h4,h5,h6⟩ hK
      gi_wp2
      refine ⟨by simp,.inl ⟨_,_,rfl,run_takeDeferred hK,?_⟩⟩
      have hg9:=grownBy_putObj' W D (.deferred none)
      exact ⟨_,res3 rfl _ (h4.grown hg9 (fun r k=>by cases k;omega)) rfl rfl rfl,.inl ⟨hc,rfl⟩,h5.grown hg9 h5.size (fun r k=>by cases k;omega)⟩
end Co
namespace Co
open Go.Lib Go.RowKit Go.Shelf
theorem ns_at {w:World} {v:Value} {ts:List Nat} (h:NsAt w v ts):∃ (A:Option Addr) (b off c:Nat),v=.slice A ts.length c/\ts.length<=c/\c<=maxLen/\(0 < ts.length->A=some ⟨b,off,none⟩)/\
    ∀ (j:Nat) (h:j < ts.length),w.cell? ⟨b,off+j,none⟩=some (.int .i64 ((ts[j]:Nat):Int)):=by
  obtain ⟨A,b,off,c,h1,h2,h3,h4,h5⟩:=h
  exact ⟨A,b,off,c,h1,h2,h3,fun h=>(h4 h).1,h5⟩
theorem any_take_step (ts:List Nat) (t:Int) (k:Nat) (hk:k < ts.length):((ts.take (k+1)).any fun n=>decide ((n:Int)=t))=(((ts.take k).any fun n=>decide ((n:Int)=t)) || decide (((ts[k]:Nat):Int)=t)):=by
  rw [List.take_succ_eq_append_getElem hk,List.any_append];simp
def inR (ts:List Nat) (t:Int):Bool:=ts.any fun n=>decide ((n:Int)=t)
theorem index_any (v:Value) (ts:List Nat) (t:Int) (w:World) (hv:NsAt w v ts) (hl:ts.length<=1099511627777) :
    Calls Tryz.prog 137 #[v,.int .i64 t] w fun e w'=>(∃ z:Int,e=.returned (.int .i64 z)/\(decide (0<=z)=inR ts t))/\w'=w:=by
  obtain ⟨A,b,off,c,rfl,hc,hm,hA,hcell⟩:=ns_at hv
  clear hv
  obtain ⟨R,hR⟩:∃ R,inR ts t=R:=⟨_,rfl⟩
  rw [hR]
  have hR':=Lib.hid hR
  have hcell':=Lib.hid hcell
  have hA':=Lib.hid hA
  clear hR hcell hA
  go_enter Tryz.func137,Tryz.ntmps137
  go_wp2
  go_loopw [5,8] (fun s5 s8 wr=>∃ k:Nat,s8=.int .i64 (k:Int)/\k<=ts.length/\((ts.take k).any fun n=>decide ((n:Int)=t))=false/\wr=w) (fun s5 s8 wr=>ts.length - (RowKit.intOf s8).toNat)
  case atStart=>exact ⟨0,rfl,Nat.zero_le _,rfl,rfl⟩
  case round =>
    obtain ⟨k,rfl,hk,hno,rfl⟩:=hrel
    by_cases hlt:k < ts.length
    · obtain rfl:=hA'.out (by omega)
      have hx:=hcell'.out k hlt
      have hstep:=Lib.hid (any_take_step ts t k hlt)
      obtain ⟨n,hn⟩:∃ n,ts[k]=n:=⟨_,rfl⟩
      rw [hn] at hx
      have hn':=Lib.hid hn
      have hno':=Lib.hid hno
      clear hn hno
      by_cases he:t=(n:Int)
      · have h1:(t==(n:Int))=true:=by simp [he]
        have hf:decide ((0:Int)<=(k:Int))=R:=by
          rw [decide_eq_true (by omega),<-hR'.out]
          unfold inR
          symm
          rw [List.any_eq_true]
          exact ⟨n,by rw [<-hn'.out];exact List.getElem_mem hlt,by simp [he]⟩
        have hf':=Lib.hid hf
        clear he hf
        go_wp2
        go_ret
        exact ⟨⟨_,rfl,hf'.out⟩,rfl⟩
      · have h1:(t==(n:Int))=false:=by simp [he]
        have hnx:((ts.take (k+1)).any fun n=>decide ((n:Int)=t))=false:=by
          rw [hstep.out,hno'.out,hn'.out]
          simp;omega
        have hnx':=Lib.hid hnx
        clear he hnx
        go_wp2
        go_roundw
        case rel=>exact ⟨k+1,by go_num,by omega,hnx'.out,trivial⟩
        case measure=>simp [RowKit.intOf];omega
    · have hf:decide ((0:Int)<=-1)=R:=by
        rw [List.take_of_length_le (by omega)] at hno
        rw [<-hR'.out]
        unfold inR
        rw [hno];rfl
      have hf':=Lib.hid hf
      clear hno hf
      go_wp2
      go_ret
      exact ⟨⟨_,rfl,hf'.out⟩,rfl⟩
theorem contains_any (v:Value) (ts:List Nat) (t:Int) (w:World) (hv:NsAt w v ts) (hl:ts.length<=1099511627777) :
    Calls Tryz.prog 111 #[v,.int .i64 t] w fun e w'=>e=.returned (.bool (inR ts t))/\w'=w:=by
  have cI:=index_any v ts t w hv hl
  obtain ⟨A,b,off,c,rfl,_⟩:=ns_at hv
  clear hv
  go_enter Tryz.func111,Tryz.ntmps111
  go_wp2_with fail
  go_at_call 137
  refine cI.mono ?_
  rintro e w1 ⟨⟨z,rfl,hz⟩,rfl⟩
  go_wp2
  go_ret
  exact ⟨by rw [<-hz];rfl,rfl⟩
def namE (r:Option Bool):Ending:=match r with
  | none=>.returned (.tuple #[.bool false,.int .i64 31])
  | some b=>.returned (.tuple #[.bool b,.int .i64 0])
theorem isE {s:ByteArray}:s.toList.isEmpty=decide (s.data.toList=[]):=by
  rw [Lib.toList_data,Bool.eq_iff_iff,List.isEmpty_iff,decide_eq_true_iff]
theorem names_any (s:ByteArray) (t:Int) (w:World) (hs:s.size<=1099511627776) :
    Calls Tryz.prog 85 #[.string s,.int .i64 t] w fun e w'=>e=namE (nam s.data.toList t)/\Below w.heap.size w w':=by
  by_cases h0:s.data.toList=[]
  · have hE:s.toList.isEmpty=true:=by rw [isE,decide_eq_true h0]
    rw [show nam s.data.toList t=some false by rw [h0];rfl]
    clear h0
    go_enter Tryz.func85,Tryz.ntmps85
    go_wp2
    go_ret2
    exact ⟨rfl,Below.refl _ _⟩
  have hE:s.toList.isEmpty=false:=by rw [isE,decide_eq_false h0]
  obtain ⟨E,hEn⟩:∃ E,namE (nam s.data.toList t)=E:=⟨_,rfl⟩
  rw [hEn]
  have hEn':=Lib.hid hEn
  have hnn:∀ u,cond s.data.toList=none->nam s.data.toList u=none:=fun u h=>twin_none h h0 u
  have hns:∀ p,cond s.data.toList=some p->nam s.data.toList t=some (has p t):=fun p h=>twin_some h h0 t
  have hnn':=Lib.hid hnn
  have hns':=Lib.hid hns
  clear hEn hnn hns h0
  go_enter Tryz.func85,Tryz.ntmps85
  go_wp2_with fail
  go_at_call 110
  refine (list_any s w hs).mono ?_
  rintro e w1 ⟨hP,hb⟩
  rcases hP with ⟨hc,rfl⟩ | ⟨ts,all,v,hc,hv,rfl⟩
  · have hf:E=.returned (.tuple #[.bool false,.int .i64 31]):=by rw [<-hEn'.out,hnn'.out t hc];rfl
    have hf':=Lib.hid hf
    clear hc hf
    go_wp2
    go_ret2
    exact ⟨hf'.out.symm,hb⟩
  · have hf:E=.returned (.tuple #[.bool (decide (t≠0) && (all || inR ts t)),.int .i64 0]):=by rw [<-hEn'.out,hns'.out _ hc];rfl
    have hf':=Lib.hid hf
    have hlen:ts.length<=1099511627777:=by
      unfold cond at hc
      split at hc
      · cases hc;simp
      · cases hq:tagsOf (spl s.data.toList) with
        | none=>rw [hq] at hc;cases hc
        | some us =>
          rw [hq] at hc
          cases hc
          rw [tagsOf_len hq]
          have:=spl_len s.data.toList
          rw [<-Lib.size_eq] at this
          omega
    have cC:=contains_any v ts t w1 hv hlen
    clear hc hf hv hlen
    by_cases ht:t=0
    · have h1:(t != 0)=false:=by simp [ht]
      rw [show (decide (t≠0) && (all || inR ts t))=false by simp [ht]] at hf'
      clear ht cC
      go_wp2
      go_ret2
      exact ⟨hf'.out.symm,hb⟩
    · have h1:(t != 0)=true:=by simp [ht]
      cases all with
      | true =>
        rw [show (decide (t≠0) && (true || inR ts t))=true by simp [ht]] at hf'
        clear ht cC
        go_wp2
        go_ret2
        exact ⟨hf'.out.symm,hb⟩
      | false =>
        rw [show (decide (t≠0) && (false || inR ts t))=inR ts t by simp [ht]] at hf'
        generalize inR ts t=R at hf' cC
        clear ht
        go_wp2_with (go_at_call 111;refine cC.mono ?_;rintro e w2 ⟨rfl,rfl⟩)
        go_ret2
        exact ⟨hf'.out.symm,hb⟩
theorem holds_any (m n:ByteArray) (t:Int) (w:World) (hm:m.size<=1099511627776) (hn:n.size<=1099511627776) :
    Calls Tryz.prog 65 #[.string m,.string n,.int .i64 t] w fun e w'=>e=namE (hol m.data.toList n.data.toList t)/\Below w.heap.size w w':=by
  have cN:=names_any m t w hm
  have cM:=fun W=>names_any n t W hn
  obtain ⟨E,hEn⟩:∃ E,namE (hol m.data.toList n.data.toList t)=E:=⟨_,rfl⟩
  rw [hEn]
  have hmE:m.toList.isEmpty=decide (m.data.toList=[]):=isE
  have hnE:n.toList.isEmpty=decide (n.data.toList=[]):=isE
  obtain ⟨P,hP⟩:∃ P,decide (m.data.toList=[])=P:=⟨_,rfl⟩
  obtain ⟨Q,hQ⟩:∃ Q,decide (n.data.toList=[])=Q:=⟨_,rfl⟩
  have hno:nam m.data.toList t=none\/nam n.data.toList t=none->E=.returned (.tuple #[.bool false,.int .i64 31]):=fun h=>by rw [<-hEn,hol_none h];rfl
  have hye:∀ a b,nam m.data.toList t=some a->nam n.data.toList t=some b->E=.returned (.tuple #[.bool ((P || a) && (Q || !b)),.int .i64 0]):=fun a b h1 h2=>by rw [<-hEn,hol_some h1 h2,hP,hQ];rfl
  rw [hP] at hmE
  rw [hQ] at hnE
  obtain ⟨x,hx⟩:∃ x,nam m.data.toList t=x:=⟨_,rfl⟩
  obtain ⟨y,hy⟩:∃ y,nam n.data.toList t=y:=⟨_,rfl⟩
  rw [hx] at cN hno hye
  rw [hy] at cM hno hye
  clear hEn hP hQ hx hy
  cases x with
  | none =>
    have hf:=Lib.hid (hno (.inl rfl))
    clear hno hye
    cases y with
    | none =>
      unfold namE at cN cM
      go_enter Tryz.func65,Tryz.ntmps65
      go_wp2_with fail
      go_at_call 85
      refine cN.mono ?_
      rintro e w1 ⟨rfl,hb1⟩
      go_wp2_with fail
      go_at_call 85
      refine (cM _).mono ?_
      rintro e w2 ⟨rfl,hb2⟩
      go_wp2
      go_ret2
      exact ⟨hf.out.symm,below_then hb1 hb2⟩
    | some b =>
      unfold namE at cN cM
      go_enter Tryz.func65,Tryz.ntmps65
      go_wp2_with fail
      go_at_call 85
      refine cN.mono ?_
      rintro e w1 ⟨rfl,hb1⟩
      go_wp2_with fail
      go_at_call 85
      refine (cM _).mono ?_
      rintro e w2 ⟨rfl,hb2⟩
      go_wp2
      go_ret2
      exact ⟨hf.out.symm,below_then hb1 hb2⟩
  | some a =>
    cases y with
    | none =>
      have hf:=Lib.hid (hno (.inr rfl))
      clear hno hye
      unfold namE at cN cM
      go_enter Tryz.func65,Tryz.ntmps65
      go_wp2_with fail
      go_at_call 85
      refine cN.mono ?_
      rintro e w1 ⟨rfl,hb1⟩
      go_wp2_with fail
      go_at_call 85
      refine (cM _).mono ?_
      rintro e w2 ⟨rfl,hb2⟩
      go_wp2
      go_ret2
      exact ⟨hf.out.symm,below_then hb1 hb2⟩
    | some b =>
      have hf:=hye a b rfl rfl
      clear hno hye
      unfold namE at cN cM
      cases P<;>cases a<;>cases Q<;>cases b <;>
        (have hf':=Lib.hid hf
         clear hf
         go_enter Tryz.func65,Tryz.ntmps65
         go_wp2_with fail
         go_at_call 85
         refine cN.mono ?_
         rintro e w1 ⟨rfl,hb1⟩
         go_wp2_with fail
         go_at_call 85
         refine (cM _).mono ?_
         rintro e w2 ⟨rfl,hb2⟩
         go_wp2
         go_ret2
         exact ⟨hf'.out.symm,below_then hb1 hb2⟩)
end Co
namespace To
open Go.Lib Ch
abbrev Row:=List UInt8
def most:Nat:=4611686018427387904
def pre:Row:=[117,114,110,58,99,97,108,101,112,105,110,58]
def right (b a:Nat):Prop:=1<=b/\b<=a/\a<=most
instance (b a:Nat):Decidable (right b a):=inferInstanceAs (Decidable (_/\_))
def txtT (b a:Nat):Row:=pre++(decDigits b++46 :: decDigits a)
def prT (b a:Int):Row:=if 1<=b/\b<=a/\a<=(most:Int) then txtT b.toNat a.toNat else []
def two (r:Row):Option (Nat × Nat):=match Ht.cutB 46 r with
  | none=>none
  | some (x,y)=>if (numS x most).2=true/\(numS y most).2=true/\right (numS x most).1 (numS y most).1 then some ((numS x most).1,(numS y most).1) else none
def paT (l:Row):Option (Nat × Nat):=if l.take 12=pre then two (l.drop 12) else none
theorem cut_some {c:UInt8}:∀ {l a r:Row},Ht.cutB c l=some (a,r)->l=a++c :: r/\c∉a
  | [],_,_,h=>by simp [Ht.cutB] at h
  | x :: l,a,r,h=>by
    rw [Ht.cutB] at h
    split at h
    · rename_i hx
      simp at h
      obtain ⟨rfl,rfl⟩:=h
      rw [hx];exact ⟨rfl,by simp⟩
    · rename_i hx
      cases hf:Ht.cutB c l with
      | none=>rw [hf] at h;cases h
      | some q =>
        rw [hf] at h
        simp at h
        obtain ⟨rfl,rfl⟩:=h
        obtain ⟨h1,h2⟩:=cut_some (l:=l) (a:=q.1) (r:=q.2) hf
        refine ⟨by conv=>lhs;rw [h1]
                   rfl,?_⟩
        simp only [List.mem_cons,not_or]
        exact ⟨fun e=>hx e.symm,h2⟩
theorem take_pre (r:Row):(pre++r).take 12=pre:=List.take_left' rfl
theorem drop_pre (r:Row):(pre++r).drop 12=r:=List.drop_left' rfl
end To
namespace To
open Go.Lib Go.RowKit
theorem below_then {a b c:World} (h1:Below a.heap.size a b) (h2:Below b.heap.size b c):Below a.heap.size a c:=h1.trans (h2.mono h1.size)
def sv (l:Row):Value:=.string ⟨l.toArray⟩
abbrev I64 (z:Int):Prop:=-9223372036854775808<=z/\z<=9223372036854775807
abbrev tokV (b a:Int):Value:=.agg #[.int .i64 b,.int .i64 a]
def parE (r:Option (Nat × Nat)):Ending:=match r with
  | some p=>.returned (.tuple #[tokV (p.1:Int) (p.2:Int),.int .i64 0])
  | none=>.returned (.tuple #[tokV 0 0,.int .i64 110])
def fitsT (b a book lo hi:Int):Bool:=decide (b=book) && (decide (lo<=a) && decide (a<=hi))
def PrintC:Prop:=∀ (b a:Int) (W:World),I64 b->I64 a->Ch.Pow W->Calls Tryz.prog 89 #[tokV b a] W fun e w'=>e=.returned (sv (prT b a))/\Below W.heap.size W w'
def ParseC:Prop:=∀ (s:ByteArray) (W:World),s.size<=140737488355328->Calls Tryz.prog 10 #[.string s] W fun e w'=>e=parE (paT s.data.toList)/\Below W.heap.size W w'
def CheckC:Prop:=∀ (b a book lo hi:Int) (W:World),Calls Tryz.prog 68 #[tokV b a,.int .i64 book,.int .i64 lo,.int .i64 hi] W fun e w'=>e=.returned (.int .i64 (if fitsT b a book lo hi=true then 0 else 110))/\Below W.heap.size W w'
theorem box_two {w W:World} {b a:Int} {t:TypeId} (hb:Below (w.alloc (.cells #[.int .i64 b,.int .i64 a] t)).heap.size (w.alloc (.cells #[.int .i64 b,.int .i64 a] t)) W) :
    W.cell? ⟨w.heap.size,0,none⟩=some (.int .i64 b)/\W.cell? ⟨w.heap.size,1,none⟩=some (.int .i64 a):=by
  have hlt:w.heap.size < (w.alloc (.cells #[.int .i64 b,.int .i64 a] t)).heap.size:=by simp
  rw [hb.cell (p:=⟨w.heap.size,0,none⟩) hlt,hb.cell (p:=⟨w.heap.size,1,none⟩) hlt]
  constructor<;>(rw [World.cell?_alloc_new];rfl)
theorem below_box {w W:World} {o:Obj} (hb:Below (w.alloc o).heap.size (w.alloc o) W):Below w.heap.size w W:=((Below.refl w.heap.size w).alloc (Nat.le_refl _) o).trans (hb.mono (by simp))
def rightI (b a:Int):Bool:=decide (0 < b) && (decide (b<=a) && decide (a<=4611686018427387904))
theorem rightI_is (b a:Int):rightI b a=decide (1<=b/\b<=a/\a<=(most:Int)):=by
  unfold rightI most
  rw [Bool.eq_iff_iff]
  simp only [Bool.and_eq_true,decide_eq_true_iff]
  omega
theorem join_txt (b a:Nat):(⟨#[117,114,110,58,99,97,108,101,112,105,110,58]⟩:ByteArray)++⟨(decDigits b).toArray⟩++⟨#[46]⟩++⟨(decDigits a).toArray⟩=⟨(txtT b a).toArray⟩:=by
  apply ByteArray.ext
  simp only [ByteArray.data_append]
  simp [txtT,pre]
theorem dec_len {n:Nat} (h:n<=most):(decDigits n).length<=20:=by
  rw [decDigits_length]
  rcases Nat.eq_zero_or_pos n with h0 | h0
  · rw [nDigits_small (by omega)];omega
  · have:=Lib.numDigits_eq n h0 (by unfold most at h;omega);split at this<;>omega
theorem stored_two {W:World} {g:Nat} {u0 u1 v0 v1:Value} {t:TypeId} {fr:Nat × Nat} (h:W.heap[g]?=some (.cells #[u0,u1] t fr)) :
    ((W.setCell ⟨g,0,none⟩ v0).setCell ⟨g,1,none⟩ v1).heap[g]?=some (.cells #[v0,v1] t fr):=by
  obtain ⟨hlt,hk⟩:=Array.getElem?_eq_some_iff.1 h
  have e1:(W.setCell ⟨g,0,none⟩ v0).heap[g]?=some (.cells #[v0,u1] t fr):=by
    show (W.heap.modify g _)[g]?=_
    rw [Array.getElem?_eq_getElem (by rw [Array.size_modify];exact hlt),Array.getElem_modify_self,hk]
    rfl
  obtain ⟨hlt2,hk2⟩:=Array.getElem?_eq_some_iff.1 e1
  show ((W.setCell ⟨g,0,none⟩ v0).heap.modify g _)[g]?=_
  rw [Array.getElem?_eq_getElem (by rw [Array.size_modify];exact hlt2),Array.getElem_modify_self,hk2]
  rfl
theorem load_two {W:World} {g:Nat} {u v:Value} {t:TypeId} {fr:Nat × Nat} (h:W.heap[g]?=some (.cells #[u,v] t fr)):(loadVar 43 ⟨g,0,none⟩).run Tryz.prog W=.ok (.agg #[u,v]) W :=
  run_loadVar_row W g t 43 #[u,v] fr _ h Tryz.underlying43 rfl (by kernel_rfl)
theorem two_none {r:Row} (h:(46:UInt8)∉r):two r=none:=by
  unfold two
  cases hc:Ht.cutB 46 r with
  | none=>rfl
  | some q =>
    obtain ⟨x,y⟩:=q
    have:=(cut_some hc).1
    exact absurd (by rw [this];simp) h
theorem two_at {x y:Row} (h:(46:UInt8)∉x):two (x++46 :: y)=if (Ch.numS x most).2=true/\(Ch.numS y most).2=true/\right (Ch.numS x most).1 (Ch.numS y most).1 then some ((Ch.numS x most).1,(Ch.numS y most).1) else none:=by
  unfold two
  rw [Ht.cutB_at _ h]
def Zb (g:Nat) (W:World):Prop:=W.heap[g]?=some (.cells #[.int .i64 0,.int .i64 0] 43 (0,0))
theorem zb_cells {g:Nat} {W:World} (h:Zb g W):W.cell? ⟨g,0,none⟩=some (.int .i64 0)/\W.cell? ⟨g,1,none⟩=some (.int .i64 0)/\W.frozen? ⟨g,0,none⟩=false/\W.frozen? ⟨g,1,none⟩=false:=by
  unfold Zb at h
  exact ⟨(cell_of_row _ _ 0 _ _ _ h).trans rfl,(cell_of_row _ _ 1 _ _ _ h).trans rfl,by simp [World.frozen?,h],by simp [World.frozen?,h]⟩
theorem Zb.kept {g:Nat} {W W':World} (h:Zb g W) (hb:Below W.heap.size W W'):Zb g W':=(hb.block g (Array.getElem?_eq_some_iff.1 h).1).trans h
theorem below_two {n g:Nat} {w W:World} (hb:Below n w W) (hg:n<=g) (u v:Value):Below n w ((W.setCell ⟨g,0,none⟩ u).setCell ⟨g,1,none⟩ v) :=
  (hb.setCell (p:=⟨g,0,none⟩) hg _).setCell (p:=⟨g,1,none⟩) hg _
theorem stored_alloc {W:World} {g:Nat} {u0 u1 v0 v1:Value} {t:TypeId} {fr:Nat × Nat} (h:W.heap[g]?=some (.cells #[u0,u1] t fr)) (o:Obj) :
    (((W.setCell ⟨g,0,none⟩ v0).setCell ⟨g,1,none⟩ v1).alloc o).heap[g]?=some (.cells #[v0,v1] t fr):=by
  have h2:=stored_two (v0:=v0) (v1:=v1) h
  exact (Below.heap_alloc _ _ _ (Array.getElem?_eq_some_iff.1 h2).1).trans h2
theorem below_two_alloc {n g:Nat} {w W:World} (hb:Below n w W) (hg:n<=g) (hn:n<=w.heap.size) (u v:Value) (o:Obj):Below n w (((W.setCell ⟨g,0,none⟩ u).setCell ⟨g,1,none⟩ v).alloc o):=by
  have h:=below_two hb hg u v
  exact h.alloc (Nat.le_trans hn h.size) o
theorem num_le (x:Row):(Ch.numS x most).1<=most:=Ch.numS_le x most
end To
end Go.Proofs.YtobfaibofhmpgaaGreatDoor
