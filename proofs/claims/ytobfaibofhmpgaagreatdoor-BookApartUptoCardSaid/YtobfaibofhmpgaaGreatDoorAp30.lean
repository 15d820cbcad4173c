import Derived.Test.YtobfaibofhmpgaaGreatDoorAp29
set_option linter.unusedVariables false
set_option maxHeartbeats 16000000
set_option maxRecDepth 1000000
namespace Go.Proofs.YtobfaibofhmpgaaGreatDoor
namespace Bo
open Go.Lib Go.RowKit
def lastName (p:Row):List Note->Row
  | []=>p
  | n :: r=>lastName n.name r
theorem comp1_snoc (x:Note):∀ (p:Row) (A:List Note),comp1 p (A++[x])=comp1 p A++if x.name=lastName p A then [] else [x]
  | p,[]=>by show (if x.name=p then [] else [x])=_;rfl
  | p,n :: r=>by
    rw [List.cons_append]
    unfold comp1
    show (if n.name=p then comp1 p (r++[x]) else n :: comp1 n.name (r++[x]))=(if n.name=p then comp1 p r else n :: comp1 n.name r)++if x.name=lastName n.name r then [] else [x]
    split
    · rename_i h;rw [comp1_snoc x p r,h]
    · rw [comp1_snoc x n.name r];rfl
theorem lastName_snoc (x:Note):∀ (p:Row) (A:List Note),lastName p (A++[x])=x.name
  | p,[]=>rfl
  | p,n :: r=>lastName_snoc x n.name r
theorem compN_snoc {A:List Note} {x y:Note}:compN (A++[y]++[x])=compN (A++[y])++if x.name=y.name then [] else [x]:=by
  cases A with
  | nil =>
    show y :: comp1 y.name [x]=y :: []++_
    show y :: (if x.name=y.name then [] else [x])=_
    rfl
  | cons a r =>
    show a :: comp1 a.name (r++[y]++[x])=a :: comp1 a.name (r++[y])++_
    rw [comp1_snoc x a.name (r++[y]),lastName_snoc]
    rfl
theorem comp1_le:∀ (p:Row) (A:List Note),(comp1 p A).length<=A.length
  | p,[]=>Nat.le_refl _
  | p,n :: r=>by
    unfold comp1
    split
    · have:=comp1_le p r;simp;omega
    · have:=comp1_le n.name r;simp;omega
theorem compN_le (A:List Note):(compN A).length<=A.length:=by
  cases A with
  | nil=>exact Nat.le_refl _
  | cons a r=>have:=comp1_le a.name r;show (a :: comp1 a.name r).length<=_;simp;omega
theorem compN_take {ns:List Note} {k:Nat} {x y:Note} (h1:0 < k) (hy:ns[k - 1]?=some y) (hx:ns[k]?=some x):compN (ns.take (k+1))=compN (ns.take k)++if x.name=y.name then [] else [x]:=by
  obtain ⟨l1,v1⟩:=List.getElem?_eq_some_iff.1 hy
  obtain ⟨l2,v2⟩:=List.getElem?_eq_some_iff.1 hx
  have e1:ns.take k=ns.take (k - 1)++[y]:=by
    have:=List.take_succ_eq_append_getElem l1
    rw [v1,show k - 1+1=k by omega] at this
    exact this
  rw [List.take_succ_eq_append_getElem l2,v2,e1,compN_snoc]
theorem sameN_any (c d:Int) (s t:ByteArray) (b b':Bool) (W:World) :
    Calls Tryz.prog 121 #[.agg #[.int .i64 c,.string s,.bool b],.agg #[.int .i64 d,.string t,.bool b']] W fun e w'=>e=.returned (.bool (s.toList==t.toList))/\Below W.heap.size W w':=by
  have hB:Below W.heap.size W ((W.alloc (.cells #[.int .i64 c,.string s,.bool b] 113)).alloc (.cells #[.int .i64 d,.string t,.bool b'] 113)):=((Below.refl _ _).alloc (Nat.le_refl _) _).alloc (by simp) _
  go_enter Tryz.func121,Tryz.ntmps121
  go_wp2
  go_ret
  exact ⟨rfl,hB⟩
structure Sq (ns:List Note) (n g cap k m:Nat) (w wr:World) (xs:List Value):Prop where
  own:wr.ownsRow 0 113 3 (.slice (some ⟨g,0,none⟩) n cap) n xs
  front:xs.take (k*3)=nc (compN (ns.take m))
  len:(compN (ns.take m)).length=k
  back:xs.drop ((m - 1)*3)=nc (ns.drop (m - 1))
  kp:Kp [g] w wr
theorem Sq.below {ns:List Note} {n g cap k m:Nat} {w wr W:World} {xs:List Value} (h:Sq ns n g cap k m w wr xs) (hW:Below wr.heap.size wr W):Sq ns n g cap k m w W xs :=
  ⟨ownsRow_heap h.own fun q hq=>hW.block q (h.own.lt q hq).2,h.front,h.len,h.back,h.kp.belowThen hW⟩
theorem Sq.cells {ns:List Note} {n g cap k m:Nat} {w wr:World} {xs:List Value} (h:Sq ns n g cap k m w wr xs) {j:Nat} {x:Note} (hj:m - 1<=j) (hx:ns[j]?=some x) :
    wr.cell? ⟨g,j*3,none⟩=some (.int .i64 (x.chg:Int))/\wr.cell? ⟨g,j*3+1,none⟩=some (sv x.name)/\wr.cell? ⟨g,j*3+2,none⟩=some (.bool x.was):=by
  have key:∀ t u,(nc ns)[j*3+t]?=some u->wr.cell? ⟨g,j*3+t,none⟩=some u:=fun t u hu=>by
    have e:xs[j*3+t]?=some u:=by
      have h1:(xs.drop ((m - 1)*3))[j*3+t - (m - 1)*3]?=some u:=by
        rw [h.back,<-nc_drop,List.getElem?_drop,show (m - 1)*3+(j*3+t - (m - 1)*3)=j*3+t by omega]
        exact hu
      rw [List.getElem?_drop,show (m - 1)*3+(j*3+t - (m - 1)*3)=j*3+t by omega] at h1
      exact h1
    have hl:=(List.getElem?_eq_some_iff.1 e).1
    rw [h.own.1] at hl
    rw [h.own.cellAt _ hl,e]
  obtain ⟨c0,c1,c2⟩:=nc_at ns j x hx
  exact ⟨key 0 _ c0,key 1 _ c1,key 2 _ c2⟩
theorem Sq.skip {ns:List Note} {n g cap k m:Nat} {w wr:World} {xs:List Value} (h:Sq ns n g cap k m w wr xs) (hm:0 < m) {x y:Note} (hy:ns[m - 1]?=some y) (hx:ns[m]?=some x) (he:x.name=y.name):Sq ns n g cap k (m+1) w wr xs:=by
  have e:=compN_take hm hy hx
  rw [if_pos he,List.append_nil] at e
  refine ⟨h.own,by rw [e];exact h.front,by rw [e];exact h.len,?_,h.kp⟩
  have hb:=congrArg (List.drop 3) h.back
  rw [List.drop_drop,<-nc_drop,List.drop_drop] at hb
  rw [<-nc_drop,show (m+1 - 1)*3=(m - 1)*3+3 by omega]
  exact hb
theorem Sq.next {ns:List Note} {n g cap m:Nat} {w wr:World} {xs:List Value} (h:Sq ns n g cap m m w wr xs) (hm:0 < m) {x y:Note} (hy:ns[m - 1]?=some y) (hx:ns[m]?=some x) (he:x.name≠y.name):Sq ns n g cap (m+1) (m+1) w wr xs:=by
  have e:=compN_take hm hy hx
  rw [if_neg he] at e
  have hb:=congrArg (List.drop 3) h.back
  rw [List.drop_drop,<-nc_drop,List.drop_drop] at hb
  have hb2:xs.drop (m*3)=nc (ns.drop m):=by rw [<-nc_drop,show m*3=(m - 1)*3+3 by omega];exact hb
  obtain ⟨l2,v2⟩:=List.getElem?_eq_some_iff.1 hx
  refine ⟨h.own,?_,by rw [e,List.length_append,h.len];rfl,by rw [Nat.add_sub_cancel];exact hb2,h.kp⟩
  rw [e,nc_app,<-h.front]
  have hd:ns.drop m=x :: ns.drop (m+1):=by rw [List.drop_eq_getElem_cons l2,v2]
  rw [show (m+1)*3=m*3+3 by omega,List.take_add,hb2,hd]
  rfl
theorem Sq.put {ns:List Note} {n g cap k m:Nat} {w wr:World} {xs:List Value} (h:Sq ns n g cap k m w wr xs) (hm:0 < m) (hkm:k < m) {x y:Note} (hy:ns[m - 1]?=some y) (hx:ns[m]?=some x) (he:x.name≠y.name) (hn:ns.length=n) {sx:ByteArray} (hsx:sv x.name=.string sx) :
    ∃ ys,Sq ns n g cap (k+1) (m+1) w (((wr.setCell ⟨g,k*3,none⟩ (.int .i64 (x.chg:Int))).setCell ⟨g,k*3+1,none⟩ (.string sx)).setCell ⟨g,k*3+2,none⟩ (.bool x.was)) ys:=by
  have e:=compN_take hm hy hx
  rw [if_neg he] at e
  have hb:=congrArg (List.drop 3) h.back
  rw [List.drop_drop,<-nc_drop,List.drop_drop] at hb
  have hb2:xs.drop (m*3)=nc (ns.drop m):=by rw [<-nc_drop,show m*3=(m - 1)*3+3 by omega];exact hb
  have hxl:=h.own.1
  obtain ⟨l2,_⟩:=List.getElem?_eq_some_iff.1 hx
  obtain ⟨o1,_⟩:=h.own.stored (k*3) (.int .i64 (x.chg:Int))
  obtain ⟨o2,_⟩:=o1.stored (k*3+1) (.string sx)
  obtain ⟨o3,_⟩:=o2.stored (k*3+2) (.bool x.was)
  refine ⟨_,o3,?_,by rw [e,List.length_append,h.len];rfl,?_,(((h.kp).setCell (ad:=⟨g,k*3,none⟩) (.inl (by simp)) _).setCell (ad:=⟨g,k*3+1,none⟩) (.inl (by simp)) _).setCell (ad:=⟨g,k*3+2,none⟩) (.inl (by simp)) _⟩
  · rw [e,nc_app,<-h.front]
    have e1:nc [x]=[.int .i64 (x.chg:Int),.string sx,.bool x.was]:=by unfold nc nc;rw [hsx]
    rw [e1]
    apply List.ext_getElem?
    intro t
    rw [List.getElem?_take]
    by_cases h1:t < k*3
    · rw [if_pos (by omega),List.getElem?_set_ne (by omega),List.getElem?_set_ne (by omega),List.getElem?_set_ne (by omega),List.getElem?_append_left (by rw [List.length_take];omega),List.getElem?_take,if_pos h1]
    · have hle:(xs.take (k*3)).length=k*3:=by rw [List.length_take];omega
      rw [List.getElem?_append_right (by omega),hle]
      rcases (by omega:t=k*3\/t=k*3+1\/t=k*3+2\/(k+1)*3<=t) with e | e | e | e
      · subst e
        rw [if_pos (by omega),List.getElem?_set_ne (by omega),List.getElem?_set_ne (by omega),List.getElem?_set_self (by omega)];simp
      · subst e
        rw [if_pos (by omega),List.getElem?_set_ne (by omega),List.getElem?_set_self (by rw [List.length_set];omega)];simp
      · subst e
        rw [if_pos (by omega),List.getElem?_set_self (by rw [List.length_set,List.length_set];omega)];simp
      · rw [if_neg (by omega),List.getElem?_eq_none (by simp;omega)]
  · rw [Nat.add_sub_cancel,List.drop_set_of_lt (by omega),List.drop_set_of_lt (by omega),List.drop_set_of_lt (by omega)]
    exact hb2
theorem compact_any (ns:List Note) (gb cap n:Nat) (w:World) (hn:ns.length=n) (hs:w.ownsRow 0 113 3 (.slice (some ⟨gb,0,none⟩) n cap) n (nc ns)) (hl:n<=1099511627776) :
    Calls Tryz.prog 120 #[.slice (some ⟨gb,0,none⟩) n cap,.func (.func 121) #[] #[]] w fun e w' =>
      (∃ m,e=.returned (.slice (some ⟨gb,0,none⟩) m cap)/\(compN ns).length=m/\w'.ownsRow 0 113 3 (.slice (some ⟨gb,0,none⟩) m cap) m (nc (compN ns)))/\Kp [gb] w w':=by
  have eg:∀ args w,(callFunc 121 args).run Tryz.prog w=.ok (.enter 121 args) w:=enters_of Tryz.func121 (by kernel_rfl) rfl
  have hn':=Lib.hid hn
  have hs':=Lib.hid hs
  have hcap:n<=cap/\cap<=maxLen:=by
    rcases hs.2 with ⟨h',_⟩ | ⟨g',cap',cur,h',_,_,h3,h4,_⟩
    · simp at h'
    · simp only [Value.slice.injEq] at h'
      obtain ⟨_,_,rfl⟩:=h'
      exact ⟨h3,h4⟩
  unfold maxLen at hcap
  obtain ⟨hcap1,hcap2⟩:=hcap
  by_cases h2:n < 2
  · have hc:compN ns=ns:=by
      match ns,hn with
      | [],_=>rfl
      | [a],_=>rfl
      | a :: b :: r,hn=>simp at hn;omega
    have h2z:(n:Int) < 2:=by omega
    clear hn hs eg
    go_enter Tryz.func120,Tryz.ntmps120
    go_wp2
    go_ret
    exact ⟨⟨n,rfl,by rw [hc];exact hn'.out,by rw [hc];exact hs'.out⟩,Kp.refl _ _⟩
  have h2z:¬ (n:Int) < 2:=by omega
  have hstart:Hid (Sq ns n gb cap 1 1 w w (nc ns)):=Lib.hid (by
    have h1:compN (ns.take 1)=ns.take 1:=by
      match ns,hn with
      | [],hn=>simp at hn;omega
      | a :: r,_=>rfl
    refine ⟨hs,by rw [h1];exact nc_take ns 1,by rw [h1,List.length_take];omega,by simp,Kp.refl _ _⟩)
  -- what two neighbours are
  have hat:∀ m,0 < m->m < n->∃ x y,ns[m]?=some x/\ns[m - 1]?=some y:=fun m h1 h2=>⟨_,_,List.getElem?_eq_getElem (by omega),List.getElem?_eq_getElem (by omega)⟩
  have hat':=Lib.hid hat
  clear hn hs hat
  go_enter Tryz.func120,Tryz.ntmps120
  go_wp2
  go_loopw [5] (fun s5 wr=>∃ k:Nat,s5=.int .i64 (k:Int)/\0 < k/\k<=n/\Hid (∃ xs,Sq ns n gb cap k k w wr xs)) (fun s5 _=>n - (RowKit.intOf s5).toNat)
  case atStart=>exact ⟨1,by first | rfl | go_num,by omega,by omega,Lib.hid ⟨_,hstart.out⟩⟩
  case round =>
    clear hstart
    obtain ⟨k,rfl,hk0,hkn,hS⟩:=hrel
    by_cases hlt:k < n
    · obtain ⟨xs,hS⟩:=hS.out
      obtain ⟨x,y,hx,hy⟩:=hat'.out k hk0 hlt
      obtain ⟨q,hq⟩:∃ q,k=q+1:=⟨k - 1,by omega⟩
      subst hq
      rw [Nat.add_sub_cancel] at hy
      obtain ⟨c0,c1,c2⟩:=hS.cells (by omega) hx
      obtain ⟨b0,b1,b2⟩:=hS.cells (j:=q) (by omega) hy
      obtain ⟨sx,hsx⟩:∃ sx:ByteArray,(⟨x.name.toArray⟩:ByteArray)=sx:=⟨_,rfl⟩
      obtain ⟨sy,hsy⟩:∃ sx:ByteArray,(⟨y.name.toArray⟩:ByteArray)=sx:=⟨_,rfl⟩
      have hcells:∀ W,Below wr.heap.size wr W->Below wr.heap.size wr W/\W.cell? ⟨gb,(q+1)*3,none⟩=some (.int .i64 (x.chg:Int))/\W.cell? ⟨gb,(q+1)*3+1,none⟩=some (.string sx)/\W.cell? ⟨gb,(q+1)*3+2,none⟩=some (.bool x.was)/\
          W.cell? ⟨gb,q*3,none⟩=some (.int .i64 (y.chg:Int))/\W.cell? ⟨gb,q*3+1,none⟩=some (.string sy)/\W.cell? ⟨gb,q*3+2,none⟩=some (.bool y.was):=fun W hW=>by
        obtain ⟨c0,c1,c2⟩:=(hS.below hW).cells (by omega) hx
        obtain ⟨b0,b1,b2⟩:=(hS.below hW).cells (j:=q) (by omega) hy
        rw [<-hsx,<-hsy]
        exact ⟨hW,c0,c1,c2,b0,b1,b2⟩
      have hcells':=Lib.hid hcells
      have cE:=sameN_any (x.chg:Int) (y.chg:Int) sx sy x.was y.was wr.drew
      have ez:(sx.toList==sy.toList)=decide (x.name=y.name):=by
        rw [Lib.toList_data,Lib.toList_data,<-hsx,<-hsy,Bool.eq_iff_iff,beq_iff_eq,decide_eq_true_iff]
      rw [ez] at cE
      have p1:(0:Int)<=(q:Int):=by omega
      have p2:(q:Int) < (n:Int):=by omega
      have p3:((q:Int)+1) < (n:Int):=by omega
      have p4:(0:Int)<=(q:Int)+1:=by omega
      have p5:((q:Int)+1).toNat=q+1:=by omega
      have p6:IntKind.i64.wrap (q:Int)=(q:Int):=by rw [IntKind.wrap_i64];omega
      unfold sv at c1 b1
      rw [hsx] at c1
      rw [hsy] at b1
      have hS':=Lib.hid hS
      clear hcells hS ez
      go_wp2_with fail
      go_region_held3 (fun W=>Below wr.heap.size wr W/\W.cell? ⟨gb,(q+1)*3,none⟩=some (.int .i64 (x.chg:Int))/\W.cell? ⟨gb,(q+1)*3+1,none⟩=some (.string sx)/\W.cell? ⟨gb,(q+1)*3+2,none⟩=some (.bool x.was)/\
          W.cell? ⟨gb,q*3,none⟩=some (.int .i64 (y.chg:Int))/\W.cell? ⟨gb,q*3+1,none⟩=some (.string sy)/\W.cell? ⟨gb,q*3+2,none⟩=some (.bool y.was))
        (refine hcells'.out _ ?_<;>first | assumption | exact Below.drew (Below.refl _ _))
        (first | (go_at_fn 121;refine cE.mono ?_;rintro e wx ⟨rfl,hbx⟩;have hbx2:Below wr.heap.size wr wx:=⟨hbx.os,hbx.tape,hbx.output,hbx.size,hbx.block⟩))
      by_cases hxy:x.name=y.name
      rotate_left
      · have hS2:=Lib.hid (show ∃ xs,Sq ns n gb cap (q+1+1) (q+1+1) w wx xs from ⟨_,(hS'.out.below hbx2).next (by omega) hy hx hxy⟩)
        rw [decide_eq_false hxy]
        clear cE hbx hbx2 hS' hxy c0 c1 c2 b0 b1 b2
        go_wp2
        go_roundw
        case rel=>exact ⟨q+1+1,by go_num,by omega,by omega,hS2⟩
        case measure=>simp [RowKit.intOf];omega
      have hS2:=Lib.hid (show ∃ xs,Sq ns n gb cap (q+1) (q+1+0+1) w wx xs from ⟨_,(hS'.out.below hbx2).skip (by omega) hy hx hxy⟩)
      rw [decide_eq_true hxy]
      clear cE hbx hbx2 hS' hxy c0 c1 c2 b0 b1 b2 hx hy hsx hsy hcells'
      have p7:((q:Int)+1)<=(n:Int):=by omega
      have p8:((q:Int)+1)<=(cap:Int):=by omega
      go_wp2
      go_loopw [5,7] (fun s5 s7 wr=>∃ k i:Nat,s5=.int .i64 (k:Int)/\s7=.int .i64 ((i+1:Nat):Int)/\k < q+1+i+1/\q+1+i+1<=n/\Hid (∃ xs,Sq ns n gb cap k (q+1+i+1) w wr xs)) (fun _ s7 _=>n - (RowKit.intOf s7).toNat)
      case atStart=>exact ⟨q+1,0,by go_num,by go_num,by omega,by omega,hS2⟩
      case round =>
        clear hS2
        obtain ⟨k,i,rfl,rfl,hki,him,hS⟩:=hrel
        obtain ⟨xs,hS⟩:=hS.out
        by_cases hlt2:q+1+i+1 < n
        · obtain ⟨x,y,hx,hy⟩:=hat'.out (q+1+i+1) (by omega) hlt2
          rw [Nat.add_sub_cancel] at hy
          obtain ⟨sx,hsx⟩:∃ sx:ByteArray,(⟨x.name.toArray⟩:ByteArray)=sx:=⟨_,rfl⟩
          obtain ⟨sy,hsy⟩:∃ sx:ByteArray,(⟨y.name.toArray⟩:ByteArray)=sx:=⟨_,rfl⟩
          have e1:(q+1+i+1)*3=(q+1)*3+(i+1)*3:=by omega
          have e2:(q+1+i)*3=(q+1)*3+i*3:=by omega
          have hcells:∀ W,Below wr.heap.size wr W->Below wr.heap.size wr W/\W.cell? ⟨gb,(q+1)*3+(i+1)*3,none⟩=some (.int .i64 (x.chg:Int))/\W.cell? ⟨gb,(q+1)*3+(i+1)*3+1,none⟩=some (.string sx)/\W.cell? ⟨gb,(q+1)*3+(i+1)*3+2,none⟩=some (.bool x.was)/\
              W.cell? ⟨gb,(q+1)*3+i*3,none⟩=some (.int .i64 (y.chg:Int))/\W.cell? ⟨gb,(q+1)*3+i*3+1,none⟩=some (.string sy)/\W.cell? ⟨gb,(q+1)*3+i*3+2,none⟩=some (.bool y.was):=fun W hW=>by
            obtain ⟨c0,c1,c2⟩:=(hS.below hW).cells (by omega) hx
            obtain ⟨b0,b1,b2⟩:=(hS.below hW).cells (by omega) hy
            rw [<-hsx,<-hsy,<-e1,<-e2]
            exact ⟨hW,c0,c1,c2,b0,b1,b2⟩
          obtain ⟨_,c0,c1,c2,b0,b1,b2⟩:=hcells wr (Below.refl _ _)
          have hcells':=Lib.hid hcells
          have cE:=sameN_any (x.chg:Int) (y.chg:Int) sx sy x.was y.was wr.drew
          have ez:(sx.toList==sy.toList)=decide (x.name=y.name):=by
            rw [Lib.toList_data,Lib.toList_data,<-hsx,<-hsy,Bool.eq_iff_iff,beq_iff_eq,decide_eq_true_iff]
          rw [ez] at cE
          have r1:(0:Int)<=(i:Int):=by omega
          have r2:(i:Int) < ((n - (q+1):Nat):Int):=by omega
          have r3:((i:Int)+1) < ((n - (q+1):Nat):Int):=by omega
          have r4:(0:Int)<=(i:Int)+1:=by omega
          have r5:((i:Int)+1).toNat=i+1:=by omega
          have r6:IntKind.i64.wrap (i:Int)=(i:Int):=by rw [IntKind.wrap_i64];omega
          have r7:((i+1:Nat):Int) < ((n - (q+1):Nat):Int):=by omega
          have hS':=Lib.hid hS
          clear hcells hS ez e1 e2
          go_wp2_with fail
          go_region_held3 (fun W=>Below wr.heap.size wr W/\W.cell? ⟨gb,(q+1)*3+(i+1)*3,none⟩=some (.int .i64 (x.chg:Int))/\W.cell? ⟨gb,(q+1)*3+(i+1)*3+1,none⟩=some (.string sx)/\W.cell? ⟨gb,(q+1)*3+(i+1)*3+2,none⟩=some (.bool x.was)/\
              W.cell? ⟨gb,(q+1)*3+i*3,none⟩=some (.int .i64 (y.chg:Int))/\W.cell? ⟨gb,(q+1)*3+i*3+1,none⟩=some (.string sy)/\W.cell? ⟨gb,(q+1)*3+i*3+2,none⟩=some (.bool y.was))
            (refine hcells'.out _ ?_<;>first | assumption | exact Below.drew (Below.refl _ _))
            (first | (go_at_fn 121;refine cE.mono ?_;rintro e wx ⟨rfl,hbx⟩;have hbx2:Below wr.heap.size wr wx:=⟨hbx.os,hbx.tape,hbx.output,hbx.size,hbx.block⟩))
          by_cases hxy:x.name=y.name
          · have hS2:=Lib.hid (show ∃ xs,Sq ns n gb cap k (q+1+(i+1)+1) w wx xs from ⟨_,(hS'.out.below hbx2).skip (by omega) (by rw [Nat.add_sub_cancel];exact hy) hx hxy⟩)
            rw [decide_eq_true hxy]
            clear cE hbx hbx2 hS' hxy c0 c1 c2 b0 b1 b2 hx hy hsx hsy hcells'
            go_wp2
            go_roundw
            case rel=>exact ⟨k,i+1,rfl,by go_num,by omega,by omega,hS2⟩
            case measure=>simp [RowKit.intOf];omega
          · have hput:=(hS'.out.below hbx2).put (by omega) hki (by rw [Nat.add_sub_cancel];exact hy) hx hxy hn'.out (sx:=sx) (by unfold sv;rw [hsx])
            have hput':=Lib.hid hput
            have hown:=(hS'.out.below hbx2).own
            have hxl:=hown.1
            have t0:=hown.cellAt (k*3) (by omega)
            have t1:=hown.cellAt (k*3+1) (by omega)
            have t2:=hown.cellAt (k*3+2) (by omega)
            rw [List.getElem?_eq_getElem (by omega)] at t0 t1 t2
            have f0:=hown.frozenAt (k*3)
            have f1:=hown.frozenAt (k*3+1)
            have f2:=hown.frozenAt (k*3+2)
            generalize xs[k*3]'_=v0 at t0
            generalize xs[k*3+1]'_=v1 at t1
            generalize xs[k*3+2]'_=v2 at t2
            obtain ⟨_,g0,g1,g2,_,_,_⟩:=hcells'.out wx hbx2
            have u1:(0:Int)<=(k:Int):=by omega
            have u2:(k:Int) < (n:Int):=by omega
            rw [decide_eq_false hxy]
            clear cE hbx hbx2 hS' hxy c0 c1 c2 b0 b1 b2 hx hy hsx hsy hcells' hown hput hxl
            go_wp2
            go_roundw
            case rel=>exact ⟨k+1,i+1,by go_num,by go_num,by omega,by omega,hput'⟩
            case measure=>simp [RowKit.intOf];omega
        · have hmn:q+1+i+1=n:=by omega
          rw [hmn] at hS
          have hall:ns.take n=ns:=List.take_of_length_le (by rw [hn'.out];exact Nat.le_refl _)
          have hown':=Lib.hid hS.own
          have hfr:=hS.front
          rw [hall] at hfr
          have hfin:∀ W,W.ownsRow 0 113 3 (.slice (some ⟨gb,0,none⟩) k cap) k (xs.take (k*3))->wr.grownBy W (some gb)->(compN ns).length=k/\W.ownsRow 0 113 3 (.slice (some ⟨gb,0,none⟩) k cap) k (nc (compN ns))/\Kp [gb] w W:=fun W o1 o2=>by
            rw [hfr] at o1
            exact ⟨by rw [<-hS.len,hall],o1,hS.kp.grown o2 fun j hj=>by cases hj;exact .inl (by simp)⟩
          have hfin':=Lib.hid hfin
          have v1:¬ ((i+1:Nat):Int) < ((n - (q+1):Nat):Int):=by omega
          have v2:(k:Int)<=(n:Int):=by omega
          have v3:(k:Int)<=(cap:Int):=by omega
          clear hS hall hfr hfin
          go_wp2_with (first | (refine wp_clear rfl _ rfl hown'.out (by omega) _ rfl ?_;intro w5 ho5 hg5) | fail)
          have hX:=Lib.hid (hfin'.out w5 ho5 hg5)
          clear ho5 hg5 hfin' hown'
          go_wp2
          go_ret
          exact ⟨⟨k,rfl,hX.out.1,hX.out.2.1⟩,hX.out.2.2⟩
    · obtain rfl:k=n:=by omega
      obtain ⟨xs,hS⟩:=hS.out
      have hall:ns.take k=ns:=List.take_of_length_le (by rw [hn'.out];exact Nat.le_refl _)
      have hfin:=Lib.hid (show (compN ns).length=k/\wr.ownsRow 0 113 3 (.slice (some ⟨gb,0,none⟩) k cap) k (nc (compN ns))/\Kp [gb] w wr from by
        have h1:=hS.front
        rw [hall,List.take_of_length_le (by rw [hS.own.1];exact Nat.le_refl _)] at h1
        refine ⟨by rw [<-hS.len,hall],by rw [<-h1];exact hS.own,hS.kp⟩)
      clear hS hall
      go_wp2
      go_ret
      exact ⟨⟨k,rfl,hfin.out.1,hfin.out.2.1⟩,hfin.out.2.2⟩
end Bo
namespace Bs
open Ca
open Go.Shelf Go.RowKit Go.Lib Go.Sort
structure SrtP (P:Program) (k:Nat):Prop where
  mixed:P.follows .mixedOrders=true
  fSort:P.funcs[117]?=some Tryz.f117
  fStable:P.funcs[147]?=some Tryz.f147
  fIns:P.funcs[171]?=some Tryz.f171
  fSym:P.funcs[172]?=some Tryz.f172
  fRot:P.funcs[202]?=some Tryz.f202
  fSwap:P.funcs[232]?=some Tryz.f232
  t0:P.underlying 0=some (TypeDesc.tuple #[])
  a0:∀ w,(isAgg 0).run P w=.ok false w
  z0:∀ w,(Go.sizeOf 0).run P w=.ok 1 w
  v0:∀ w,(zeroValue 0).run P w=.ok (Value.tuple #[]) w
  t3:P.underlying 3=some (TypeDesc.int IntKind.i64)
  a3:∀ w,(isAgg 3).run P w=.ok false w
  z3:∀ w,(Go.sizeOf 3).run P w=.ok 1 w
  v3:∀ w,(zeroValue 3).run P w=.ok (Value.int IntKind.i64 0) w
  tU:P.underlying 41=some (TypeDesc.int IntKind.u64)
  aU:∀ w,(isAgg 41).run P w=.ok false w
  zU:∀ w,(Go.sizeOf 41).run P w=.ok 1 w
  t4:P.underlying 4=some (TypeDesc.bool)
  a4:∀ w,(isAgg 4).run P w=.ok false w
  z4:∀ w,(Go.sizeOf 4).run P w=.ok 1 w
  v4:∀ w,(zeroValue 4).run P w=.ok (Value.bool false) w
  tS:P.underlying 90=some (TypeDesc.slice 113)
  aS:∀ w,(isAgg 90).run P w=.ok false w
  zS:∀ w,(Go.sizeOf 90).run P w=.ok 1 w
  vS:∀ w,(zeroValue 90).run P w=.ok (Value.slice none 0 0) w
  tC:P.underlying 176=some (TypeDesc.func #[113,113] #[3] false)
  aC:∀ w,(isAgg 176).run P w=.ok false w
  zC:∀ w,(Go.sizeOf 176).run P w=.ok 1 w
  aE:∀ w,(isAgg 113).run P w=.ok true w
  zE:∀ w,(Go.sizeOf 113).run P w=.ok k w
theorem srtP:SrtP Tryz.prog 3 where
  mixed:=by kernel_rfl
  fSort:=Tryz.func117
  fStable:=Tryz.func147
  fIns:=Tryz.func171
  fSym:=Tryz.func172
  fRot:=Tryz.func202
  fSwap:=Tryz.func232
  t0:=Tryz.underlying0
  a0:=fun w=>by kernel_rfl
  z0:=fun w=>by kernel_rfl
  v0:=fun w=>by kernel_rfl
  t3:=Tryz.underlying3
  a3:=fun w=>by kernel_rfl
  z3:=fun w=>by kernel_rfl
  v3:=fun w=>by kernel_rfl
  tU:=Tryz.underlying41
  aU:=fun w=>by kernel_rfl
  zU:=fun w=>by kernel_rfl
  t4:=Tryz.underlying4
  a4:=fun w=>by kernel_rfl
  z4:=fun w=>by kernel_rfl
  v4:=fun w=>by kernel_rfl
  tS:=Tryz.underlying90
  aS:=fun w=>by kernel_rfl
  zS:=fun w=>by kernel_rfl
  vS:=fun w=>by kernel_rfl
  tC:=Tryz.underlying176
  aC:=fun w=>by kernel_rfl
  zC:=fun w=>by kernel_rfl
  aE:=fun w=>by kernel_rfl
  zE:=fun w=>by kernel_rfl
variable {P:Program} {α:Type} [Inhabited α] {k:Nat}
theorem swapRange_srt (L:SrtP P k) (enc:α->List Value) (g:Nat) (cb:Array Value) (blk off cap len a b n:Nat) (d0:Array α) (w0 w:World) (R:RowK enc k w0 blk off d0) (hs:d0.size=len) (PX X Q Y S:List α)
    (hx:X.length=n) (hy:Y.length=n) (ha:a=PX.length) (hb:b=PX.length+n+Q.length) (hl:PX.length+n+Q.length+n+S.length=len) (S0:SWK enc k w0 blk off (PX++(X++(Q++(Y++S)))).toArray w) (hsz:len < 4611686018427387904) :
    Calls P 232 #[.slice (some ⟨blk,off,none⟩) len cap,.int .i64 a,.int .i64 b,.int .i64 n,.func (.func g) #[] cb] w fun e w'=>e=.returned (.tuple #[])/\SWK enc k w0 blk off (PX++(Y++(Q++(X++S)))).toArray w':=by
  have mixed:=L.mixed;have t0:=L.t0;have a0:=L.a0;have z0:=L.z0;have v0:=L.v0;have t3:=L.t3;have a3:=L.a3;have z3:=L.z3;have v3:=L.v3;have t4:=L.t4;have a4:=L.a4;have z4:=L.z4;have v4:=L.v4;have tS:=L.tS;have aS:=L.aS;have zS:=L.zS;have vS:=L.vS;have tC:=L.tC;have aC:=L.aC;have zC:=L.zC;have aE:=L.aE;have zE:=L.zE
  have FG:=L.fSwap
  have hlk:∀ i,i<=n->(rng PX X Q Y S i).toArray.size=len:=fun i hi=>by
    rw [List.size_toArray,rng_len PX X Q Y S n i hx hy hi];exact hl
  have HLK:Aside (∀ i,i<=n->(rng PX X Q Y S i).toArray.size=len):=hlk
  have ST:Aside (∀ i j t:Nat,t < n->i=PX.length+t->j=PX.length+n+Q.length+t->swp (rng PX X Q Y S t).toArray i j=(rng PX X Q Y S (t+1)).toArray):=fun i j t ht hi hj=>rng_step PX X Q Y S n t i j hx hy ht hi hj
  have E0:Aside (SWK enc k w0 blk off (rng PX X Q Y S 0).toArray w):=by show SWK _ _ _ _ _ _ _;rw [rng_zero];exact S0
  have E1:Aside ((rng PX X Q Y S n).toArray=(PX++(Y++(Q++(X++S)))).toArray):=by show _=_;rw [rng_all PX X Q Y S n hx hy]
  have ha1:a<=PX.length:=by omega
  have ha2:PX.length<=a:=by omega
  have hb1:b<=PX.length+n+Q.length:=by omega
  have hb2:PX.length+n+Q.length<=b:=by omega
  have hl1:PX.length+n+Q.length+n+S.length<=len:=by omega
  clear S0 hlk L ha hb hl hx hy
  go_enter FG,Tryz.ntmps232
  go_wp2
  go_loopg [10] n (fun kx s10 wr=>∃ (i:Nat),s10=.int .i64 i/\i<=n/\n - i<=kx/\Aside (SWK enc k w0 blk off (rng PX X Q Y S i).toArray wr))
  case atStart=>exact ⟨0,by first | rfl | go_num,Nat.zero_le _,by omega,E0⟩
  case round =>
    clear E0
    obtain ⟨i,rfl,hin,hkx,S1⟩:=hrel
    by_cases hlt:i < n
    · have hltz:(i:Int) < (n:Int):=by omega
      have hsi:=HLK.out i hin
      have hst:=ST.out (a+i) (b+i) i hlt (by omega) (by omega)
      obtain ⟨dk,hdk⟩:∃ dk,(rng PX X Q Y S i).toArray=dk:=⟨_,rfl⟩
      rw [hdk] at hsi hst S1
      have ea:((a:Int)+(i:Int)).toNat=a+i:=by omega
      have pa:(0:Int)<=(a:Int)+(i:Int):=by omega
      have ba:(a:Int)+(i:Int) < (len:Int):=by omega
      have ra:IntKind.i64.wrap ((a:Int)+(i:Int))=(a:Int)+(i:Int):=by rw [IntKind.wrap_i64];omega
      have eb:((b:Int)+(i:Int)).toNat=b+i:=by omega
      have pb:(0:Int)<=(b:Int)+(i:Int):=by omega
      have bb:(b:Int)+(i:Int) < (len:Int):=by omega
      have rb:IntKind.i64.wrap ((b:Int)+(i:Int))=(b:Int)+(i:Int):=by rw [IntKind.wrap_i64];omega
      have S2:Aside (SWK enc k w0 blk off (swp dk (a+i) (b+i)) ((wr.drew.setCells blk (off+(a+i)*k) (enc dk[b+i]!)).setCells blk (off+(b+i)*k) (enc dk[a+i]!))):=S1.out.swapped R (a+i) (b+i) (by omega) (by omega)
      have l1:=S1.out.ld1 R (by omega) P (a+i) (by omega)
      have l2:=S1.out.ld1 R (by omega) P (b+i) (by omega)
      have s1:=S1.out.st1 R (by omega) P (a+i) (by omega) dk[b+i]!
      have s2:=S1.out.st2 R (by omega) P (a+i) (b+i) (by omega) (by omega) dk[b+i]! dk[a+i]!
      have n1:(enc dk[a+i]!).length=k:=R.hk _
      have n2:(enc dk[b+i]!).length=k:=R.hk _
      generalize enc dk[a+i]! = cI at S2 l1 s2 n1
      generalize enc dk[b+i]! = cJ at S2 l2 s1 s2 n2
      rw [hst] at S2
      clear S1 hst hdk
      go_wp2_with fail
      go_big_region_o
      clear l1 l2 s1 s2
      generalize (wr.drew.setCells blk (off+(a+i)*k) cJ).setCells blk (off+(b+i)*k) cI=w2 at S2 ⊢
      go_wp2
      go_roundg (n - (i+1))
      case measure=>omega
      case rel=>exact ⟨i+1,by go_num,by omega,Nat.le_refl _,S2⟩
    · have hltz:¬ (i:Int) < (n:Int):=by omega
      obtain rfl:i=n:=by omega
      go_wp2
      go_end0
      exact ⟨rfl,E1.out▸S1.out⟩
structure RotAt (enc:α->List Value) (k:Nat) (w0:World) (blk off len m i j:Nat) (T:List α) (wr:World) (Pk Xk Yk Sk:List α):Prop where
  x:Xk.length=i
  y:Yk.length=j
  p:Pk.length+i=m
  l:Pk.length+i+j+Sk.length=len
  s:SWK enc k w0 blk off (Pk++(Xk++(Yk++Sk))).toArray wr
  t:Pk++(Yk++(Xk++Sk))=T
theorem rotate_srt (L:SrtP P k) (enc:α->List Value) (g:Nat) (cb:Array Value) (blk off cap len a m b:Nat) (d0:Array α) (w0 w:World) (R:RowK enc k w0 blk off d0) (hs:d0.size=len) (PX X Y S:List α)
    (ha:a=PX.length) (hm:m=a+X.length) (hb:b=m+Y.length) (hx:0 < X.length) (hy:0 < Y.length) (hl:PX.length+X.length+Y.length+S.length=len) (S0:SWK enc k w0 blk off (PX++(X++(Y++S))).toArray w) (hsz:len < 4611686018427387904) :
    Calls P 202 #[.slice (some ⟨blk,off,none⟩) len cap,.int .i64 a,.int .i64 m,.int .i64 b,.func (.func g) #[] cb] w fun e w'=>e=.returned (.tuple #[])/\SWK enc k w0 blk off (PX++(Y++(X++S))).toArray w':=by
  have mixed:=L.mixed;have t0:=L.t0;have a0:=L.a0;have z0:=L.z0;have v0:=L.v0;have t3:=L.t3;have a3:=L.a3;have z3:=L.z3;have v3:=L.v3;have t4:=L.t4;have a4:=L.a4;have z4:=L.z4;have v4:=L.v4;have tS:=L.tS;have aS:=L.aS;have zS:=L.zS;have vS:=L.vS;have tC:=L.tC;have aC:=L.aC;have zC:=L.zC;have aE:=L.aE;have zE:=L.zE
  have FG:=L.fRot
  have eg:∀ args w,(callFunc 232 args).run P w=.ok (.enter 232 args) w:=enters_of L.fSwap (by kernel_rfl) rfl
  have CS:Aside (∀ (A B n:Nat) (W:World) (P1 X1 Q1 Y1 S1:List α),X1.length=n->Y1.length=n->A=P1.length->B=P1.length+n+Q1.length->P1.length+n+Q1.length+n+S1.length=len->SWK enc k w0 blk off (P1++(X1++(Q1++(Y1++S1)))).toArray W->
      Calls P 232 #[.slice (some ⟨blk,off,none⟩) len cap,.int .i64 A,.int .i64 B,.int .i64 n,.func (.func g) #[] cb] W fun e w'=>e=.returned (.tuple #[])/\SWK enc k w0 blk off (P1++(Y1++(Q1++(X1++S1)))).toArray w') :=
    fun A B n W P1 X1 Q1 Y1 S1 h1 h2 h3 h4 h5 h6=>swapRange_srt L enc g cb blk off cap len A B n d0 w0 W R hs P1 X1 Q1 Y1 S1 h1 h2 h3 h4 h5 h6 hsz
  obtain ⟨T,hT⟩:∃ T,PX++(Y++(X++S))=T:=⟨_,rfl⟩
  have R0:RotAt enc k w0 blk off len m X.length Y.length T w PX X Y S:=⟨rfl,rfl,by omega,by omega,S0,hT⟩
  rw [hT]
  have i1:(m:Int) - (a:Int)=(X.length:Int):=by omega
  have i2:(b:Int) - (m:Int)=(Y.length:Int):=by omega
  have hbl:b<=len:=by omega
  have hma:a<=m:=by omega
  have hmb:m<=b:=by omega
  clear S0 L hT ha hm hb hl
  go_enter FG,Tryz.ntmps202
  go_wp2
  go_loopg [10,11] (X.length+Y.length) (fun kx s10 s11 wr=>∃ (i j:Nat) (Pk Xk Yk Sk:List α),s10=.int .i64 i/\s11=.int .i64 j/\0 < i/\0 < j/\i+j<=kx/\RotAt enc k w0 blk off len m i j T wr Pk Xk Yk Sk)
  case atStart=>exact ⟨X.length,Y.length,PX,X,Y,S,by first | rfl | go_num,by first | rfl | go_num,hx,hy,Nat.le_refl _,R0⟩
  case round =>
    clear R0
    obtain ⟨i,j,Pk,Xk,Yk,Sk,rfl,rfl,hi0,hj0,hkx,RA⟩:=hrel
    have p1:i<=m:=by have:=RA.p;omega
    have p2:m+j<=len:=by have:=RA.p;have:=RA.l;omega
    obtain ⟨A,hA⟩:∃ A:Nat,A=m - i:=⟨_,rfl⟩
    have eA:(m:Int) - (i:Int)=(A:Int):=by omega
    by_cases hij:i=j
    · subst hij
      have c:=CS.out A m i wr Pk Xk [] Yk Sk RA.x RA.y (by have:=RA.p;omega) (by have:=RA.p;simp;omega) (by have:=RA.l;simp;omega) (by simpa using RA.s)
      have hT:=RA.t
      clear hA CS
      go_wp2_with fail
      go_at_call 232
      refine c.mono ?_
      rintro e w1 ⟨rfl,hS⟩
      go_wp2
      go_end0
      exact ⟨rfl,by rw [<-hT];simpa using hS⟩
    · have hne:¬ (i:Int)=(j:Int):=by omega
      by_cases hgt:j < i
      · have hgtz:(j:Int) < (i:Int):=by omega
        have hlX:(Xk.take j).length=j:=by have:=RA.x;simp;omega
        have hlD:(Xk.drop j).length=i - j:=by have:=RA.x;simp;omega
        have c:=CS.out A m j wr Pk (Xk.take j) (Xk.drop j) Yk Sk hlX RA.y (by have:=RA.p;omega) (by have:=RA.p;omega) (by have:=RA.l;omega) (by rw [<-List.append_assoc (Xk.take j),List.take_append_drop];exact RA.s)
        have RN:∀ W,SWK enc k w0 blk off (Pk++(Yk++(Xk.drop j++(Xk.take j++Sk)))).toArray W->RotAt enc k w0 blk off len m (i - j) j T W (Pk++Yk) (Xk.drop j) (Xk.take j) Sk:=fun W h =>
          ⟨hlD,hlX,by have:=RA.p;have:=RA.y;simp;omega,by have:=RA.l;have:=RA.y;simp;omega,by rw [List.append_assoc];exact h,by
            rw [<-RA.t];conv=>rhs;rw [<-List.take_append_drop j Xk]
            simp only [List.append_assoc]⟩
        have RN':=Lib.hid RN
        clear hA CS RN RA hlX hlD
        go_wp2_with fail
        go_at_call 232
        refine c.mono ?_
        rintro e w1 ⟨rfl,hS⟩
        have RM:=RN'.out _ hS
        clear c hS RN'
        go_wp2
        go_roundg (i - j+j)
        case measure=>omega
        case rel=>exact ⟨i - j,j,_,_,_,_,by first | rfl | go_num | (congr 1;omega),rfl,by omega,hj0,Nat.le_refl _,RM⟩
      · have hgtz:¬ (j:Int) < (i:Int):=by omega
        obtain ⟨B,hB⟩:∃ B:Nat,B=m+j - i:=⟨_,rfl⟩
        have eB:(m:Int)+(j:Int) - (i:Int)=(B:Int):=by omega
        have hlT:(Yk.take (j - i)).length=j - i:=by have:=RA.y;simp;omega
        have hlD:(Yk.drop (j - i)).length=i:=by have:=RA.y;simp;omega
        have c:=CS.out A B i wr Pk Xk (Yk.take (j - i)) (Yk.drop (j - i)) Sk RA.x hlD (by have:=RA.p;omega) (by have:=RA.p;omega) (by have:=RA.l;omega) (by rw [<-List.append_assoc (Yk.take (j - i)),List.take_append_drop];exact RA.s)
        have RN:∀ W,SWK enc k w0 blk off (Pk++(Yk.drop (j - i)++(Yk.take (j - i)++(Xk++Sk)))).toArray W->RotAt enc k w0 blk off len m i (j - i) T W Pk (Yk.drop (j - i)) (Yk.take (j - i)) (Xk++Sk):=fun W h =>
          ⟨hlD,hlT,RA.p,by have:=RA.l;have:=RA.x;simp;omega,h,by
            rw [<-RA.t];conv=>rhs;rw [<-List.take_append_drop (j - i) Yk]
            simp only [List.append_assoc]⟩
        have RN':=Lib.hid RN
        clear hA hB CS RN RA hlT hlD
        go_wp2_with fail
        go_at_call 232
        refine c.mono ?_
        rintro e w1 ⟨rfl,hS⟩
        have RM:=RN'.out _ hS
        clear c hS RN'
        go_wp2
        go_roundg (i+(j - i))
        case measure=>omega
        case rel=>exact ⟨i,j - i,_,_,_,_,rfl,by first | rfl | go_num | (congr 1;omega),hi0,by omega,Nat.le_refl _,RM⟩
end Bs
end Go.Proofs.YtobfaibofhmpgaaGreatDoor
