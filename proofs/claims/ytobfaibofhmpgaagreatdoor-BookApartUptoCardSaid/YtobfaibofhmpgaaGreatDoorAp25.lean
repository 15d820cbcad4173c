import Derived.Test.YtobfaibofhmpgaaGreatDoorAp3
import Derived.Test.YtobfaibofhmpgaaGreatDoorAp5
import Derived.Sort.OwnSorted
import Derived.Lib.SliceRun
import Derived.Laws.IdiomCopy
import Derived.Shelf.GgClosure.Gives
set_option linter.unusedVariables false
set_option maxRecDepth 100000
set_option maxHeartbeats 8000000
namespace Go.Proofs.YtobfaibofhmpgaaGreatDoor
namespace Bo
open Go.Lib Go.RowKit Go.Maps Go.Sort
theorem infoStr:(Tryz.prog.info? 9).map (fun i=>(i.zero,i.size,i.bytes))=some (some (.string ⟨#[]⟩),1,16):=by kernel_rfl
theorem info_parts {t:TypeId} {z:Value} {n m:Nat} (h:(Tryz.prog.info? t).map (fun i=>(i.zero,i.size,i.bytes))=some (some z,n,m)):∃ i0,Tryz.prog.info? t=some i0/\i0.zero=some z/\i0.size=n/\i0.bytes=m:=by
  obtain ⟨i,h1,h2⟩:=Option.map_eq_some_iff.1 h
  simp only [Prod.mk.injEq] at h2
  exact ⟨i,h1,h2.1,h2.2.1,h2.2.2⟩
theorem strKeys_of {l:List (Lit × DataW Value)} {M:List (Row × Value)} (h:l.Perm (M.map ent)):(strKeys (.map l)).Perm (M.map Prod.fst):=by
  have:=h.map fun p:Lit × DataW Value=>strOf p.1
  rw [List.map_map] at this
  exact this
theorem namesB_any (w:World) (b:Nat) (M:List (Row × Value)) (ns:List Row) (hM:MapIs Tryz.prog 9 w b M) (hp:(M.map Prod.fst).Perm ns) (hr:Rise ns) (hl:ns.length<=1099511627776) :
    Calls Tryz.prog 39 #[.map (some b)] w fun e w'=>(∃ v,e=.returned v/\w'.ownsRow w.heap.size 9 1 v ns.length (ns.map encStr))/\Below w.heap.size w w':=by
  obtain ⟨i0,hi,hz0,hz1,hz2⟩:=info_parts infoStr
  have hbl:=hM.lt
  have hsz:M.length=ns.length:=by rw [<-hp.length_eq,List.length_map]
  obtain ⟨l,hown,hperm⟩:=hM
  have hD:Maps.size (DataW.map l)=ns.length:=by show l.length=_;rw [hperm.length_eq,List.length_map,hsz]
  have hfin:∀ ss:List Row,ss.Perm (strKeys (DataW.map l))->ss.mergeSort (fun x y=>decide (x<=y))=ns:=fun ss hs=>rise_sort hr (hs.trans ((strKeys_of hperm).trans hp))
  have hfin':=Lib.hid hfin
  have hD':=Lib.hid hD
  rw [hsz] at hown
  clear hp hr hperm hfin hsz hD
  go_enter Tryz.func39,Tryz.ntmps39
  go_wp2_with (first | (at_range;refine wpList_range_own _ rfl _ 59 rfl 9 62 keyed Tryz.underlying59 hR b _ _ rfl hown ?_;intro w0 hrg0 hg0 hs0) | go_in)
  go_frame
  have hs0':=Lib.hid hs0
  clear hs0
  go_loopw [3] (fun v wr=>∃ (left:Lit->Bool) (cnt:Nat) (ss:List Row),wr.ranges Tryz.prog 9 hR b w.heap.size ns.length (.map l) left cnt/\ss.length+cnt<=ns.length/\
      wr.ownsRow w.heap.size 9 1 v ss.length (ss.map encStr)/\Collected (.map l) left ss/\Below w.heap.size w wr)
    (fun _ wr=>wr.rangeLeft b w.heap.size)
  case atStart =>
    refine ⟨_,_,[],hrg0,by rw [hD'.out];simp,World.ownsRow_nil _ _ _ 1,Collected.start _,(Below.refl _ _).grown hg0 (Nat.le_refl _) (fun j hj=>by cases hj)⟩
  case round =>
    obtain ⟨left,cnt,ss,hrg,hcs,hrow,hC,hnx⟩:=hrel
    go_wp2_with (first
      | (at_next;refine wpList_next_ranges _ rfl _ rfl 9 keyed hR encStr id (fun key kl hk=>by obtain ⟨x,hx,_⟩:=Maps.keyOf_str Tryz.underlying9 hk;exact ⟨x,hx⟩) (fun v y hv=>⟨v,rfl⟩) b w.heap.size ns.length _ _ _ rfl hrg ?_ ?_)
      | go_in)
    · intro hc0 hl0
      have hpm:=hfin'.out ss (hC.perm hown keyed Tryz.underlying9 hl0)
      have hssn:ss.length=ns.length:=by rw [<-hpm,List.length_mergeSort]
      rcases hrow.2 with ⟨hnil,hn0⟩ | ⟨g,cap,cur,rfl,hbase,hb,h1,h2,h3,h4⟩
      · have hss:ss=[]:=List.eq_nil_of_length_eq_zero hn0
        subst hss
        subst hnil
        have hn0':ns=[]:=List.eq_nil_of_length_eq_zero (by rw [<-hssn];rfl)
        subst hn0'
        have cN:=Any.slices_Sort_string_none Tryz.lays190 none 0 wr
        have hnx':=Lib.hid hnx
        have hrow':=Lib.hid hrow
        clear hnx hrow
        go_wp2_with (go_at_call 64;refine cN.mono ?_;rintro e w' ⟨rfl,rfl⟩)
        go_ret
        exact ⟨⟨_,rfl,hrow'.out⟩,hnx'.out⟩
      · have hH:Holds encStr wr g 0 ss.toArray:=holds_of_block hb (by simpa using h4)
        have hgl:g < wr.heap.size:=(Array.getElem?_eq_some_iff.1 hb).1
        have hc:=Tryz.slices_Sort_string g 0 cap ss wr hH hgl (by omega)
        rw [hpm] at hc
        have hfin2:=fun n os=>ownsRow_sorted (n:=n) (os:=os) (ts:=ns) hssn.symm hbase hb h1 h2 h3
        rw [hssn] at hc hfin2 ⊢
        have hfin2':=Lib.hid hfin2
        have hnx':=Lib.hid hnx
        clear hfin2 hnx hrow h4 hb
        go_wp2_with (go_at_call 64;refine hc.mono ?_;rintro e w' ⟨rfl,nn,os,rfl⟩)
        go_ret
        exact ⟨⟨_,rfl,hfin2'.out _ _⟩,hnx'.out.grown (grownBy_sorted _) hnx'.out.size (fun j hj=>by cases hj;exact hbase)⟩
    · intro x c kl yd yp w2 cnt2 hkey hlk hv hat hrg2 hlt hg2 hs2 hen
      obtain ⟨x',ex,rfl,_⟩:=Maps.keyOf_str Tryz.underlying9 hkey
      obtain rfl:x=x':=encStr_inj ex
      have hrow2:=hrow.kept hg2 (Or.inr (row_ne_iter hrow hrg).symm)
      clear hs2
      go_wp2_with (first
        | (at_builtin;refine wpList_append_own _ rfl _ _ 32 rfl w.heap.size 9 i0 (.string ⟨#[]⟩) 1 16 Tryz.underlying32 hi hz0 hz1 hz2 rfl (by decide) _ _ _ rfl (hrow2.alloc _) ⟨w2.heap.size,0,none⟩ 1 1 [encStr x] rfl rfl (cell_one_new _ _ _) (by simp [Value.oneCell',encStr]) (by unfold maxLen at *;omega) (by omega) (by have:=hnx.size;have:=hg2.size;simp;omega) ?_;intro v' w3 hown' hg3 hnil3;go_frame)
        | go_in)
      have hrg3:=(hrg2.alloc _).kept hg3 (row_ne_low hrow2 hbl) (row_ne_iter hrow2 hrg2)
      go_roundw
      case rel =>
        refine ⟨_,cnt2,ss++[x],hrg3,by simp;omega,by simpa using hown',hC.step hlk hat,?_⟩
        exact ((hnx.grown hg2 hnx.size (fun j hj=>by cases hj;exact Nat.le_refl _)).alloc (by have:=hnx.size;have:=hg2.size;omega) _).grown hg3 (by have:=hnx.size;have:=hg2.size;simp;omega) (fun j hj=>(hrow2.lt j hj).1)
      case measure=>rw [hrg3.left_eq,hrg.left_eq];exact hlt
theorem namesC_any (w:World) (b:Nat) (M:List (Row × Value)) (ns:List Row) (hM:MapIs Tryz.prog 9 w b M) (hp:(M.map Prod.fst).Perm ns) (hr:Rise ns) (hl:ns.length<=1099511627776) :
    Calls Tryz.prog 72 #[.map (some b)] w fun e w'=>(∃ v,e=.returned v/\w'.ownsRow w.heap.size 9 1 v ns.length (ns.map encStr))/\Below w.heap.size w w':=by
  obtain ⟨i0,hi,hz0,hz1,hz2⟩:=info_parts infoStr
  have hbl:=hM.lt
  have hsz:M.length=ns.length:=by rw [<-hp.length_eq,List.length_map]
  obtain ⟨l,hown,hperm⟩:=hM
  have hD:Maps.size (DataW.map l)=ns.length:=by show l.length=_;rw [hperm.length_eq,List.length_map,hsz]
  have hfin:∀ ss:List Row,ss.Perm (strKeys (DataW.map l))->ss.mergeSort (fun x y=>decide (x<=y))=ns:=fun ss hs=>rise_sort hr (hs.trans ((strKeys_of hperm).trans hp))
  have hfin':=Lib.hid hfin
  have hD':=Lib.hid hD
  rw [hsz] at hown
  clear hp hr hperm hfin hsz hD
  go_enter Tryz.func72,Tryz.ntmps72
  go_wp2_with (first | (at_range;refine wpList_range_own _ rfl _ 89 rfl 9 105 keyed Tryz.underlying89 hR b _ _ rfl hown ?_;intro w0 hrg0 hg0 hs0) | go_in)
  go_frame
  have hs0':=Lib.hid hs0
  clear hs0
  go_loopw [3] (fun v wr=>∃ (left:Lit->Bool) (cnt:Nat) (ss:List Row),wr.ranges Tryz.prog 9 hR b w.heap.size ns.length (.map l) left cnt/\ss.length+cnt<=ns.length/\
      wr.ownsRow w.heap.size 9 1 v ss.length (ss.map encStr)/\Collected (.map l) left ss/\Below w.heap.size w wr)
    (fun _ wr=>wr.rangeLeft b w.heap.size)
  case atStart =>
    refine ⟨_,_,[],hrg0,by rw [hD'.out];simp,World.ownsRow_nil _ _ _ 1,Collected.start _,(Below.refl _ _).grown hg0 (Nat.le_refl _) (fun j hj=>by cases hj)⟩
  case round =>
    obtain ⟨left,cnt,ss,hrg,hcs,hrow,hC,hnx⟩:=hrel
    go_wp2_with (first
      | (at_next;refine wpList_next_ranges _ rfl _ rfl 9 keyed hR encStr id (fun key kl hk=>by obtain ⟨x,hx,_⟩:=Maps.keyOf_str Tryz.underlying9 hk;exact ⟨x,hx⟩) (fun v y hv=>⟨v,rfl⟩) b w.heap.size ns.length _ _ _ rfl hrg ?_ ?_)
      | go_in)
    · intro hc0 hl0
      have hpm:=hfin'.out ss (hC.perm hown keyed Tryz.underlying9 hl0)
      have hssn:ss.length=ns.length:=by rw [<-hpm,List.length_mergeSort]
      rcases hrow.2 with ⟨hnil,hn0⟩ | ⟨g,cap,cur,rfl,hbase,hb,h1,h2,h3,h4⟩
      · have hss:ss=[]:=List.eq_nil_of_length_eq_zero hn0
        subst hss
        subst hnil
        have hn0':ns=[]:=List.eq_nil_of_length_eq_zero (by rw [<-hssn];rfl)
        subst hn0'
        have cN:=Any.slices_Sort_string_none Tryz.lays190 none 0 wr
        have hnx':=Lib.hid hnx
        have hrow':=Lib.hid hrow
        clear hnx hrow
        go_wp2_with (go_at_call 64;refine cN.mono ?_;rintro e w' ⟨rfl,rfl⟩)
        go_ret
        exact ⟨⟨_,rfl,hrow'.out⟩,hnx'.out⟩
      · have hH:Holds encStr wr g 0 ss.toArray:=holds_of_block hb (by simpa using h4)
        have hgl:g < wr.heap.size:=(Array.getElem?_eq_some_iff.1 hb).1
        have hc:=Tryz.slices_Sort_string g 0 cap ss wr hH hgl (by omega)
        rw [hpm] at hc
        have hfin2:=fun n os=>ownsRow_sorted (n:=n) (os:=os) (ts:=ns) hssn.symm hbase hb h1 h2 h3
        rw [hssn] at hc hfin2 ⊢
        have hfin2':=Lib.hid hfin2
        have hnx':=Lib.hid hnx
        clear hfin2 hnx hrow h4 hb
        go_wp2_with (go_at_call 64;refine hc.mono ?_;rintro e w' ⟨rfl,nn,os,rfl⟩)
        go_ret
        exact ⟨⟨_,rfl,hfin2'.out _ _⟩,hnx'.out.grown (grownBy_sorted _) hnx'.out.size (fun j hj=>by cases hj;exact hbase)⟩
    · intro x c kl yd yp w2 cnt2 hkey hlk hv hat hrg2 hlt hg2 hs2 hen
      obtain ⟨x',ex,rfl,_⟩:=Maps.keyOf_str Tryz.underlying9 hkey
      obtain rfl:x=x':=encStr_inj ex
      have hrow2:=hrow.kept hg2 (Or.inr (row_ne_iter hrow hrg).symm)
      clear hs2
      go_wp2_with (first
        | (at_builtin;refine wpList_append_own _ rfl _ _ 32 rfl w.heap.size 9 i0 (.string ⟨#[]⟩) 1 16 Tryz.underlying32 hi hz0 hz1 hz2 rfl (by decide) _ _ _ rfl (hrow2.alloc _) ⟨w2.heap.size,0,none⟩ 1 1 [encStr x] rfl rfl (cell_one_new _ _ _) (by simp [Value.oneCell',encStr]) (by unfold maxLen at *;omega) (by omega) (by have:=hnx.size;have:=hg2.size;simp;omega) ?_;intro v' w3 hown' hg3 hnil3;go_frame)
        | go_in)
      have hrg3:=(hrg2.alloc _).kept hg3 (row_ne_low hrow2 hbl) (row_ne_iter hrow2 hrg2)
      go_roundw
      case rel =>
        refine ⟨_,cnt2,ss++[x],hrg3,by simp;omega,by simpa using hown',hC.step hlk hat,?_⟩
        exact ((hnx.grown hg2 hnx.size (fun j hj=>by cases hj;exact Nat.le_refl _)).alloc (by have:=hnx.size;have:=hg2.size;omega) _).grown hg3 (by have:=hnx.size;have:=hg2.size;simp;omega) (fun j hj=>(hrow2.lt j hj).1)
      case measure=>rw [hrg3.left_eq,hrg.left_eq];exact hlt
end Bo
namespace Bo
open Go.Lib Go.RowKit
theorem nc_at:∀ (ns:List Note) (j:Nat) (n:Note),ns[j]?=some n->(nc ns)[j*3]?=some (.int .i64 (n.chg:Int))/\(nc ns)[j*3+1]?=some (sv n.name)/\(nc ns)[j*3+2]?=some (.bool n.was)
  | [],j,p,h=>by simp at h
  | q :: ps,0,p,h=>by simp at h;subst h;exact ⟨rfl,rfl,rfl⟩
  | q :: ps,j+1,p,h=>by
    have:=nc_at ps j p (by simpa using h)
    rw [show (j+1)*3=j*3+1+1+1 by omega]
    simpa [nc] using this
theorem nc_take (ns:List Note):∀ j,(nc ns).take (j*3)=nc (ns.take j):=by
  induction ns with
  | nil=>intro j;simp [nc]
  | cons n ns ih =>
    intro j
    cases j with
    | zero=>simp [nc]
    | succ j =>
      have:=ih j
      rw [show (j+1)*3=j*3+1+1+1 by omega]
      simp [nc,this]
theorem nc_drop (ns:List Note):∀ j,(nc ns).drop (j*3)=nc (ns.drop j):=by
  induction ns with
  | nil=>intro j;simp [nc]
  | cons n ns ih =>
    intro j
    cases j with
    | zero=>simp [nc]
    | succ j =>
      have:=ih j
      rw [show (j+1)*3=j*3+1+1+1 by omega]
      simp [nc,this]
abbrev nV (c:Int) (s:ByteArray) (b:Bool):Value:=.agg #[.int .i64 c,.string s,.bool b]
def PredN (g:Nat) (lb:Array Value) (q:Note->Bool) (w:World) (F:List Nat):Prop :=
  ∀ (W:World) (n:Note),Kp F w W->Calls Tryz.prog g (#[.agg #[.int .i64 (n.chg:Int),sv n.name,.bool n.was]]++lb) W fun e w'=>e=.returned (.bool (q n))/\Below W.heap.size W w'
theorem indexFuncN (g:Nat) (lb:Array Value) (q:Note->Bool) (ns:List Note) (gb cap n:Nat) (w:World) (eg:∀ args w,(callFunc g args).run Tryz.prog w=.ok (.enter g args) w) (hn:ns.length=n) (hs:w.ownsRow 0 113 3 (.slice (some ⟨gb,0,none⟩) n cap) n (nc ns)) (hp:PredN g lb q w []) (hl:n<=1099511627776) :
    Calls Tryz.prog 123 #[.slice (some ⟨gb,0,none⟩) n cap,.func (.func g) #[] lb] w fun e w' =>
      ((e=.returned (.int .i64 (-1))/\∀ y∈ns,q y=false)\/∃ i x,e=.returned (.int .i64 (i:Nat))/\ns[i]?=some x/\q x=true/\∀ y∈ns.take i,q y=false)/\Below w.heap.size w w':=by
  have hn':=Lib.hid hn
  have hs':=Lib.hid hs
  have hp':=Lib.hid hp
  clear hn hs hp
  go_enter Tryz.func123,Tryz.ntmps123
  go_wp2
  go_loopw [8] (fun s8 wr=>∃ k:Nat,s8=.int .i64 (k:Int)/\k<=n/\Below w.heap.size w wr/\∀ y∈ns.take k,q y=false) (fun s8 wr=>n - (RowKit.intOf s8).toNat)
  case atStart=>exact ⟨0,rfl,Nat.zero_le _,Below.refl _ _,fun y hy=>by simp at hy⟩
  case round =>
    obtain ⟨k,rfl,hk,hbw,hall⟩:=hrel
    have hall':=Lib.hid hall
    clear hall
    by_cases hlt:k < n
    · have hv:ns[k]?=some (ns[k]'(by have:=hn'.out;omega)):=List.getElem?_eq_getElem _
      obtain ⟨V,hV⟩:∃ V,ns[k]'(by have:=hn'.out;omega)=V:=⟨_,rfl⟩
      rw [hV] at hv
      obtain ⟨c0,c1,c2⟩:=nc_at ns k V hv
      have hown:wr.ownsRow 0 113 3 (.slice (some ⟨gb,0,none⟩) n cap) n (nc ns):=ownsRow_heap hs'.out fun g hg=>hbw.block g (hs'.out.lt g hg).2
      rw [<-hown.cellAt _ (by omega)] at c0 c1 c2
      have hcall:=hp'.out wr V ⟨hbw.os,hbw.tape,hbw.output,hbw.size,fun i hi _=>hbw.block i hi⟩
      have hnx:q V=false->∀ y∈ns.take (k+1),q y=false:=fun h y hy=>by
        obtain ⟨hl1,hl2⟩:=List.getElem?_eq_some_iff.1 hv
        rw [List.take_succ_eq_append_getElem hl1,List.mem_append,List.mem_singleton,hl2] at hy
        rcases hy with hy | rfl
        · exact hall'.out y hy
        · exact h
      have hnx':=Lib.hid hnx
      have hv':=Lib.hid hv
      unfold sv at c1 hcall
      generalize (⟨V.name.toArray⟩:ByteArray)=x at c1 hcall
      clear hv hV hown hnx
      cases hq:q V
      · rw [hq] at hcall
        have hq':=Lib.hid hq
        clear hq
        go_wp2_with (go_at_fn g;refine hcall.mono ?_;rintro e w3 ⟨rfl,hb3⟩)
        go_roundw
        case rel=>exact ⟨k+1,by go_num,by omega,hbw.trans (hb3.mono hbw.size),hnx'.out hq'.out⟩
        case measure=>simp [RowKit.intOf];omega
      · rw [hq] at hcall
        have hq':=Lib.hid hq
        clear hq
        go_wp2_with (go_at_fn g;refine hcall.mono ?_;rintro e w3 ⟨rfl,hb3⟩)
        go_ret
        exact ⟨.inr ⟨k,V,rfl,hv'.out,hq'.out,hall'.out⟩,hbw.trans (hb3.mono hbw.size)⟩
    · have hf:=Lib.hid (show ∀ y∈ns,q y=false from fun y hy=>hall'.out y (by rw [List.take_of_length_le (by have:=hn'.out;omega)];exact hy))
      go_wp2
      go_ret
      exact ⟨.inl ⟨rfl,hf.out⟩,hbw⟩
theorem own_setCells {e:TypeId} {size g n cap:Nat}:∀ (vs:List Value) (j:Nat) (w:World) (xs:List Value),w.ownsRow 0 e size (.slice (some ⟨g,0,none⟩) n cap) n xs->
    (∃ ys,(w.setCells g j vs).ownsRow 0 e size (.slice (some ⟨g,0,none⟩) n cap) n ys/\ys.take j=xs.take j)/\w.grownBy (w.setCells g j vs) (some g)
  | [],j,w,xs,h=>⟨⟨xs,h,rfl⟩,World.grownBy.refl w _⟩
  | v :: vs,j,w,xs,h=>by
    obtain ⟨h1,g1⟩:=h.stored j v
    obtain ⟨⟨ys,h2,h3⟩,g2⟩:=own_setCells vs (j+1) _ _ h1
    refine ⟨⟨ys,h2,?_⟩,g1.trans g2⟩
    have:=congrArg (List.take j) h3
    rw [List.take_take,List.take_take,Nat.min_eq_left (Nat.le_succ j),List.take_set_of_le (Nat.le_refl j)] at this
    exact this
theorem clear_own {g n cap i:Nat} {xs:List Value} {w:World} (h:w.ownsRow 0 113 3 (.slice (some ⟨g,0,none⟩) n cap) n xs) (hi:i < n) (ty:TypeId) (c:Nat) :
    ∃ w',(Builtin.clear_ #[90] ty #[.slice (some ⟨g,i*3,none⟩) (n - i) c]).run Tryz.prog w=.ok (.tuple #[]) w'/\w'.ownsRow 0 113 3 (.slice (some ⟨g,0,none⟩) i cap) i (xs.take (i*3))/\w.grownBy w' (some g):=by
  have hz:(Builtin.zeroCells (nV 0 ⟨#[]⟩ false).cells (n - i)).size=(n - i)*3:=by rw [size_zeroCells];rfl
  have hxl:=h.1
  have hst:=run_storeCells_cells (P:=Tryz.prog) g (i*3) (Builtin.zeroCells (nV 0 ⟨#[]⟩ false).cells (n - i)).toList 0 w
    (fun j hj=>by
      rw [Array.length_toList,hz] at hj
      rw [Nat.add_zero,h.cellAt _ (by omega),List.getElem?_eq_getElem (by omega)];rfl)
    (fun j _=>h.frozenAt _)
    (fun v hv=>by
      obtain ⟨j,hj,rfl⟩:=List.getElem_of_mem hv
      simp only [Builtin.zeroCells,Array.getElem_toList,Array.getElem_map,Array.getElem_range]
      have:j % 3 < 3:=Nat.mod_lt _ (by decide)
      rcases (by omega:j % 3=0\/j % 3=1\/j % 3=2) with e | e | e<;>simp [Value.cells,e,Value.oneCell'])
  rw [Nat.add_zero] at hst
  obtain ⟨⟨ys,h1,h2⟩,h3⟩:=own_setCells (Builtin.zeroCells (nV 0 ⟨#[]⟩ false).cells (n - i)).toList (i*3) w xs h
  refine ⟨_,?_,?_,h3⟩
  · obtain ⟨m,hm⟩:∃ m,n - i=m+1:=⟨n - i - 1,by omega⟩
    rw [hm] at hst ⊢
    simp [Builtin.clear_,run_underlying Tryz.underlying90,hst]
  · rw [<-h2]
    rcases h1.2 with ⟨h',_⟩ | ⟨g',cap',cur,h',hb,hg,hnc,hcm,hcs,htake⟩
    · simp at h'
    · simp only [Value.slice.injEq,Option.some.injEq,Addr.mk.injEq,and_true,true_and] at h'
      obtain ⟨rfl,rfl⟩:=h'
      refine ⟨by rw [List.length_take,h1.1];omega,.inr ⟨g,cap,cur,rfl,hb,hg,by omega,hcm,hcs,?_⟩⟩
      rw [<-htake,List.take_take,Nat.min_eq_left (by omega)]
theorem wp_clear {g n cap i:Nat} {xs:List Value} {w:World} {ops:Array Oper} {rest:List Oper} {o:Oper} {a:Act} {Q:Exit->Act->World->Prop} (hgd:o.guard=none) (x:Operand)
    (ho:o.op=Op.call { callee:=Callee.builtin Builtin.clear,args:=#[x],argTypes:=#[90] }) (h:w.ownsRow 0 113 3 (.slice (some ⟨g,0,none⟩) n cap) n xs) (hi:i < n) (c:Nat) (hx:a.eval x=.slice (some ⟨g,i*3,none⟩) (n - i) c)
    (hK:∀ w',w'.ownsRow 0 113 3 (.slice (some ⟨g,0,none⟩) i cap) i (xs.take (i*3))->w.grownBy w' (some g)->wpList Tryz.prog ops Q rest (a.put o.dst (.tuple #[])) w'):wpList Tryz.prog ops Q (o :: rest) a w:=by
  refine wpList_plain hgd fun K' hK'=>?_
  obtain ⟨w',hrun,r1,r2⟩:=clear_own h hi o.type c
  unfold Oper.wp
  simp [execOp,ho,resolve,invoke,builtin,hx,hrun,Result.andThen]
  exact hK' _ _ (hK w' r1 r2)
theorem deleteFuncN (g:Nat) (lb:Array Value) (q:Note->Bool) (ns:List Note) (gb cap n:Nat) (w:World) (eg:∀ args w,(callFunc g args).run Tryz.prog w=.ok (.enter g args) w) (hn:ns.length=n) (hs:w.ownsRow 0 113 3 (.slice (some ⟨gb,0,none⟩) n cap) n (nc ns)) (hp:PredN g lb q w [gb]) (hl:n<=1099511627776) :
    Calls Tryz.prog 90 #[.slice (some ⟨gb,0,none⟩) n cap,.func (.func g) #[] lb] w fun e w' =>
      (∃ m,e=.returned (.slice (some ⟨gb,0,none⟩) m cap)/\(ns.filter fun x=>!q x).length=m/\w'.ownsRow 0 113 3 (.slice (some ⟨gb,0,none⟩) m cap) m (nc (ns.filter fun x=>!q x)))/\Kp [gb] w w':=by
  have cI:=indexFuncN g lb q ns gb cap n w eg hn hs (fun W x hW=>hp W x (hW.mono fun k hk=>by cases hk)) hl
  have hn':=Lib.hid hn
  have hs':=Lib.hid hs
  have hp':=Lib.hid hp
  clear hn hs hp
  go_enter Tryz.func90,Tryz.ntmps90
  go_wp2_with fail
  go_at_call 123
  refine cI.mono ?_
  rintro e w1 ⟨⟨rfl,hall⟩ | ⟨i0,x0,rfl,hx,hqx,hall⟩,hb1⟩
  · have hfil:(ns.filter fun x=>!q x)=ns:=List.filter_eq_self.2 fun x hx=>by rw [hall x hx];rfl
    have hown:=ownsRow_heap hs'.out fun g hg=>hb1.block g (hs'.out.lt g hg).2
    have hfin:=Lib.hid (show (ns.filter fun x=>!q x).length=n/\w1.ownsRow 0 113 3 (.slice (some ⟨gb,0,none⟩) n cap) n (nc (ns.filter fun x=>!q x)) from by rw [hfil];exact ⟨hn'.out,hown⟩)
    have hk:=Lib.hid (Kp.of_below (F:=[gb]) hb1)
    clear cI hall hown hfil hb1
    go_wp2
    go_ret
    exact ⟨⟨n,rfl,hfin.out.1,hfin.out.2⟩,hk.out⟩
  · have hi0 : i0 < n:=by rw [<-hn'.out];exact (List.getElem?_eq_some_iff.1 hx).1
    have hown:=ownsRow_heap hs'.out fun g hg=>hb1.block g (hs'.out.lt g hg).2
    have hf0:ns.take i0=(ns.take i0).filter fun x=>!q x:=(List.filter_eq_self.2 fun x hx=>by rw [hall x hx];rfl).symm
    have hf1:(ns.take (i0+1)).filter (fun x=>!q x)=ns.take i0:=by
      obtain ⟨q1,q2⟩:=List.getElem?_eq_some_iff.1 hx
      rw [List.take_succ_eq_append_getElem q1,q2,List.filter_append,<-hf0]
      simp [hqx]
    have hl0:(ns.take i0).length=i0:=by rw [List.length_take];have:=hn'.out;omega
    have hstart:Hid (∃ xs,w1.ownsRow 0 113 3 (.slice (some ⟨gb,0,none⟩) n cap) n xs/\xs.take (i0*3)=nc ((ns.take (i0+1)).filter fun x=>!q x)/\((ns.take (i0+1)).filter fun x=>!q x).length=i0/\xs.drop ((i0+1)*3)=nc (ns.drop (i0+1))/\Kp [gb] w w1):=Lib.hid ⟨nc ns,hown,by rw [hf1,nc_take],by rw [hf1,hl0],nc_drop _ _,Kp.of_below hb1⟩
    have hne:((i0:Int)==-1)=false:=beq_false_of_ne (by omega)
    clear cI hall hown hf0 hf1 hl0 hx hqx hb1
    go_wp2
    clear hne
    go_loopw [5,6] (fun s5 s6 wr=>∃ i j:Nat,s5=.int .i64 (i:Int)/\s6=.int .i64 (j:Int)/\i < j/\j<=n/\Hid (∃ xs,wr.ownsRow 0 113 3 (.slice (some ⟨gb,0,none⟩) n cap) n xs/\xs.take (i*3)=nc ((ns.take j).filter fun x=>!q x)/\((ns.take j).filter fun x=>!q x).length=i/\xs.drop (j*3)=nc (ns.drop j)/\Kp [gb] w wr)) (fun _ s6 wr=>n - (RowKit.intOf s6).toNat)
    case atStart=>exact ⟨i0,i0+1,rfl,by go_num,by omega,by omega,hstart⟩
    case round =>
      clear hstart
      obtain ⟨i,j,rfl,rfl,hij,hjn,hR⟩:=hrel
      obtain ⟨xs,hown,ht,htl,hd,hK⟩:=hR.out
      clear hR
      by_cases hlt:j < n
      · have hv : ns[j]?=some (ns[j]'(by have:=hn'.out;omega)):=List.getElem?_eq_getElem _
        obtain ⟨V,hV⟩:∃ V,ns[j]'(by have:=hn'.out;omega)=V:=⟨_,rfl⟩
        rw [hV] at hv
        obtain ⟨ql1,ql2⟩:=List.getElem?_eq_some_iff.1 hv
        have hdj:ns.drop j=V :: ns.drop (j+1):=by rw [List.drop_eq_getElem_cons ql1,ql2]
        have hcx:∀ t u,(nc (ns.drop j))[t]?=some u->wr.cell? ⟨gb,j*3+t,none⟩=some u:=fun t u h=>by
          rw [<-hd,List.getElem?_drop] at h
          have hlt2:=(List.getElem?_eq_some_iff.1 h).1
          rw [hown.cellAt _ (by rw [hown.1] at hlt2;exact hlt2),h]
        have c0:=hcx 0 (.int .i64 (V.chg:Int)) (by rw [hdj];rfl)
        have c1:=hcx 1 (sv V.name) (by rw [hdj];rfl)
        have c2:=hcx 2 (.bool V.was) (by rw [hdj];rfl)
        rw [Nat.add_zero] at c0
        have hcall:=fun W hW=>hp'.out W V hW
        unfold sv at c1 hcall
        obtain ⟨x,hx⟩:∃ x,(⟨V.name.toArray⟩:ByteArray)=x:=⟨_,rfl⟩
        rw [hx] at c1 hcall
        have hbx:Below wr.heap.size wr (wr.alloc (.cells #[.int .i64 (V.chg:Int),.string x,.bool V.was] 113)):=(Below.refl _ _).alloc (Nat.le_refl _) _
        have hKx:=hK.belowThen hbx
        have hcall2:=hcall _ hKx
        have hfs:(ns.take (j+1)).filter (fun x=>!q x)=(ns.take j).filter (fun x=>!q x)++(if q V=true then [] else [V]):=by
          rw [List.take_succ_eq_append_getElem ql1,ql2,List.filter_append]
          cases hq2:q V<;>simp [hq2]
        cases hq:q V
        · rw [hq] at hcall2 hfs
          -- the three cells of place i,in worlds behind the call
          have hown1:∀ W,Below wr.heap.size wr W->W.ownsRow 0 113 3 (.slice (some ⟨gb,0,none⟩) n cap) n xs:=fun W hW=>ownsRow_heap hown fun g hg=>hW.block g (hown.lt g hg).2
          have hxl:=hown.1
          have hnew:∀ W,Below wr.heap.size wr W->Hid (∃ ys,(((W.setCell ⟨gb,i*3,none⟩ (.int .i64 (V.chg:Int))).setCell ⟨gb,i*3+1,none⟩ (.string x)).setCell ⟨gb,i*3+2,none⟩ (.bool V.was)).ownsRow 0 113 3 (.slice (some ⟨gb,0,none⟩) n cap) n ys/\
              ys.take ((i+1)*3)=nc ((ns.take (j+1)).filter fun x=>!q x)/\((ns.take (j+1)).filter fun x=>!q x).length=i+1/\ys.drop ((j+1)*3)=nc (ns.drop (j+1))/\Kp [gb] w (((W.setCell ⟨gb,i*3,none⟩ (.int .i64 (V.chg:Int))).setCell ⟨gb,i*3+1,none⟩ (.string x)).setCell ⟨gb,i*3+2,none⟩ (.bool V.was))):=fun W hW=>Lib.hid (by
            obtain ⟨o1,_⟩:=(hown1 W hW).stored (i*3) (.int .i64 (V.chg:Int))
            obtain ⟨o2,_⟩:=o1.stored (i*3+1) (.string x)
            obtain ⟨o3,_⟩:=o2.stored (i*3+2) (.bool V.was)
            refine ⟨_,o3,?_,?_,?_,(((hK.belowThen hW).setCell (ad:=⟨gb,i*3,none⟩) (.inl (by simp)) _).setCell (ad:=⟨gb,i*3+1,none⟩) (.inl (by simp)) _).setCell (ad:=⟨gb,i*3+2,none⟩) (.inl (by simp)) _⟩
            · rw [hfs,nc_app,<-ht,if_neg (by decide)]
              have e:nc [V]=[.int .i64 (V.chg:Int),.string x,.bool V.was]:=by unfold nc nc sv;rw [hx]
              rw [e]
              apply List.ext_getElem?
              intro t
              rw [List.getElem?_take]
              by_cases h1:t < i*3
              · rw [if_pos (by omega),List.getElem?_set_ne (by omega),List.getElem?_set_ne (by omega),List.getElem?_set_ne (by omega),List.getElem?_append_left (by rw [List.length_take];omega),List.getElem?_take,if_pos h1]
              · have hle:(xs.take (i*3)).length=i*3:=by rw [List.length_take];omega
                rw [List.getElem?_append_right (by omega),hle]
                rcases (by omega:t=i*3\/t=i*3+1\/t=i*3+2\/(i+1)*3<=t) with e | e | e | e
                · subst e
                  rw [if_pos (by omega),List.getElem?_set_ne (by omega),List.getElem?_set_ne (by omega),List.getElem?_set_self (by omega)];simp
                · subst e
                  rw [if_pos (by omega),List.getElem?_set_ne (by omega),List.getElem?_set_self (by rw [List.length_set];omega)];simp
                · subst e
                  rw [if_pos (by omega),List.getElem?_set_self (by rw [List.length_set,List.length_set];omega)];simp
                · rw [if_neg (by omega),List.getElem?_eq_none (by simp;omega)]
            · rw [hfs,List.length_append,htl];rfl
            · rw [List.drop_set_of_lt (by omega),List.drop_set_of_lt (by omega),List.drop_set_of_lt (by omega)]
              have h3:(xs.drop (j*3)).drop 3=nc (ns.drop (j+1)):=by rw [hd,hdj];rfl
              rw [List.drop_drop] at h3
              rw [<-h3]
              congr 1
              omega)
          have hnew':=Lib.hid hnew
          have hcl:∀ W,Below wr.heap.size wr W->(∃ u,W.cell? ⟨gb,i*3,none⟩=some u)/\(∃ u,W.cell? ⟨gb,i*3+1,none⟩=some u)/\(∃ u,W.cell? ⟨gb,i*3+2,none⟩=some u)/\W.frozen? ⟨gb,i*3,none⟩=false/\W.frozen? ⟨gb,i*3+1,none⟩=false/\W.frozen? ⟨gb,i*3+2,none⟩=false:=fun W hW=>by
            have ho:=hown1 W hW
            refine ⟨⟨_,by rw [ho.cellAt _ (by omega)];exact List.getElem?_eq_getElem (by omega)⟩,⟨_,by rw [ho.cellAt _ (by omega)];exact List.getElem?_eq_getElem (by omega)⟩,⟨_,by rw [ho.cellAt _ (by omega)];exact List.getElem?_eq_getElem (by omega)⟩,ho.frozenAt _,ho.frozenAt _,ho.frozenAt _⟩
          have hcl':=Lib.hid hcl
          have hbx':=Lib.hid hbx
          clear hown hown1 ht htl hd hK hKx hcall hv hV ql1 ql2 hdj hcx hfs hq hxl hnew hcl hbx hx
          go_wp2_with fail
          go_at_fn g
          refine hcall2.mono ?_
          rintro e w3 ⟨rfl,hb3⟩
          have hB3:=below_then hbx'.out hb3
          obtain ⟨⟨u0,k0⟩,⟨u1,k1⟩,⟨u2,k2⟩,f0,f1,f2⟩:=hcl'.out w3 hB3
          have hk3:w3.heap[wr.heap.size]?=some (.cells #[.int .i64 (V.chg:Int),.string x,.bool V.was] 113 (0,0)):=(hb3.block _ (by simp)).trans (heap_alloc_new wr _)
          have d0:=Lib.cell_of_heap hk3 0
          have d1:=Lib.cell_of_heap hk3 1
          have d2:=Lib.cell_of_heap hk3 2
          have hfin:=hnew'.out w3 hB3
          clear hcall2 hb3 hB3 hk3
          go_wp2
          go_roundw
          case rel=>exact ⟨i+1,j+1,by go_num,by go_num,by omega,by omega,hfin⟩
          case measure=>simp [RowKit.intOf];omega
        · rw [hq] at hcall2 hfs
          rw [if_pos rfl,List.append_nil] at hfs
          have hnew:∀ W,Below wr.heap.size wr W->Hid (∃ xs,W.ownsRow 0 113 3 (.slice (some ⟨gb,0,none⟩) n cap) n xs/\xs.take (i*3)=nc ((ns.take (j+1)).filter fun x=>!q x)/\((ns.take (j+1)).filter fun x=>!q x).length=i/\xs.drop ((j+1)*3)=nc (ns.drop (j+1))/\Kp [gb] w W):=fun W hW=>Lib.hid ⟨xs,ownsRow_heap hown fun g hg=>hW.block g (hown.lt g hg).2,by rw [hfs,ht],by rw [hfs,htl],by
              have h3:(xs.drop (j*3)).drop 3=nc (ns.drop (j+1)):=by rw [hd,hdj];rfl
              rw [List.drop_drop] at h3
              rw [<-h3]
              congr 1
              omega,hK.belowThen hW⟩
          have hnew':=Lib.hid hnew
          have hbx':=Lib.hid hbx
          clear hown ht htl hd hK hKx hcall hv hV ql1 ql2 hdj hcx hfs hq hnew hbx hx
          go_wp2_with fail
          go_at_fn g
          refine hcall2.mono ?_
          rintro e w3 ⟨rfl,hb3⟩
          have hfin:=hnew'.out w3 (below_then hbx'.out hb3)
          clear hcall2 hb3
          go_wp2
          go_roundw
          case rel=>exact ⟨i,j+1,by go_num,by go_num,by omega,by omega,hfin⟩
          case measure=>simp [RowKit.intOf];omega
      · have hjn2:j=n:=by omega
        have hall:ns.take j=ns:=List.take_of_length_le (by have:=hn'.out;omega)
        rw [hall] at ht htl
        have hfin:∀ W,W.ownsRow 0 113 3 (.slice (some ⟨gb,0,none⟩) i cap) i (xs.take (i*3))->wr.grownBy W (some gb)->(∃ m,Ending.returned (.slice (some ⟨gb,0,none⟩) i cap)=.returned (.slice (some ⟨gb,0,none⟩) m cap)/\(ns.filter fun x=>!q x).length=m/\W.ownsRow 0 113 3 (.slice (some ⟨gb,0,none⟩) m cap) m (nc (ns.filter fun x=>!q x)))/\Kp [gb] w W:=fun W h1 h2=>by
          rw [ht] at h1
          exact ⟨⟨i,rfl,htl,h1⟩,hK.grown h2 fun k hk=>by cases hk;exact .inl (by simp)⟩
        have hfin':=Lib.hid hfin
        have hown':=Lib.hid hown
        have hcap:n<=cap/\cap<=maxLen:=by
          rcases hown.2 with ⟨h',_⟩ | ⟨g',cap',cur,h',_,_,h3,h4,_⟩
          · simp at h'
          · simp only [Value.slice.injEq] at h'
            obtain ⟨_,_,rfl⟩:=h'
            exact ⟨h3,h4⟩
        unfold maxLen at hcap
        obtain ⟨hcap1,hcap2⟩:=hcap
        clear hown ht htl hd hK hall hfin
        go_wp2_with (first | (refine wp_clear rfl _ rfl hown'.out (by omega) _ rfl ?_;intro w5 ho5 hg5) | fail)
        go_ret
        exact hfin'.out _ ho5 hg5
theorem deleteFuncNil (g:Nat) (lb:Array Value) (w:World) :
    Calls Tryz.prog 90 #[.slice none 0 0,.func (.func g) #[] lb] w fun e w'=>e=.returned (.slice none 0 0)/\Below w.heap.size w w':=by
  have cI:Calls Tryz.prog 123 #[.slice none 0 0,.func (.func g) #[] lb] w fun e w'=>e=.returned (.int .i64 (-1))/\w'=w:=by
    go_enter Tryz.func123,Tryz.ntmps123
    go_wp2
    refine wp_loop_rounds 1 ?_
    rw [rounds_succ]
    go_wp2
    go_ret
    exact ⟨rfl,rfl⟩
  go_enter Tryz.func90,Tryz.ntmps90
  go_wp2_with (go_at_call 123;refine cI.mono ?_;rintro e w1 ⟨rfl,rfl⟩)
  go_ret
  exact ⟨rfl,Below.refl _ _⟩
theorem upto_any (kb:Nat) (h:Int) (c:Int) (s:ByteArray) (b:Bool) (W:World) (hc:W.cell? ⟨kb,0,none⟩=some (.int .i64 h)) (hlt:kb < W.heap.size) :
    Calls Tryz.prog 91 (#[.agg #[.int .i64 c,.string s,.bool b]]++#[.pointer (some ⟨kb,0,none⟩)]) W fun e w'=>e=.returned (.bool (decide (c<=h)))/\Below W.heap.size W w':=by
  have hB:Below W.heap.size W (W.alloc (.cells #[.int .i64 c,.string s,.bool b] 113)):=(Below.refl _ _).alloc (Nat.le_refl _) _
  have hc2:(W.alloc (.cells #[.int .i64 c,.string s,.bool b] 113)).cell? ⟨kb,0,none⟩=some (.int .i64 h):=by rw [hB.cell (p:=⟨kb,0,none⟩) hlt];exact hc
  show Calls _ _ #[.agg #[.int .i64 c,.string s,.bool b],.pointer (some ⟨kb,0,none⟩)] _ _
  go_enter Tryz.func91,Tryz.ntmps91
  go_wp2
  go_ret
  exact ⟨rfl,hB⟩
def Turned (w w':World) (p:Pl) (b':Bk):Prop:=∃ p',BkIs w' b' p'/\p'.c=p.c/\p'.m=p.m/\(∀ k∈p'.fp,k∈p.fp\/w.heap.size<=k)/\p'.fp.Nodup/\Kp (p.c :: p.j.ownBlock.toList) w w'
theorem col4 {w:World} {b:Bk} {p:Pl} (h:BkIs w b p) {W:World} (hW:W.heap[p.c]?=w.heap[p.c]?) :
    W.cell? ⟨p.c,0,none⟩=some (.int .i64 (b.made:Int))/\W.cell? ⟨p.c,1,none⟩=some (.int .i64 (b.hor:Int))/\W.cell? ⟨p.c,2,none⟩=some (.map (some p.m))/\W.cell? ⟨p.c,3,none⟩=some p.j/\∀ j,W.frozen? ⟨p.c,j,none⟩=false:=by
  have hb:=hW.trans h.blk
  exact ⟨Lib.cell_of_heap hb 0,Lib.cell_of_heap hb 1,Lib.cell_of_heap hb 2,Lib.cell_of_heap hb 3,fun j=>Lib.frozen_of_heap hb j⟩
theorem fp_nodup {p:Pl} (h:p.fp.Nodup):p.c≠p.m/\p.j.ownBlock≠some p.c/\p.j.ownBlock≠some p.m:=by
  unfold Pl.fp at h
  rw [List.nodup_cons,List.nodup_cons] at h
  obtain ⟨h1,h2,_⟩:=h
  rw [List.mem_cons,not_or] at h1
  exact ⟨h1.1,fun e=>h1.2 (by rw [e];simp),fun e=>h2 (by rw [e];simp)⟩
theorem raise_any (w:World) (b:Bk) (p:Pl) (k:Nat) (h:BkIs w b p) (hd:p.fp.Nodup) (hl:b.notes.length<=1099511627776) :
    Calls Tryz.prog 71 #[pv p.c,.int .i64 (k:Int)] w fun e w'=>e=.returned (.tuple #[])/\Turned w w' p { b with hor:=k,notes:=b.notes.filter fun n=>decide (k < n.chg) }:=by
  obtain ⟨d1,d2,d3⟩:=fp_nodup hd
  have hlt:p.c < w.heap.size:=h.lt p.c (by simp [Pl.fp])
  obtain ⟨q0,q1,q2,q3,qf⟩:=col4 h (W:=w.alloc (.cells #[.int .i64 (k:Int)] 3)) (heap_alloc_old _ _ _ hlt)
  have f1:=qf 1
  have hB1:Below w.heap.size w (w.alloc (.cells #[.int .i64 (k:Int)] 3)):=(Below.refl _ _).alloc (Nat.le_refl _) _
  -- behind the horizon's store
  obtain ⟨w1,hw1⟩:∃ w1,(w.alloc (.cells #[.int .i64 (k:Int)] 3)).setCell ⟨p.c,1,none⟩ (.int .i64 (k:Int))=w1:=⟨_,rfl⟩
  have hK1:Kp (p.c :: p.j.ownBlock.toList) w w1:=by rw [<-hw1];exact (Kp.of_below hB1).setCell (.inl (by simp)) _
  have hk1:w1.heap[p.c]?=some (.cells #[.int .i64 (b.made:Int),.int .i64 (k:Int),.map (some p.m),p.j] 92 (0,0)):=by
    rw [<-hw1]
    exact set_heap ((heap_alloc_old _ _ _ hlt).trans h.blk) 1 _
  have hkb:w1.heap[w.heap.size]?=some (.cells #[.int .i64 (k:Int)] 3 (0,0)):=by
    rw [<-hw1,Below.heap_setCell _ _ _ _ (by show w.heap.size≠p.c;omega)]
    exact heap_alloc_new w _
  have hs1:w.heap.size < w1.heap.size:=(Array.getElem?_eq_some_iff.1 hkb).1
  have hj1:w1.ownsRow 0 113 3 p.j b.notes.length (nc b.notes):=ownsRow_heap h.jou fun g hg=>by
    rw [<-hw1,Below.heap_setCell _ _ _ _ (by show g≠p.c;exact fun e=>d2 (e▸hg))]
    exact heap_alloc_old _ _ _ (h.jou.lt g hg).2
  have hm1:MapIs Tryz.prog 9 w1 p.m (cM b.cards):=h.map.block (by
    rw [<-hw1,Below.heap_setCell _ _ _ _ (by show p.m≠p.c;exact fun e=>d1 e.symm)]
    exact heap_alloc_old _ _ _ h.map.lt)
  have r3:=Lib.cell_of_heap hk1 3
  have hfil:(b.notes.filter fun x=>!decide ((x.chg:Int)<=(k:Int)))=b.notes.filter fun n=>decide (k < n.chg):=List.filter_congr fun x _=>by
    by_cases e:k < x.chg
    · rw [decide_eq_true e,decide_eq_false (by omega)];rfl
    · rw [decide_eq_false e,decide_eq_true (by omega)];rfl
  have hfil':=Lib.hid hfil
  have eg:∀ args w,(callFunc 91 args).run Tryz.prog w=.ok (.enter 91 args) w:=enters_of Tryz.func91 (by kernel_rfl) rfl
  -- behind the last store
  have hfin:∀ (w2:World) (g m cap:Nat),p.j.ownBlock=some g\/p.j=.slice none 0 0->∀ (j':Value),j'.ownBlock=p.j.ownBlock->w2.ownsRow 0 113 3 j' (b.notes.filter fun n=>decide (k < n.chg)).length (nc (b.notes.filter fun n=>decide (k < n.chg)))->Kp p.j.ownBlock.toList w1 w2->
      Turned w (w2.setCell ⟨p.c,3,none⟩ j') p { b with hor:=k,notes:=b.notes.filter fun n=>decide (k < n.chg) }:=fun w2 g m cap _ j' hj' ho hK2=>by
    have hk2:w2.heap[p.c]?=w1.heap[p.c]?:=hK2.block p.c (Nat.lt_of_lt_of_le hlt hK1.size) (by cases ho':p.j.ownBlock<;>simp;intro e;rw [e] at d2;exact d2 ho')
    refine ⟨⟨p.c,p.m,j'⟩,⟨set_heap (hk2.trans hk1) 3 _,hm1.block ?_,ownsRow_heap ho fun g hg=>Below.heap_setCell _ _ _ _ (by show g≠p.c;intro e;rw [hj',e] at hg;exact d2 hg)⟩,rfl,rfl,fun x hx=>.inl ?_,?_,?_⟩
    · rw [Below.heap_setCell _ _ _ _ (by show p.m≠p.c;exact fun e=>d1 e.symm)]
      exact hK2.block p.m hm1.lt (by cases ho':p.j.ownBlock<;>simp;intro e;rw [e] at d3;exact d3 ho')
    · unfold Pl.fp at hx ⊢
      rw [hj'] at hx
      exact hx
    · unfold Pl.fp at hd ⊢
      rw [hj']
      exact hd
    · exact (hK1.trans (hK2.mono fun x hx=>List.mem_cons_of_mem _ hx)).setCell (.inl (by simp)) _
  have hfin':=Lib.hid hfin
  have hpred:∀ F:List Nat,(∀ x∈F,x < w.heap.size)->PredN 91 #[.pointer (some ⟨w.heap.size,0,none⟩)] (fun x=>decide ((x.chg:Int)<=(k:Int))) w1 F:=fun F hF W n hW=>by
    refine upto_any w.heap.size (k:Int) (n.chg:Int) ⟨n.name.toArray⟩ n.was W ?_ (Nat.lt_of_lt_of_le hs1 hW.size)
    rw [Lib.cell_of_heap ((hW.block w.heap.size hs1 (fun hm=>by have:=hF _ hm;omega)).trans hkb) 0];rfl
  obtain ⟨p4,hp4⟩:∃ x,p.j=x:=⟨_,rfl⟩
  rcases hj1.2 with ⟨hnil,hn0⟩ | ⟨g,cap,cur,e1,e2,e3,e4,e5,e6,e7⟩
  · have cD:=deleteFuncNil 91 #[.pointer (some ⟨w.heap.size,0,none⟩)] w1
    rw [hnil] at r3
    have hem:(b.notes.filter fun n=>decide (k < n.chg))=[]:=by rw [List.eq_nil_of_length_eq_zero hn0];rfl
    have hf2:=Lib.hid (show ∀ w2,Below w1.heap.size w1 w2->Turned w (w2.setCell ⟨p.c,3,none⟩ (.slice none 0 0)) p { b with hor:=k,notes:=b.notes.filter fun n=>decide (k < n.chg) } from fun w2 hb2=>hfin w2 0 0 0 (.inr hnil) _ (by rw [hnil]) (by rw [hem];exact World.ownsRow_nil _ _ _ 3) (Kp.of_below hb2))
    have hc3:∀ w2,Below w1.heap.size w1 w2->w2.cell? ⟨p.c,3,none⟩=some (.slice none 0 0)/\w2.frozen? ⟨p.c,3,none⟩=false:=fun w2 hb2=>by
      have hk2:=(hb2.block p.c (Nat.lt_of_lt_of_le hlt hK1.size)).trans hk1
      exact ⟨by rw [Lib.cell_of_heap hk2 3];rw [<-hnil];rfl,Lib.frozen_of_heap hk2 3⟩
    have hc3':=Lib.hid hc3
    clear hfin hfin' hpred hj1 hm1 hK1 hk1 hkb hs1 hfil hB1 hc3 h hd d1 d2 d3 hn0 hem
    go_enter Tryz.func71,Tryz.ntmps71
    go_wp2_with fail
    go_at_call 90
    refine cD.mono ?_
    rintro e w2 ⟨rfl,hb2⟩
    obtain ⟨c3,f3⟩:=hc3'.out w2 hb2
    have hf:=Lib.hid (hf2.out w2 hb2)
    clear cD hb2 hf2 q0 q1 q2 q3 r3 hw1
    go_wp2
    go_end0
    exact ⟨rfl,hf.out⟩
  · have hgl:g < w.heap.size:=(h.jou.lt g (by rw [e1];rfl)).2
    have hob:p.j.ownBlock=some g:=by rw [e1];rfl
    rw [e1] at hj1 r3
    have cD:=deleteFuncN 91 #[.pointer (some ⟨w.heap.size,0,none⟩)] _ b.notes g cap b.notes.length w1 eg rfl hj1 (hpred [g] (fun x hx=>by simp at hx;omega)) hl
    rw [hfil] at cD
    have hf2:=Lib.hid (show ∀ w2 m,w2.ownsRow 0 113 3 (.slice (some ⟨g,0,none⟩) m cap) m (nc (b.notes.filter fun n=>decide (k < n.chg)))->(b.notes.filter fun n=>decide (k < n.chg)).length=m->Kp [g] w1 w2->
        Turned w (w2.setCell ⟨p.c,3,none⟩ (.slice (some ⟨g,0,none⟩) m cap)) p { b with hor:=k,notes:=b.notes.filter fun n=>decide (k < n.chg) } from fun w2 m h1 h2 h3 =>
      hfin w2 g m cap (.inl hob) _ (by rw [hob];rfl) (by rw [h2];exact h1) (by rw [hob];exact h3))
    have hc3:∀ w2,Kp [g] w1 w2->(∃ u,w2.cell? ⟨p.c,3,none⟩=some u)/\w2.frozen? ⟨p.c,3,none⟩=false:=fun w2 hb2=>by
      have hk2:=(hb2.block p.c (Nat.lt_of_lt_of_le hlt hK1.size) (by simp;intro e;rw [hob,e] at d2;exact d2 rfl)).trans hk1
      exact ⟨⟨_,Lib.cell_of_heap hk2 3⟩,Lib.frozen_of_heap hk2 3⟩
    have hc3':=Lib.hid hc3
    clear hfin hfin' hpred hj1 hm1 hK1 hk1 hkb hs1 hfil hB1 hc3 h hd d1 d2 d3 e3 e4 e5 e6 e7 eg
    go_enter Tryz.func71,Tryz.ntmps71
    go_wp2_with fail
    go_at_call 90
    refine cD.mono ?_
    rintro e w2 ⟨⟨m,rfl,hm,ho⟩,hb2⟩
    obtain ⟨⟨u,c3⟩,f3⟩:=hc3'.out w2 hb2
    have hf:=Lib.hid (hf2.out w2 m ho hm hb2)
    clear cD hb2 hf2 q0 q1 q2 q3 r3 hw1 hm ho
    go_wp2
    go_end0
    exact ⟨rfl,hf.out⟩
end Bo
end Go.Proofs.YtobfaibofhmpgaaGreatDoor
