import Derived.Test.YtobfaibofhmpgaaGreatDoorAp39
import Derived.WideKeyEntry
import Derived.WalkLawsBesides
set_option linter.unusedVariables false
set_option maxHeartbeats 16000000
set_option maxRecDepth 100000
namespace Go.Proofs.YtobfaibofhmpgaaGreatDoor.Bo
open Go.Lib Go.RowKit
open Ly (word text flag Rd rp)
def lastN (hor:Nat) (l:List Note):Nat:=(l.getLast?.map (·.chg)).getD hor
theorem lastN_snoc (hor:Nat) (l:List Note) (x:Note):lastN hor (l++[x])=x.chg:=by unfold lastN;simp
theorem drop_flat {α:Type} (f:α->Row) (l:List α) (k:Nat) (x:α) (h:l[k]?=some x):(l.drop k).flatMap f=f x++(l.drop (k+1)).flatMap f:=by
  obtain ⟨h1,h2⟩:=List.getElem?_eq_some_iff.1 h
  rw [List.drop_eq_getElem_cons h1,h2,List.flatMap_cons]
theorem append_noteG {w0:World} {ops:Array Oper} {rest:List Oper} {o:Oper} {a:Act} {Q:Exit->Act->World->Prop} (c:Int) (s:ByteArray) (b:Bool)
    (hgd:o.guard=none) (so xo:Operand) (ho:o.op=.call { callee:=.builtin .append,args:=#[so,xo],argTypes:=#[90,90] }) (B:Nat) (v:Value) (ns:List Note) (k:Nat) (hk:ns.length=k) (n:Note) (hc:(n.chg:Int)=c) (hn:sv n.name=.string s) (hb:n.was=b) (bl:Nat) (hbl:bl=w0.heap.size) (hs:a.eval so=v) (hx:a.eval xo=.slice (some ⟨bl,0,none⟩) 1 1)
    (hown:w0.ownsRow B 113 3 v k (nc ns)) (hl:k<=1099511627776) (hB:B<=w0.heap.size)
    (h:∀ v' w',w'.ownsRow B 113 3 v' (k+1) (nc (ns++[n]))->Kp v.ownBlock.toList w0 w'->wpList Tryz.prog ops Q rest (a.put o.dst v') w') :
    wpList Tryz.prog ops Q (o :: rest) a (w0.alloc (.cells #[.int .i64 c,.string s,.bool b] 113)):=by
  obtain ⟨i0,hi,hz0,hz1,hz2⟩:=info_parts' infoN
  subst hbl
  subst hk
  refine wpList_append_own _ hgd so xo 90 ho B 113 i0 (.agg #[.int .i64 0,.string ⟨#[]⟩,.bool false]) 3 32 Tryz.underlying90 hi hz0 hz1 hz2 rfl (by decide) v ns.length (nc ns) hs (World.ownsRow.alloc hown _) ⟨w0.heap.size,0,none⟩ 1 1 [.int .i64 c,.string s,.bool b] hx rfl (fun j u hj=>?_) (fun u hu=>?_) (by unfold maxLen;omega) (by omega) (by simp;omega)
    (fun v' w' h5 h6 _=>h v' w' ?_ ((Kp.of_below ((Below.refl _ _).alloc (Nat.le_refl _) _)).grown h6 fun q hq=>.inl (by simp [hq])))
  · match j,hj with
    | 0,hj=>simp at hj;subst hj;simp [Addr.add]
    | 1,hj=>simp at hj;subst hj;simp [Addr.add]
    | 2,hj=>simp at hj;subst hj;simp [Addr.add]
  · simp at hu
    rcases hu with rfl | rfl | rfl<;>rfl
  · have e:nc [n]=[.int .i64 c,.string s,.bool b]:=by unfold nc nc;rw [hc,hn,hb]
    rw [nc_app,e]
    exact h5
theorem getJournal_any (w0 w:World) (rb db:Nat) (ns:List Note) (l:Row) (hor last:Nat) (hG:Grd w0 w) (hrb:w0.heap.size<=rb) (h:Rd w rb db (word ns.length++(ns.flatMap noteF++l))) (hl:(ns.flatMap noteF).length+l.length<=140737488355328) (hn:ns.length<=64) (hlast:last<=4611686018427387904) (hhor:hor<=last)
    (hok:∀ k x,ns[k]?=some x->lastN hor (ns.take k) < x.chg/\x.chg<=last/\Pa.fits x.name=true) :
    Calls Tryz.prog 57 #[rp rb,.int .i64 (hor:Int),.int .i64 (last:Int)] w fun e w'=>(∃ v,e=.returned v/\w'.ownsRow w.heap.size 113 3 v ns.length (nc ns))/\Rd w' rb db l/\Kp [rb] w w':=by
  obtain ⟨n,hnn⟩:∃ n,ns.length=n:=⟨_,rfl⟩
  have hnl:n<=(ns.flatMap noteF++l).length:=by
    have:ns.length<=(ns.flatMap noteF).length:=by
      clear h hl hn hok hnn
      induction ns with
      | nil=>simp
      | cons x r ih =>
        rw [List.flatMap_cons,List.length_append,List.length_cons]
        have:1<=(noteF x).length:=by unfold noteF flag;simp;omega
        omega
    rw [List.length_append]
    omega
  rw [hnn] at h hn
  have cC:=Ly.count_any w rb db n (ns.flatMap noteF++l) h hnl (by rw [List.length_append];omega)
  have hrl:=h.rlt
  have hdl:=h.lt
  have hle:decide ((n:Int)<=64)=true:=decide_eq_true (by omega)
  have hF:∀ k∈[rb],w0.heap.size<=k:=fun k hk=>by simp at hk;omega
  have hnn':=Lib.hid hnn
  have hG':=Lib.hid hG
  rw [hnn]
  go_enter Tryz.func57,Tryz.ntmps57
  go_wp2_with fail
  go_at_call 51
  refine cC.mono ?_
  rintro e w1 ⟨rfl,hR1,hK1⟩
  have cN:=Ly.need_any w1 rb db _ hR1
  have hK1':=Lib.hid hK1
  clear cC h hR1 hK1 hnn
  go_wp2_with fail
  go_at_call 52
  refine cN.mono ?_
  rintro e w2 ⟨rfl,hR2,hK2⟩
  have hX2:=Lib.hid (And.intro hR2 (hK1'.out.trans hK2))
  have hs2:w.heap.size<=w2.heap.size:=Nat.le_trans hK1'.out.size hK2.size
  clear cN hR2 hK2
  go_wp2
  go_loopw [1,8,17] (fun s1 s8 s17 wr=>∃ k:Nat,s17=.int .i64 (k:Int)/\k<=n/\s1=.int .i64 (lastN hor (ns.take k):Int)/\Hid (wr.ownsRow w.heap.size 113 3 s8 k (nc (ns.take k))/\Rd wr rb db ((ns.drop k).flatMap noteF++l)/\Kp [rb] w wr)) (fun _ _ s17 wr=>n - (RowKit.intOf s17).toNat)
  case atStart=>exact ⟨0,rfl,Nat.zero_le _,rfl,Lib.hid ⟨World.ownsRow_nil _ _ _ 3,hX2.out⟩⟩
  case round =>
    obtain ⟨k,rfl,hk,rfl,hW⟩:=hrel
    by_cases hlt2:k < n
    · obtain ⟨x,hx⟩:∃ x,ns[k]?=some x:=⟨_,List.getElem?_eq_getElem (by rw [hnn'.out];exact hlt2)⟩
      obtain ⟨o1,o2,o3⟩:=hok k x hx
      obtain ⟨hz,hhz⟩:∃ hz,lastN hor (ns.take k)=hz:=⟨_,rfl⟩
      rw [hhz] at o1 ⊢
      have htk:ns.take (k+1)=ns.take k++[x]:=by
        obtain ⟨q1,q2⟩:=List.getElem?_eq_some_iff.1 hx
        rw [List.take_succ_eq_append_getElem q1,q2]
      have hla:lastN hor (ns.take (k+1))=x.chg:=by rw [htk,lastN_snoc]
      have hRd:=hW.out.2.1
      have hlen:x.name.length+1+((ns.drop (k+1)).flatMap noteF++l).length<=140737488355328:=by
        have e1:ns.flatMap noteF=(ns.take k).flatMap noteF++(ns.drop k).flatMap noteF:=by rw [<-List.flatMap_append,List.take_append_drop]
        have e2:=congrArg List.length e1
        rw [drop_flat noteF ns k x hx] at e2
        have e3:(noteF x).length=17+x.name.length:=by unfold noteF text flag;simp [Ly.word_len];omega
        simp only [List.length_append] at e2 ⊢
        omega
      rw [drop_flat noteF ns k x hx] at hRd
      obtain ⟨rest,hrest⟩:∃ rest,(ns.drop (k+1)).flatMap noteF++l=rest:=⟨_,rfl⟩
      have hRd:Rd wr rb db (word x.chg++(text x.name++(flag x.was++rest))):=by
        rw [<-hrest]
        have e:noteF x=word x.chg++(text x.name++flag x.was):=by unfold noteF;rw [List.append_assoc]
        rw [e] at hRd
        simpa only [List.append_assoc] using hRd
      rw [hrest] at hlen
      obtain ⟨sx,hsx⟩:∃ sx:ByteArray,(⟨x.name.toArray⟩:ByteArray)=sx:=⟨_,rfl⟩
      have c1:=Ly.readNumber_any wr rb db x.chg ((hz:Int)+1) (last:Int) _ hRd (by omega) (by omega) (by omega)
      have hGr:Grd w0 wr:=hG'.out.kp hW.out.2.2 hF
      have c2:∀ W,Kp [rb] wr W->Rd W rb db (text x.name++(flag x.was++rest))->Calls Tryz.prog 53 #[rp rb] W fun e w'=>e=.returned (.string sx)/\Rd w' rb db (flag x.was++rest)/\Kp [rb] W w':=fun W hWk hWr=>by
        rw [<-hsx]
        exact getName_any w0 W rb db x.name _ (hGr.kp hWk hF) hrb hWr (by have:(flag x.was).length=1:=rfl;rw [List.length_append];omega) o3
      have c3:∀ W,Rd W rb db (flag x.was++rest)->Calls Tryz.prog 78 #[rp rb] W fun e w'=>e=.returned (.bool x.was)/\Rd w' rb db rest/\Kp [rb] W w':=fun W hWr=>Ly.readFlag_any W rb db x.was rest hWr
      have hsr:w.heap.size<=wr.heap.size:=hW.out.2.2.size
      have hnx:sv x.name=.string sx:=by unfold sv;rw [hsx]
      have hlk:(ns.take k).length=k:=by rw [List.length_take,hnn'.out];omega
      have hla':=Lib.hid hla
      have htk':=Lib.hid htk
      have hrest':=Lib.hid hrest
      have hnx':=Lib.hid hnx
      have hlk':=Lib.hid hlk
      clear hRd hla htk hx hhz hsx hlen hnx hlk hGr
      go_wp2_with fail
      go_at_call 29
      refine c1.mono ?_
      rintro e wa ⟨rfl,hRa,hKa⟩
      have c2:=c2 wa hKa hRa
      have hKa':=Lib.hid hKa
      clear c1 hRa hKa
      go_wp2_with fail
      go_at_call 53
      refine c2.mono ?_
      rintro e wb ⟨rfl,hRb,hKb⟩
      have c3:=c3 wb hRb
      have hKb':=Lib.hid (hKa'.out.trans hKb)
      clear c2 hRb hKb
      go_wp2_with fail
      go_at_call 78
      refine c3.mono ?_
      rintro e wc ⟨rfl,hRc,hKc⟩
      have hKr:=hKb'.out.trans hKc
      obtain ⟨wX,hwX⟩:∃ wX,wc.alloc (.cells #[.int .i64 (x.chg:Int),.string sx,.bool x.was] 113)=wX:=⟨_,rfl⟩
      have hbX:Below wc.heap.size wc wX:=by rw [<-hwX];exact (Below.refl _ _).alloc (Nat.le_refl _) _
      have hXs:wc.heap.size < wX.heap.size:=by rw [<-hwX];simp
      have hXc:wX.heap[wc.heap.size]?=some (.cells #[.int .i64 (x.chg:Int),.string sx,.bool x.was] 113 (0,0)):=by rw [<-hwX];exact heap_alloc_new wc _
      have hKX:Kp [rb] wr wX:=hKr.belowThen hbX
      have hownX:=Lib.hid (ownsRow_heap hW.out.1 fun g hg=>hKX.block g (World.ownsRow.lt hW.out.1 g hg).2 (by simp;have:=(World.ownsRow.lt hW.out.1 g hg).1;omega))
      have hKw:=Lib.hid (hW.out.2.2.trans hKX)
      have hRX:=Lib.hid (Ly.Rd.below hRc hbX)
      have hsX:w.heap.size<=wX.heap.size:=Nat.le_trans hsr hKX.size
      have z0:=Lib.cell_of_heap hXc 0
      have z1:=Lib.cell_of_heap hXc 1
      have z2:=Lib.cell_of_heap hXc 2
      have hXc':=Lib.hid hXc
      have hnb:Hid (∀ g,u8.ownBlock=some g->w.heap.size<=g/\g < wc.heap.size):=Lib.hid fun g hg=>by
        have q:=World.ownsRow.lt hW.out.1 g hg
        exact ⟨q.1,Nat.lt_of_lt_of_le q.2 hKr.size⟩
      have hnbc:Hid (wc.heap.size∉u8.ownBlock.toList):=Lib.hid fun hm=>by have:=(hnb.out wc.heap.size (by simpa using hm)).2;omega
      clear c3 hRc hKc hKr hbX hXc hKX hW
      go_wp2_with (first
        | (at_builtin;refine append_noteG (x.chg:Int) sx x.was rfl _ _ rfl w.heap.size _ (ns.take k) k hlk'.out x rfl hnx'.out rfl _ rfl rfl rfl hownX.out (by omega) hsX ?_;intro v5 w5 ho5 hK5;have hX5:=(hK5.block _ hXs (hnbc.out)).trans hXc'.out;have y0:=Lib.cell_of_heap hX5 0)
        | fail)
      have hK6:Kp u8.ownBlock.toList wX w5:=hK5
      have hfin:=Lib.hid (show w5.ownsRow w.heap.size 113 3 v5 (k+1) (nc (ns.take (k+1)))/\Rd w5 rb db ((ns.drop (k+1)).flatMap noteF++l)/\Kp [rb] w w5 from by
        refine ⟨by rw [htk'.out];exact ho5,?_,hKw.out.then hK6 fun y hy=>.inr (hnb.out y (by simpa using hy)).1⟩
        rw [hrest'.out]
        have hne:∀ q,q < w.heap.size->q∉u8.ownBlock.toList:=fun q hq hm=>by have:=(hnb.out q (by simpa using hm)).1;omega
        exact hRX.out.kept (hK6.block _ hRX.out.rlt (hne _ hrl)) (hK6.block _ hRX.out.lt (hne _ hdl)) hK6.size)
      clear ho5 hK5 hK6 hX5
      go_wp2
      go_roundw
      case rel=>exact ⟨k+1,by go_num,by omega,by rw [hla'.out],hfin⟩
      case measure=>simp [RowKit.intOf];omega
    · obtain rfl:k=n:=by omega
      have htk:ns.take k=ns:=List.take_of_length_le (by rw [hnn'.out];exact Nat.le_refl _)
      have hdk:ns.drop k=[]:=List.drop_eq_nil_of_le (by rw [hnn'.out];exact Nat.le_refl _)
      obtain ⟨r1,r2,r3⟩:=hW.out
      rw [htk] at r1
      rw [hdk,List.flatMap_nil,List.nil_append] at r2
      have hX:=Lib.hid (And.intro r1 (And.intro r2 r3))
      clear hW r1 r2 r3 htk hdk
      go_wp2
      go_ret
      exact ⟨⟨_,rfl,hX.out.1⟩,hX.out.2⟩
open Ly (word text flag Rd rp)
theorem MapIs.entry {w:World} {b:Nat} {M:List (Row × Value)} {k t e:TypeId} (h:MapIs Tryz.prog k w b M) (hk:Tryz.prog.underlying k=some .string) (ht:Tryz.prog.underlying t=some (.map k e)) {z:Value} (hz:∀ u:World,(zeroValue e).run Tryz.prog u=.ok z u) (hM:M.length < maxLen) {key:Value} {r:Row} (hkey:keyOf Tryz.prog k key=some (.string r)) (val:Value) :
    ∃ v0 st w1 w2,(Instr.mapEntry t (.map (some b)) key).run Tryz.prog w=.ok (.tuple #[v0,goInt st]) w1/\(Instr.entryStore t (.map (some b)) (goInt st) val).run Tryz.prog w1=.ok () w2/\MapIs Tryz.prog k w2 b (putM M r val)/\Kp [b] w w2:=by
  obtain ⟨w',hr,hm,_⟩:=h.store (Go.Maps.string_keyed hk) ht hM hkey (val:=val)
  obtain ⟨l,⟨es,clock,hb,F,_,_⟩,_⟩:=h
  obtain ⟨v0,st,es1,clock1,hE,_,hS⟩:=Go.WideElems.entry_then_store (WideMaps.string_law hk) ht hz hb F hkey
  have hb1:(Go.ChangeMaps.setBlock w b (.map es1 clock1)).heap[b]?=some (.map es1 clock1):=by
    have hlt:=(Array.getElem?_eq_some_iff.1 hb).1
    simp [Go.ChangeMaps.setBlock,hlt]
  obtain ⟨es',clock',hrun,hup⟩:=hS _ val hb1
  rw [hr] at hup
  injection hup with _ hup
  refine ⟨v0,st,_,_,hE,hrun,hm.block ?_,⟨rfl,rfl,rfl,by simp [Go.ChangeMaps.setBlock],fun q hq hn=>?_⟩⟩
  · rw [hup]
    have hlt:=(Array.getElem?_eq_some_iff.1 hb).1
    simp [Go.ChangeMaps.setBlock,hlt]
  · have hne:b≠q:=fun e=>hn (by simp [e])
    simp [Go.ChangeMaps.setBlock,hne]
theorem rise_last {names:List Row} (hr:Rise names) (hne:∀ r∈names,r≠[]) {k:Nat} {r:Row} (h:names[k]?=some r):less ((names.take k).getLast?.getD []) r=true:=by
  obtain ⟨h1,h2⟩:=List.getElem?_eq_some_iff.1 h
  have e:names=names.take k++names.drop k:=(List.take_append_drop k names).symm
  have hd:r∈names.drop k:=by rw [List.drop_eq_getElem_cons h1,h2];simp
  cases hg:(names.take k).getLast? with
  | none =>
    have:=hne r (List.mem_of_getElem? h)
    cases r with
    | nil=>exact absurd rfl this
    | cons x xs=>rw [less_eq];simp
  | some y =>
    have hy:y∈names.take k:=List.mem_of_getLast? hg
    unfold Rise at hr
    rw [e,List.pairwise_append] at hr
    exact hr.2.2 y hy r hd
theorem getNamedC_any (w0 w:World) (rb db:Nat) (names:List Row) (g:Row->Row) (l:Row) (pa pb pc:Value) (most:Int) (hG:Grd w0 w) (hrb:w0.heap.size<=rb) (h:Rd w rb db (word names.length++((names.flatMap fun r=>text r++g r)++l))) (hl:(names.flatMap fun r=>text r++g r).length+l.length<=1099511627776)
    (hm:(names.length:Int)<=most) (hm2:names.length<=65536) (hr:Rise names) (hne:∀ r∈names,r≠[]) (hf:∀ r∈names,Pa.fits r=true)
    (cG:∀ W r l',r∈names->Kp [rb] w W->Rd W rb db (g r++l')->(g r++l').length<=1099511627776->Calls Tryz.prog 55 #[pa,pb,pc] W fun e w'=>∃ u,e=.returned u/\Rd w' rb db l'/\Kp [rb] W w') :
    Calls Tryz.prog 54 #[rp rb,.int .i64 most,.func (.func 55) #[] #[pa,pb,pc]] w fun e w'=>∃ m,e=.returned (.map (some m))/\Rd w' rb db l/\Kp [rb] w w':=by
  obtain ⟨n,hnn⟩:∃ n,names.length=n:=⟨_,rfl⟩
  obtain ⟨f,hfd⟩:∃ f:Row->Row,(fun r=>text r++g r)=f:=⟨_,rfl⟩
  have hfr:∀ r,f r=text r++g r:=fun r=>by rw [<-hfd]
  rw [hfd] at h hl
  have hnl:n<=(names.flatMap f++l).length:=by
    have:names.length<=(names.flatMap f).length:=by
      clear h hl hm hm2 hr hne hf cG hnn
      induction names with
      | nil=>simp
      | cons x r ih =>
        rw [List.flatMap_cons,List.length_append,List.length_cons]
        have:1<=(f x).length:=by rw [hfr];unfold text;simp only [List.length_append,Ly.word_len];omega
        omega
    rw [List.length_append]
    omega
  rw [hnn] at h hm hm2
  have cC:=Ly.count_any w rb db n (names.flatMap f++l) h hnl (by rw [List.length_append];omega)
  have hrl:=h.rlt
  have hdl:=h.lt
  have hle:decide ((n:Int)<=most)=true:=decide_eq_true hm
  have hF:∀ k∈[rb],w0.heap.size<=k:=fun k hk=>by simp at hk;omega
  have hnn':=Lib.hid hnn
  have hG':=Lib.hid hG
  have hmm:=@run_makeMap Tryz.prog
  have hr':=Lib.hid hr
  have hne':=Lib.hid hne
  have hf':=Lib.hid hf
  have cG':=Lib.hid cG
  clear hm hr hne hf cG hfd
  go_enter Tryz.func54,Tryz.ntmps54
  go_wp2_with fail
  go_at_call 51
  refine cC.mono ?_
  rintro e w1 ⟨rfl,hR1,hK1⟩
  have cN:=Ly.need_any w1 rb db _ hR1
  have hK1':=Lib.hid hK1
  clear cC h hR1 hK1 hnn
  go_wp2_with fail
  go_at_call 52
  refine cN.mono ?_
  rintro e w2 ⟨rfl,hR2,hK2⟩
  have hX2:=Lib.hid (And.intro hR2 (hK1'.out.trans hK2))
  obtain ⟨w3,hw3⟩:∃ w3,w2.alloc (.map #[] 0)=w3:=⟨_,rfl⟩
  have hb3:Below w2.heap.size w2 w3:=by rw [<-hw3];exact (Below.refl _ _).alloc (Nat.le_refl _) _
  have hM3:MapIs Tryz.prog 9 w3 w2.heap.size []:=by rw [<-hw3];exact MapIs.made w2 _ _
  have hX3:=Lib.hid (And.intro (Ly.Rd.below hX2.out.1 hb3) (hX2.out.2.belowThen hb3))
  have hs2:w.heap.size<=w2.heap.size:=hX2.out.2.size
  obtain ⟨mb,hmb⟩:∃ mb,w2.heap.size=mb:=⟨_,rfl⟩
  rw [hmb] at hM3 hs2
  have hM3':=Lib.hid hM3
  clear cN hR2 hK2 hb3 hM3
  go_wp2
  go_loopw [9,20] (fun s9 s20 wr=>∃ k:Nat,s20=.int .i64 (k:Int)/\k<=n/\s9=.string ⟨((names.take k).getLast?.getD []).toArray⟩/\Hid ((∃ M,MapIs Tryz.prog 9 wr mb M/\M.length<=k)/\Rd wr rb db ((names.drop k).flatMap f++l)/\Kp [rb] w wr)) (fun _ s20 wr=>n - (RowKit.intOf s20).toNat)
  case atStart=>exact ⟨0,rfl,Nat.zero_le _,rfl,Lib.hid ⟨⟨[],hM3'.out,Nat.le_refl _⟩,hX3.out⟩⟩
  case round =>
    obtain ⟨k,rfl,hk,rfl,hW⟩:=hrel
    by_cases hlt2:k < n
    · obtain ⟨r,hx⟩:∃ r,names[k]?=some r:=⟨_,List.getElem?_eq_getElem (by rw [hnn'.out];exact hlt2)⟩
      have hrm:=List.mem_of_getElem? hx
      have hls:=rise_last hr'.out hne'.out hx
      obtain ⟨sl,hsl⟩:∃ sl:ByteArray,(⟨((names.take k).getLast?.getD []).toArray⟩:ByteArray)=sl:=⟨_,rfl⟩
      obtain ⟨sx,hsx⟩:∃ sx:ByteArray,(⟨r.toArray⟩:ByteArray)=sx:=⟨_,rfl⟩
      have hsd:sx.data.toList=r:=by rw [<-hsx]
      have hsl2:sl.data.toList=(names.take k).getLast?.getD []:=by rw [<-hsl]
      rw [<-hsl2,<-hsd] at hls
      rw [hsl]
      have hlast:(names.take (k+1)).getLast?.getD []=r:=by
        obtain ⟨q1,q2⟩:=List.getElem?_eq_some_iff.1 hx
        rw [List.take_succ_eq_append_getElem q1,q2];simp
      have hRd:=hW.out.2.1
      have hlen:(text r++g r).length+((names.drop (k+1)).flatMap f++l).length<=1099511627776:=by
        have e1:names.flatMap f=(names.take k).flatMap f++(names.drop k).flatMap f:=by rw [<-List.flatMap_append,List.take_append_drop]
        have e2:=congrArg List.length e1
        rw [drop_flat f names k r hx,hfr] at e2
        simp only [List.length_append] at e2 ⊢
        omega
      have htl:(text r).length=8+r.length:=by unfold text;rw [List.length_append,Ly.word_len]
      rw [drop_flat f names k r hx,hfr] at hRd
      obtain ⟨rest,hrest⟩:∃ rest,(names.drop (k+1)).flatMap f++l=rest:=⟨_,rfl⟩
      have hRd:Rd wr rb db (text r++(g r++rest)):=by
        rw [<-hrest]
        simpa only [List.append_assoc] using hRd
      rw [hrest,List.length_append] at hlen
      have hGr:Grd w0 wr:=hG'.out.kp hW.out.2.2 hF
      have hkey:keyOf Tryz.prog 9 (.string sx)=some (.string r):=by rw [keyOf_str Tryz.underlying9 sx (by unfold maxLen;rw [Lib.size_eq,hsd];omega),hsd]
      have c1:Calls Tryz.prog 53 #[rp rb] wr fun e w'=>e=.returned (.string sx)/\Rd w' rb db (g r++rest)/\Kp [rb] wr w':=by
        rw [<-hsx]
        exact getName_any w0 wr rb db r _ hGr hrb hRd (by rw [List.length_append];omega) (hf'.out r hrm)
      have c3:∀ W,Kp [rb] wr W->Rd W rb db (g r++rest)->Calls Tryz.prog 55 #[pa,pb,pc] W fun e w'=>∃ u,e=.returned u/\Rd w' rb db rest/\Kp [rb] W w':=fun W hK hRW=>cG'.out W r rest hrm (hW.out.2.2.trans hK) hRW (by rw [List.length_append];omega)
      obtain ⟨⟨M,hM,hMl⟩,_,hKw⟩:=hW.out
      have hmr:mb≠rb:=by omega
      have hml:mb < wr.heap.size:=hM.lt
      have hen:Hid (∀ W u,Kp [rb] wr W->∃ v0 st wa wb,(Instr.mapEntry 89 (.map (some mb)) (.string sx)).run Tryz.prog W=.ok (.tuple #[v0,goInt st]) wa/\(Instr.entryStore 89 (.map (some mb)) (goInt st) u).run Tryz.prog wa=.ok () wb/\(MapIs Tryz.prog 9 wb mb (putM M r u))/\Kp [mb] W wb):=Lib.hid fun W u hK=>by
        have hMW:MapIs Tryz.prog 9 W mb M:=hM.block (hK.block mb hml (by simpa using hmr))
        exact hMW.entry Tryz.underlying9 Tryz.underlying89 zeroK (by unfold maxLen;omega) hkey u
      have hMl2:Hid (∀ u,(putM M r u).length<=k+1):=Lib.hid fun u=>by
        unfold putM
        exact Nat.succ_le_succ (Nat.le_trans (List.length_filter_le _ _) hMl)
      have hg1:Op.bytesLess sx.toList sl.toList=false:=by
        rw [Lib.toList_data,Lib.toList_data]
        cases hq:Op.bytesLess sx.data.toList sl.data.toList with
        | false=>rfl
        | true =>
          have:=less_trans hls (show less sx.data.toList sl.data.toList=true from hq)
          rw [less_irrefl] at this
          cases this
      have hg2:(sx.toList==sl.toList)=false:=by
        rw [Lib.toList_data,Lib.toList_data,beq_eq_false_iff_ne]
        intro hq
        rw [hq,less_irrefl] at hls
        cases hls
      have hKw':=Lib.hid hKw
      have hsx':=Lib.hid hsx
      have hlast':=Lib.hid hlast
      have hrest':=Lib.hid hrest
      clear hRd hx hrm hlen htl hrest hlast hkey hGr hM hMl hsd hsl hsl2 hW hKw hsx
      go_wp2_with fail
      go_at_call 53
      refine c1.mono ?_
      rintro e wa ⟨rfl,hRa,hKa⟩
      have cN:=Ly.need_any wa rb db _ hRa
      have hKa':=Lib.hid hKa
      clear c1 hRa hKa hls
      go_wp2_with fail
      go_at_call 52
      refine cN.mono ?_
      rintro e wb ⟨rfl,hRb,hKb⟩
      have hKb':=hKa'.out.trans hKb
      have c4:=c3 wb hKb' hRb
      have hKb2:=Lib.hid hKb'
      clear cN hRb hKb hKb' c3
      go_wp2_with fail
      refine c4.mono ?_
      rintro e wc ⟨u,rfl,hRc,hKc⟩
      obtain ⟨v0,st,wd,we,hE,hS,hMe,hKe⟩:=hen.out wc u (hKb2.out.trans hKc)
      have hKall:=hKw'.out.trans (hKb2.out.trans hKc)
      have hRe:=hRc.kept (hKe.block _ hRc.rlt (by simp;omega)) (hKe.block _ hRc.lt (by simp;omega)) hKe.size
      have hKf:Kp [rb] w we:=hKall.then hKe fun x hx=>.inr (by simp at hx;omega)
      have hfin:=Lib.hid (show (∃ M,MapIs Tryz.prog 9 we mb M/\M.length<=k+1)/\Rd we rb db ((names.drop (k+1)).flatMap f++l)/\Kp [rb] w we from ⟨⟨_,hMe,hMl2.out u⟩,by rw [hrest'.out];exact hRe,hKf⟩)
      unfold goInt at hE hS
      clear c4 hRc hKc hMe hKe hKall hRe hKf
      go_wp2
      go_roundw
      case rel=>exact ⟨k+1,by go_num,by omega,by rw [hlast'.out,hsx'.out],hfin⟩
      case measure=>simp [RowKit.intOf];omega
    · obtain rfl:k=n:=by omega
      have hdk:names.drop k=[]:=List.drop_eq_nil_of_le (by rw [hnn'.out];exact Nat.le_refl _)
      obtain ⟨_,r2,r3⟩:=hW.out
      rw [hdk,List.flatMap_nil,List.nil_append] at r2
      have hX:=Lib.hid (And.intro r2 r3)
      clear hW r2 r3 hdk
      go_wp2
      go_ret
      exact ⟨_,rfl,hX.out⟩
theorem getNamedB_any (w0 w:World) (rb db:Nat) (names:List Row) (g:Row->Row) (l:Row) (pa pb:Value) (most:Int) (hG:Grd w0 w) (hrb:w0.heap.size<=rb) (h:Rd w rb db (word names.length++((names.flatMap fun r=>text r++g r)++l))) (hl:(names.flatMap fun r=>text r++g r).length+l.length<=1099511627776)
    (hm:(names.length:Int)<=most) (hm2:names.length<=65536) (hr:Rise names) (hne:∀ r∈names,r≠[]) (hf:∀ r∈names,Pa.fits r=true)
    (cG:∀ W r l',r∈names->Kp [rb] w W->Rd W rb db (g r++l')->(g r++l').length<=1099511627776->Calls Tryz.prog 31 #[pa,pb] W fun e w'=>∃ u,e=.returned u/\Rd w' rb db l'/\Kp [rb] W w') :
    Calls Tryz.prog 30 #[rp rb,.int .i64 most,.func (.func 31) #[] #[pa,pb]] w fun e w'=>∃ m,e=.returned (.map (some m))/\Rd w' rb db l/\Kp [rb] w w':=by
  obtain ⟨n,hnn⟩:∃ n,names.length=n:=⟨_,rfl⟩
  obtain ⟨f,hfd⟩:∃ f:Row->Row,(fun r=>text r++g r)=f:=⟨_,rfl⟩
  have hfr:∀ r,f r=text r++g r:=fun r=>by rw [<-hfd]
  rw [hfd] at h hl
  have hnl:n<=(names.flatMap f++l).length:=by
    have:names.length<=(names.flatMap f).length:=by
      clear h hl hm hm2 hr hne hf cG hnn
      induction names with
      | nil=>simp
      | cons x r ih =>
        rw [List.flatMap_cons,List.length_append,List.length_cons]
        have:1<=(f x).length:=by rw [hfr];unfold text;simp only [List.length_append,Ly.word_len];omega
        omega
    rw [List.length_append]
    omega
  rw [hnn] at h hm hm2
  have cC:=Ly.count_any w rb db n (names.flatMap f++l) h hnl (by rw [List.length_append];omega)
  have hrl:=h.rlt
  have hdl:=h.lt
  have hle:decide ((n:Int)<=most)=true:=decide_eq_true hm
  have hF:∀ k∈[rb],w0.heap.size<=k:=fun k hk=>by simp at hk;omega
  have hnn':=Lib.hid hnn
  have hG':=Lib.hid hG
  have hmm:=@run_makeMap Tryz.prog
  have hr':=Lib.hid hr
  have hne':=Lib.hid hne
  have hf':=Lib.hid hf
  have cG':=Lib.hid cG
  clear hm hr hne hf cG hfd
  go_enter Tryz.func30,Tryz.ntmps30
  go_wp2_with fail
  go_at_call 51
  refine cC.mono ?_
  rintro e w1 ⟨rfl,hR1,hK1⟩
  have cN:=Ly.need_any w1 rb db _ hR1
  have hK1':=Lib.hid hK1
  clear cC h hR1 hK1 hnn
  go_wp2_with fail
  go_at_call 52
  refine cN.mono ?_
  rintro e w2 ⟨rfl,hR2,hK2⟩
  have hX2:=Lib.hid (And.intro hR2 (hK1'.out.trans hK2))
  obtain ⟨w3,hw3⟩:∃ w3,w2.alloc (.map #[] 0)=w3:=⟨_,rfl⟩
  have hb3:Below w2.heap.size w2 w3:=by rw [<-hw3];exact (Below.refl _ _).alloc (Nat.le_refl _) _
  have hM3:MapIs Tryz.prog 9 w3 w2.heap.size []:=by rw [<-hw3];exact MapIs.made w2 _ _
  have hX3:=Lib.hid (And.intro (Ly.Rd.below hX2.out.1 hb3) (hX2.out.2.belowThen hb3))
  have hs2:w.heap.size<=w2.heap.size:=hX2.out.2.size
  obtain ⟨mb,hmb⟩:∃ mb,w2.heap.size=mb:=⟨_,rfl⟩
  rw [hmb] at hM3 hs2
  have hM3':=Lib.hid hM3
  clear cN hR2 hK2 hb3 hM3
  go_wp2
  go_loopw [9,20] (fun s9 s20 wr=>∃ k:Nat,s20=.int .i64 (k:Int)/\k<=n/\s9=.string ⟨((names.take k).getLast?.getD []).toArray⟩/\Hid ((∃ M,MapIs Tryz.prog 9 wr mb M/\M.length<=k)/\Rd wr rb db ((names.drop k).flatMap f++l)/\Kp [rb] w wr)) (fun _ s20 wr=>n - (RowKit.intOf s20).toNat)
  case atStart=>exact ⟨0,rfl,Nat.zero_le _,rfl,Lib.hid ⟨⟨[],hM3'.out,Nat.le_refl _⟩,hX3.out⟩⟩
  case round =>
    obtain ⟨k,rfl,hk,rfl,hW⟩:=hrel
    by_cases hlt2:k < n
    · obtain ⟨r,hx⟩:∃ r,names[k]?=some r:=⟨_,List.getElem?_eq_getElem (by rw [hnn'.out];exact hlt2)⟩
      have hrm:=List.mem_of_getElem? hx
      have hls:=rise_last hr'.out hne'.out hx
      obtain ⟨sl,hsl⟩:∃ sl:ByteArray,(⟨((names.take k).getLast?.getD []).toArray⟩:ByteArray)=sl:=⟨_,rfl⟩
      obtain ⟨sx,hsx⟩:∃ sx:ByteArray,(⟨r.toArray⟩:ByteArray)=sx:=⟨_,rfl⟩
      have hsd:sx.data.toList=r:=by rw [<-hsx]
      have hsl2:sl.data.toList=(names.take k).getLast?.getD []:=by rw [<-hsl]
      rw [<-hsl2,<-hsd] at hls
      rw [hsl]
      have hlast:(names.take (k+1)).getLast?.getD []=r:=by
        obtain ⟨q1,q2⟩:=List.getElem?_eq_some_iff.1 hx
        rw [List.take_succ_eq_append_getElem q1,q2];simp
      have hRd:=hW.out.2.1
      have hlen:(text r++g r).length+((names.drop (k+1)).flatMap f++l).length<=1099511627776:=by
        have e1:names.flatMap f=(names.take k).flatMap f++(names.drop k).flatMap f:=by rw [<-List.flatMap_append,List.take_append_drop]
        have e2:=congrArg List.length e1
        rw [drop_flat f names k r hx,hfr] at e2
        simp only [List.length_append] at e2 ⊢
        omega
      have htl:(text r).length=8+r.length:=by unfold text;rw [List.length_append,Ly.word_len]
      rw [drop_flat f names k r hx,hfr] at hRd
      obtain ⟨rest,hrest⟩:∃ rest,(names.drop (k+1)).flatMap f++l=rest:=⟨_,rfl⟩
      have hRd:Rd wr rb db (text r++(g r++rest)):=by
        rw [<-hrest]
        simpa only [List.append_assoc] using hRd
      rw [hrest,List.length_append] at hlen
      have hGr:Grd w0 wr:=hG'.out.kp hW.out.2.2 hF
      have hkey:keyOf Tryz.prog 9 (.string sx)=some (.string r):=by rw [keyOf_str Tryz.underlying9 sx (by unfold maxLen;rw [Lib.size_eq,hsd];omega),hsd]
      have c1:Calls Tryz.prog 53 #[rp rb] wr fun e w'=>e=.returned (.string sx)/\Rd w' rb db (g r++rest)/\Kp [rb] wr w':=by
        rw [<-hsx]
        exact getName_any w0 wr rb db r _ hGr hrb hRd (by rw [List.length_append];omega) (hf'.out r hrm)
      have c3:∀ W,Kp [rb] wr W->Rd W rb db (g r++rest)->Calls Tryz.prog 31 #[pa,pb] W fun e w'=>∃ u,e=.returned u/\Rd w' rb db rest/\Kp [rb] W w':=fun W hK hRW=>cG'.out W r rest hrm (hW.out.2.2.trans hK) hRW (by rw [List.length_append];omega)
      obtain ⟨⟨M,hM,hMl⟩,_,hKw⟩:=hW.out
      have hmr:mb≠rb:=by omega
      have hml:mb < wr.heap.size:=hM.lt
      have hen:Hid (∀ W u,Kp [rb] wr W->∃ v0 st wa wb,(Instr.mapEntry 59 (.map (some mb)) (.string sx)).run Tryz.prog W=.ok (.tuple #[v0,goInt st]) wa/\(Instr.entryStore 59 (.map (some mb)) (goInt st) u).run Tryz.prog wa=.ok () wb/\(MapIs Tryz.prog 9 wb mb (putM M r u))/\Kp [mb] W wb):=Lib.hid fun W u hK=>by
        have hMW:MapIs Tryz.prog 9 W mb M:=hM.block (hK.block mb hml (by simpa using hmr))
        exact hMW.entry Tryz.underlying9 Tryz.underlying59 zeroC (by unfold maxLen;omega) hkey u
      have hMl2:Hid (∀ u,(putM M r u).length<=k+1):=Lib.hid fun u=>by
        unfold putM
        exact Nat.succ_le_succ (Nat.le_trans (List.length_filter_le _ _) hMl)
      have hg1:Op.bytesLess sx.toList sl.toList=false:=by
        rw [Lib.toList_data,Lib.toList_data]
        cases hq:Op.bytesLess sx.data.toList sl.data.toList with
        | false=>rfl
        | true =>
          have:=less_trans hls (show less sx.data.toList sl.data.toList=true from hq)
          rw [less_irrefl] at this
          cases this
      have hg2:(sx.toList==sl.toList)=false:=by
        rw [Lib.toList_data,Lib.toList_data,beq_eq_false_iff_ne]
        intro hq
        rw [hq,less_irrefl] at hls
        cases hls
      have hKw':=Lib.hid hKw
      have hsx':=Lib.hid hsx
      have hlast':=Lib.hid hlast
      have hrest':=Lib.hid hrest
      clear hRd hx hrm hlen htl hrest hlast hkey hGr hM hMl hsd hsl hsl2 hW hKw hsx
      go_wp2_with fail
      go_at_call 53
      refine c1.mono ?_
      rintro e wa ⟨rfl,hRa,hKa⟩
      have cN:=Ly.need_any wa rb db _ hRa
      have hKa':=Lib.hid hKa
      clear c1 hRa hKa hls
      go_wp2_with fail
      go_at_call 52
      refine cN.mono ?_
      rintro e wb ⟨rfl,hRb,hKb⟩
      have hKb':=hKa'.out.trans hKb
      have c4:=c3 wb hKb' hRb
      have hKb2:=Lib.hid hKb'
      clear cN hRb hKb hKb' c3
      go_wp2_with fail
      refine c4.mono ?_
      rintro e wc ⟨u,rfl,hRc,hKc⟩
      obtain ⟨v0,st,wd,we,hE,hS,hMe,hKe⟩:=hen.out wc u (hKb2.out.trans hKc)
      have hKall:=hKw'.out.trans (hKb2.out.trans hKc)
      have hRe:=hRc.kept (hKe.block _ hRc.rlt (by simp;omega)) (hKe.block _ hRc.lt (by simp;omega)) hKe.size
      have hKf:Kp [rb] w we:=hKall.then hKe fun x hx=>.inr (by simp at hx;omega)
      have hfin:=Lib.hid (show (∃ M,MapIs Tryz.prog 9 we mb M/\M.length<=k+1)/\Rd we rb db ((names.drop (k+1)).flatMap f++l)/\Kp [rb] w we from ⟨⟨_,hMe,hMl2.out u⟩,by rw [hrest'.out];exact hRe,hKf⟩)
      unfold goInt at hE hS
      clear c4 hRc hKc hMe hKe hKall hRe hKf
      go_wp2
      go_roundw
      case rel=>exact ⟨k+1,by go_num,by omega,by rw [hlast'.out,hsx'.out],hfin⟩
      case measure=>simp [RowKit.intOf];omega
    · obtain rfl:k=n:=by omega
      have hdk:names.drop k=[]:=List.drop_eq_nil_of_le (by rw [hnn'.out];exact Nat.le_refl _)
      obtain ⟨_,r2,r3⟩:=hW.out
      rw [hdk,List.flatMap_nil,List.nil_append] at r2
      have hX:=Lib.hid (And.intro r2 r3)
      clear hW r2 r3 hdk
      go_wp2
      go_ret
      exact ⟨_,rfl,hX.out⟩
end Go.Proofs.YtobfaibofhmpgaaGreatDoor.Bo
