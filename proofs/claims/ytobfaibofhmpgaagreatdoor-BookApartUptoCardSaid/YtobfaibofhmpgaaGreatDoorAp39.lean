import Derived.Test.YtobfaibofhmpgaaGreatDoorAp38
set_option linter.unusedVariables false
set_option maxHeartbeats 16000000
set_option maxRecDepth 100000
namespace Go.Proofs.YtobfaibofhmpgaaGreatDoor.Bo
open Go.Lib Go.RowKit
open Ly (Wr BOwn word text flag)
theorem flat_le {α:Type} (f:α->Row) (l:List α) (k:Nat):((l.take k).flatMap f).length<=(l.flatMap f).length:=by
  have:l.flatMap f=(l.take k).flatMap f++(l.drop k).flatMap f:=by rw [<-List.flatMap_append,List.take_append_drop]
  rw [this,List.length_append]
  omega
theorem flat_succ {α:Type} (f:α->Row) (l:List α) (k:Nat) (x:α) (h:l[k]?=some x):(l.take (k+1)).flatMap f=(l.take k).flatMap f++f x:=by
  obtain ⟨h1,h2⟩:=List.getElem?_eq_some_iff.1 h
  rw [List.take_succ_eq_append_getElem h1,h2,List.flatMap_append]
  simp
theorem putNamedC_any (A w:World) (b:Nat) (M:List (Row × Value)) (ns:List Row) (g:Row->Row) (v:Value) (l:Row) (hA:Below A.heap.size A w) (hM:MapIs Tryz.prog 9 A b M) (hp:(M.map Prod.fst).Perm ns) (hr:Rise ns) (h:BOwn A.heap.size v l w)
    (hsm:∀ r∈ns,r.length<=1099511627776) (hl:l.length+8+(ns.flatMap fun r=>text r++g r).length<=140737488355328) (hn0:ns.length<=1099511627776)
    (cP:∀ W v l r,r∈ns->Below A.heap.size A W->BOwn A.heap.size v l W->l.length+(g r).length<=140737488355328->Calls Tryz.prog 60 #[v,(lookM M r).getD (.agg #[.int .i64 0,.string ⟨#[]⟩])] W fun e w'=>∃ v',e=.returned v'/\Wr A.heap.size W w' v v' (l++g r)) :
    Calls Tryz.prog 59 #[v,.map (some b),.func (.func 60) #[] #[]] w fun e w'=>∃ v',e=.returned v'/\Wr A.heap.size w w' v v' (l++(word ns.length++ns.flatMap fun r=>text r++g r)):=by
  have hbA:b < A.heap.size:=hM.lt
  obtain ⟨B,hB⟩:∃ B,A.heap.size=B:=⟨_,rfl⟩
  rw [hB] at hA h cP hbA ⊢
  have hBw:B<=w.heap.size:=by rw [<-hB];exact hA.size
  obtain ⟨n,hn⟩:∃ n,ns.length=n:=⟨_,rfl⟩
  have hn40:n<=1099511627776:=by omega
  have hMl:M.length=n:=by rw [<-hn,<-hp.length_eq,List.length_map]
  have hat:∀ W,Below B A W->MapIs Tryz.prog 9 W b M:=fun W hW=>hM.block (hW.block b hbA)
  have hrl:=(hat w hA).len Tryz.underlying89
  rw [hMl] at hrl
  have cN:=Ly.number_any w B v l n h (by omega) hBw (by omega)
  obtain ⟨x0,hx0⟩:∃ x0,l++word n=x0:=⟨_,rfl⟩
  have hx0l:x0.length=l.length+8:=by rw [<-hx0,List.length_append,Ly.word_len]
  rw [hx0] at cN
  rw [hn,<-List.append_assoc,hx0]
  have h':=Lib.hid h
  have hA':=Lib.hid hA
  obtain ⟨f,hf⟩:∃ f:Row->Row,(fun r=>text r++g r)=f:=⟨_,rfl⟩
  have hfr:∀ r,f r=text r++g r:=fun r=>by rw [<-hf]
  rw [hf] at hl ⊢
  have hfr':=Lib.hid hfr
  have hlook:Hid (∀ W r,r.length<=1099511627776->Below B A W->(Instr.lookup 89 (.map (some b)) (.string ⟨r.toArray⟩) false).run Tryz.prog W=.ok ((lookM M r).getD (.agg #[.int .i64 0,.string ⟨#[]⟩])) W):=Lib.hid fun W r hr hW=>by
    have hkey:=keyOf_str Tryz.underlying9 ⟨r.toArray⟩ (by unfold maxLen;show r.toArray.size<=_;simp;omega)
    exact (hat W hW).look keyed Tryz.underlying89 (zeroK _) (by simpa using hkey)
  have hnames:∀ W,Below B A W->Calls Tryz.prog 72 #[.map (some b)] W fun e w'=>(∃ v,e=.returned v/\w'.ownsRow W.heap.size 9 1 v ns.length (ns.map encStr))/\Below W.heap.size W w':=fun W hW=>namesC_any W b M ns (hat W hW) hp hr hn0
  rw [hn] at hnames
  have hsm':=Lib.hid hsm
  have hn':=Lib.hid hn
  have cP':=Lib.hid cP
  clear hM hat hp hr hsm hn h hA hf hfr hx0 hMl cP
  go_enter Tryz.func59,Tryz.ntmps59
  go_wp2_with fail
  go_at_call 35
  refine cN.mono ?_
  rintro e w1 ⟨v1,rfl,h1⟩
  have hA1:=h1.below h'.out hA'.out hBw
  have cM:=hnames w1 hA1
  have h1':=Lib.hid h1
  have hA1':=Lib.hid hA1
  clear cN h1 hnames hrl hA1
  go_wp2_with fail
  go_at_call 72
  refine cM.mono ?_
  rintro e w2 ⟨⟨nv,rfl,hnv⟩,hb2⟩
  obtain ⟨ao,cap,rfl⟩:=ownsRow_form hnv
  have hBw1:B<=w1.heap.size:=Nat.le_trans hBw h1'.out.kp.size
  have hnv':=Lib.hid hnv
  have h12:=Lib.hid (h1'.out.then_below hb2)
  have hA2:=Lib.hid (below_then2 hA1'.out hb2 hBw1)
  have hb2':=Lib.hid hb2
  clear cM hnv hb2
  go_wp2
  go_loopw [0,16] (fun s0 s16 wr=>∃ k:Nat,s16=.int .i64 (k:Int)/\k<=n/\Hid (Wr B w2 wr v1 s0 (x0++(ns.take k).flatMap f)/\Below B A wr)) (fun _ s16 wr=>n - (RowKit.intOf s16).toNat)
  case atStart=>exact ⟨0,rfl,Nat.zero_le _,Lib.hid ⟨by rw [List.take_zero,List.flatMap_nil,List.append_nil];exact Wr.refl h12.out.own,hA2.out⟩⟩
  case round =>
    obtain ⟨k,rfl,hk,hW⟩:=hrel
    by_cases hlt2:k < n
    · obtain ⟨gb,rfl,hg2,r,hr,hcr⟩:=str_at hnv'.out hlt2
      have hgr:wr.heap[gb]?=w2.heap[gb]?:=hW.out.1.block hg2 (fun e=>by
        have q1:=(World.ownsRow.lt h1'.out.own gb e).2
        have q2:=(World.ownsRow.lt hnv'.out gb (by simp [Value.ownBlock])).1
        omega)
      have hcr2:wr.cell? ⟨gb,k,none⟩=some (.string ⟨r.toArray⟩):=by
        have e:wr.cell? ⟨gb,k,none⟩=w2.cell? ⟨gb,k,none⟩:=by simp [World.cell?,hgr]
        rw [e];exact hcr
      have hrm:=List.mem_of_getElem? hr
      have hrl:=hsm'.out r hrm
      obtain ⟨u,hu⟩:∃ u,(lookM M r).getD (.agg #[.int .i64 0,.string ⟨#[]⟩])=u:=⟨_,rfl⟩
      obtain ⟨x,hx⟩:∃ x,x0++(ns.take k).flatMap f=x:=⟨_,rfl⟩
      have hxs:x0++(ns.take (k+1)).flatMap f=x++(text r++g r):=by rw [flat_succ f ns k r hr,<-List.append_assoc,hx,hfr'.out]
      have hxl:x.length+(text r++g r).length<=140737488355328:=by
        have:=flat_le f ns (k+1)
        have e:=congrArg List.length hxs
        simp only [List.length_append] at e ⊢
        omega
      rw [hx] at hW
      rw [List.length_append] at hxl
      have htl:(text r).length=8+r.length:=by unfold text;rw [List.length_append,Ly.word_len]
      obtain ⟨v0,hv0⟩:∃ v0,u0=v0:=⟨_,rfl⟩
      rw [hv0] at hW
      have cT:∀ W,Below wr.heap.size wr W->Calls Tryz.prog 58 #[v0,.string ⟨r.toArray⟩] W fun e w'=>∃ v',e=.returned v'/\Wr B wr w' v0 v' (x++text r)/\Kp v0.ownBlock.toList wr w'/\Below B A w':=fun W hW2=>by
        refine (Ly.text_any W B v0 x ⟨r.toArray⟩ (hW.out.1.own.kept hW2) (by show x.length+8+r.toArray.size<=_;simp;omega) (Nat.le_trans (by rw [<-hB];exact hW.out.2.size) hW2.size)).mono ?_
        rintro e w' ⟨v',rfl,hw⟩
        have:=Wr.after hW2 hw
        exact ⟨v',rfl,this,this.kp,this.below hW.out.1.own hW.out.2 (by rw [<-hB];exact hW.out.2.size)⟩
      have cU:∀ W v',Wr B wr W v0 v' (x++text r)->Below B A W->Calls Tryz.prog 60 #[v',u] W fun e w'=>∃ v'',e=.returned v''/\(Wr B w2 w' v1 v'' (x++(text r++g r))/\Below B A w')/\Kp v0.ownBlock.toList wr w':=fun W v' hw hAw=>by
        have:=cP'.out W v' (x++text r) r hrm hAw hw.own (by rw [List.length_append];omega)
        rw [hu] at this
        refine this.mono ?_
        rintro e w' ⟨v'',rfl,hw2⟩
        have hw3:=hw.then hw2
        rw [List.append_assoc] at hw3
        exact ⟨v'',rfl,⟨hW.out.1.then hw3,hw3.below hW.out.1.own hW.out.2 (by rw [<-hB];exact hW.out.2.size)⟩,hw3.kp⟩
      have hlk:=hlook.out wr.drew r hrl (Below.drew (show Below B A wr from hW.out.2))
      have hlk2:=fun W (hW:Below B A W)=>hlook.out W r hrl hW
      rw [hu] at hlk
      rw [hu] at hlk2
      obtain ⟨sx,hsx⟩:∃ sx:ByteArray,(⟨r.toArray⟩:ByteArray)=sx:=⟨_,rfl⟩
      rw [hsx] at hcr2 cT hlk hlk2
      obtain ⟨xt,hxt⟩:∃ xt,x++text r=xt:=⟨_,rfl⟩
      rw [hxt] at cT cU
      have hxs':=Lib.hid hxs
      clear hW hxs hxl hrl hu hx hgr hcr hr htl hrm hg2 hsx hxt
      subst hv0
      go_wp2_with fail
      go_region_held3 (fun W=>Kp u0.ownBlock.toList wr W)
        (first | assumption | exact Kp.of_below (Below.drew (Below.refl _ _)) | exact Kp.refl _ _)
        (first
          | (go_at_call 58;refine (cT _ (Below.drew (Below.refl _ _))).mono ?_;rintro e wT ⟨vT,rfl,hT,hTk,hTb⟩;have hlk3:=hlk2 wT hTb)
          | (go_at_call 60;refine (cU _ _ hT hTb).mono ?_;rintro e wU ⟨vU,rfl,hU,hUk⟩))
      all_goals
        have hU':=Lib.hid hU
        clear hU hUk cU cT hlk hlk2
        go_wp2
        go_roundw
        case rel=>exact ⟨k+1,by go_num,by omega,Lib.hid (by rw [hxs'.out];exact hU'.out)⟩
        case measure=>simp [RowKit.intOf];omega
    · obtain rfl:k=n:=by omega
      have htk:(ns.take k).flatMap f=ns.flatMap f:=by rw [List.take_of_length_le (by rw [hn'.out];exact Nat.le_refl _)]
      have hW':=hW.out.1
      rw [htk] at hW'
      have hX:=Lib.hid (h12.out.then hW')
      clear hW hW' htk
      go_wp2
      go_ret
      exact ⟨_,rfl,hX.out⟩
theorem putNamedB_any (A w:World) (b:Nat) (M:List (Row × Value)) (ns:List Row) (g:Row->Row) (v:Value) (l:Row) (hA:Below A.heap.size A w) (hM:MapIs Tryz.prog 9 A b M) (hp:(M.map Prod.fst).Perm ns) (hr:Rise ns) (h:BOwn A.heap.size v l w)
    (hsm:∀ r∈ns,r.length<=1099511627776) (hl:l.length+8+(ns.flatMap fun r=>text r++g r).length<=140737488355328) (hn0:ns.length<=1099511627776)
    (cP:∀ W v l r,r∈ns->Below A.heap.size A W->BOwn A.heap.size v l W->l.length+(g r).length<=140737488355328->Calls Tryz.prog 36 #[v,(lookM M r).getD (.pointer none)] W fun e w'=>∃ v',e=.returned v'/\Wr A.heap.size W w' v v' (l++g r)) :
    Calls Tryz.prog 34 #[v,.map (some b),.func (.func 36) #[] #[]] w fun e w'=>∃ v',e=.returned v'/\Wr A.heap.size w w' v v' (l++(word ns.length++ns.flatMap fun r=>text r++g r)):=by
  have hbA:b < A.heap.size:=hM.lt
  obtain ⟨B,hB⟩:∃ B,A.heap.size=B:=⟨_,rfl⟩
  rw [hB] at hA h cP hbA ⊢
  have hBw:B<=w.heap.size:=by rw [<-hB];exact hA.size
  obtain ⟨n,hn⟩:∃ n,ns.length=n:=⟨_,rfl⟩
  have hn40:n<=1099511627776:=by omega
  have hMl:M.length=n:=by rw [<-hn,<-hp.length_eq,List.length_map]
  have hat:∀ W,Below B A W->MapIs Tryz.prog 9 W b M:=fun W hW=>hM.block (hW.block b hbA)
  have hrl:=(hat w hA).len Tryz.underlying59
  rw [hMl] at hrl
  have cN:=Ly.number_any w B v l n h (by omega) hBw (by omega)
  obtain ⟨x0,hx0⟩:∃ x0,l++word n=x0:=⟨_,rfl⟩
  have hx0l:x0.length=l.length+8:=by rw [<-hx0,List.length_append,Ly.word_len]
  rw [hx0] at cN
  rw [hn,<-List.append_assoc,hx0]
  have h':=Lib.hid h
  have hA':=Lib.hid hA
  obtain ⟨f,hf⟩:∃ f:Row->Row,(fun r=>text r++g r)=f:=⟨_,rfl⟩
  have hfr:∀ r,f r=text r++g r:=fun r=>by rw [<-hf]
  rw [hf] at hl ⊢
  have hfr':=Lib.hid hfr
  have hlook:Hid (∀ W r,r.length<=1099511627776->Below B A W->(Instr.lookup 59 (.map (some b)) (.string ⟨r.toArray⟩) false).run Tryz.prog W=.ok ((lookM M r).getD (.pointer none)) W):=Lib.hid fun W r hr hW=>by
    have hkey:=keyOf_str Tryz.underlying9 ⟨r.toArray⟩ (by unfold maxLen;show r.toArray.size<=_;simp;omega)
    exact (hat W hW).look keyed Tryz.underlying59 (zeroC _) (by simpa using hkey)
  have hnames:∀ W,Below B A W->Calls Tryz.prog 39 #[.map (some b)] W fun e w'=>(∃ v,e=.returned v/\w'.ownsRow W.heap.size 9 1 v ns.length (ns.map encStr))/\Below W.heap.size W w':=fun W hW=>namesB_any W b M ns (hat W hW) hp hr hn0
  rw [hn] at hnames
  have hsm':=Lib.hid hsm
  have hn':=Lib.hid hn
  have cP':=Lib.hid cP
  clear hM hat hp hr hsm hn h hA hf hfr hx0 hMl cP
  go_enter Tryz.func34,Tryz.ntmps34
  go_wp2_with fail
  go_at_call 35
  refine cN.mono ?_
  rintro e w1 ⟨v1,rfl,h1⟩
  have hA1:=h1.below h'.out hA'.out hBw
  have cM:=hnames w1 hA1
  have h1':=Lib.hid h1
  have hA1':=Lib.hid hA1
  clear cN h1 hnames hrl hA1
  go_wp2_with fail
  go_at_call 39
  refine cM.mono ?_
  rintro e w2 ⟨⟨nv,rfl,hnv⟩,hb2⟩
  obtain ⟨ao,cap,rfl⟩:=ownsRow_form hnv
  have hBw1:B<=w1.heap.size:=Nat.le_trans hBw h1'.out.kp.size
  have hnv':=Lib.hid hnv
  have h12:=Lib.hid (h1'.out.then_below hb2)
  have hA2:=Lib.hid (below_then2 hA1'.out hb2 hBw1)
  have hb2':=Lib.hid hb2
  clear cM hnv hb2
  go_wp2
  go_loopw [0,16] (fun s0 s16 wr=>∃ k:Nat,s16=.int .i64 (k:Int)/\k<=n/\Hid (Wr B w2 wr v1 s0 (x0++(ns.take k).flatMap f)/\Below B A wr)) (fun _ s16 wr=>n - (RowKit.intOf s16).toNat)
  case atStart=>exact ⟨0,rfl,Nat.zero_le _,Lib.hid ⟨by rw [List.take_zero,List.flatMap_nil,List.append_nil];exact Wr.refl h12.out.own,hA2.out⟩⟩
  case round =>
    obtain ⟨k,rfl,hk,hW⟩:=hrel
    by_cases hlt2:k < n
    · obtain ⟨gb,rfl,hg2,r,hr,hcr⟩:=str_at hnv'.out hlt2
      have hgr:wr.heap[gb]?=w2.heap[gb]?:=hW.out.1.block hg2 (fun e=>by
        have q1:=(World.ownsRow.lt h1'.out.own gb e).2
        have q2:=(World.ownsRow.lt hnv'.out gb (by simp [Value.ownBlock])).1
        omega)
      have hcr2:wr.cell? ⟨gb,k,none⟩=some (.string ⟨r.toArray⟩):=by
        have e:wr.cell? ⟨gb,k,none⟩=w2.cell? ⟨gb,k,none⟩:=by simp [World.cell?,hgr]
        rw [e];exact hcr
      have hrm:=List.mem_of_getElem? hr
      have hrl:=hsm'.out r hrm
      obtain ⟨u,hu⟩:∃ u,(lookM M r).getD (.pointer none)=u:=⟨_,rfl⟩
      obtain ⟨x,hx⟩:∃ x,x0++(ns.take k).flatMap f=x:=⟨_,rfl⟩
      have hxs:x0++(ns.take (k+1)).flatMap f=x++(text r++g r):=by rw [flat_succ f ns k r hr,<-List.append_assoc,hx,hfr'.out]
      have hxl:x.length+(text r++g r).length<=140737488355328:=by
        have:=flat_le f ns (k+1)
        have e:=congrArg List.length hxs
        simp only [List.length_append] at e ⊢
        omega
      rw [hx] at hW
      rw [List.length_append] at hxl
      have htl:(text r).length=8+r.length:=by unfold text;rw [List.length_append,Ly.word_len]
      obtain ⟨v0,hv0⟩:∃ v0,u0=v0:=⟨_,rfl⟩
      rw [hv0] at hW
      have cT:∀ W,Below wr.heap.size wr W->Calls Tryz.prog 58 #[v0,.string ⟨r.toArray⟩] W fun e w'=>∃ v',e=.returned v'/\Wr B wr w' v0 v' (x++text r)/\Kp v0.ownBlock.toList wr w'/\Below B A w':=fun W hW2=>by
        refine (Ly.text_any W B v0 x ⟨r.toArray⟩ (hW.out.1.own.kept hW2) (by show x.length+8+r.toArray.size<=_;simp;omega) (Nat.le_trans (by rw [<-hB];exact hW.out.2.size) hW2.size)).mono ?_
        rintro e w' ⟨v',rfl,hw⟩
        have:=Wr.after hW2 hw
        exact ⟨v',rfl,this,this.kp,this.below hW.out.1.own hW.out.2 (by rw [<-hB];exact hW.out.2.size)⟩
      have cU:∀ W v',Wr B wr W v0 v' (x++text r)->Below B A W->Calls Tryz.prog 36 #[v',u] W fun e w'=>∃ v'',e=.returned v''/\(Wr B w2 w' v1 v'' (x++(text r++g r))/\Below B A w')/\Kp v0.ownBlock.toList wr w':=fun W v' hw hAw=>by
        have:=cP'.out W v' (x++text r) r hrm hAw hw.own (by rw [List.length_append];omega)
        rw [hu] at this
        refine this.mono ?_
        rintro e w' ⟨v'',rfl,hw2⟩
        have hw3:=hw.then hw2
        rw [List.append_assoc] at hw3
        exact ⟨v'',rfl,⟨hW.out.1.then hw3,hw3.below hW.out.1.own hW.out.2 (by rw [<-hB];exact hW.out.2.size)⟩,hw3.kp⟩
      have hlk:=hlook.out wr.drew r hrl (Below.drew (show Below B A wr from hW.out.2))
      have hlk2:=fun W (hW:Below B A W)=>hlook.out W r hrl hW
      rw [hu] at hlk
      rw [hu] at hlk2
      obtain ⟨sx,hsx⟩:∃ sx:ByteArray,(⟨r.toArray⟩:ByteArray)=sx:=⟨_,rfl⟩
      rw [hsx] at hcr2 cT hlk hlk2
      obtain ⟨xt,hxt⟩:∃ xt,x++text r=xt:=⟨_,rfl⟩
      rw [hxt] at cT cU
      have hxs':=Lib.hid hxs
      clear hW hxs hxl hrl hu hx hgr hcr hr htl hrm hg2 hsx hxt
      subst hv0
      go_wp2_with fail
      go_region_held3 (fun W=>Kp u0.ownBlock.toList wr W)
        (first | assumption | exact Kp.of_below (Below.drew (Below.refl _ _)) | exact Kp.refl _ _)
        (first
          | (go_at_call 58;refine (cT _ (Below.drew (Below.refl _ _))).mono ?_;rintro e wT ⟨vT,rfl,hT,hTk,hTb⟩;have hlk3:=hlk2 wT hTb)
          | (go_at_call 36;refine (cU _ _ hT hTb).mono ?_;rintro e wU ⟨vU,rfl,hU,hUk⟩))
      all_goals
        have hU':=Lib.hid hU
        clear hU hUk cU cT hlk hlk2
        go_wp2
        go_roundw
        case rel=>exact ⟨k+1,by go_num,by omega,Lib.hid (by rw [hxs'.out];exact hU'.out)⟩
        case measure=>simp [RowKit.intOf];omega
    · obtain rfl:k=n:=by omega
      have htk:(ns.take k).flatMap f=ns.flatMap f:=by rw [List.take_of_length_le (by rw [hn'.out];exact Nat.le_refl _)]
      have hW':=hW.out.1
      rw [htk] at hW'
      have hX:=Lib.hid (h12.out.then hW')
      clear hW hW' htk
      go_wp2
      go_ret
      exact ⟨_,rfl,hX.out⟩
open Ly (Wr BOwn word text flag)
theorem cards_bytes {chg:Nat} {b:Bk} (hO:BkOk chg b):(b.cards.map (·.name)).flatMap (fun r=>text r++((lfAt b r).map cardF).getD [])=b.cards.flatMap fun l=>text l.name++cardF l:=by
  rw [List.flatMap_map]
  refine congrArg List.flatten (List.map_congr_left fun l hl=>?_)
  rw [lfAt_mem hO.well hl]
  rfl
theorem card_bytes_len {l:Leaf}:(cardF l).length=16+l.text.length:=by unfold cardF text;simp [Ly.word_len];omega
theorem putCards_any (A w:World) (b:Bk) (p:Pl) (chg:Nat) (v:Value) (l:Row) (hA:Below A.heap.size A w) (hb:BkIs A b p) (hO:BkOk chg b) (hchg:chg<=4611686018427387904) (h:BOwn A.heap.size v l w)
    (hl:l.length+8+(b.cards.flatMap fun l=>text l.name++cardF l).length<=140737488355328) :
    Calls Tryz.prog 59 #[v,.map (some p.m),.func (.func 60) #[] #[]] w fun e w'=>∃ v',e=.returned v'/\Wr A.heap.size w w' v v' (l++(word b.cards.length++b.cards.flatMap fun l=>text l.name++cardF l)):=by
  have hcb:=cards_bytes hO
  have hns:(b.cards.map (·.name)).length=b.cards.length:=List.length_map ..
  have hm:=hO.most
  rw [<-hcb] at hl ⊢
  rw [<-hns]
  refine putNamedC_any A w p.m (cM b.cards) _ _ v l hA hb.map (by unfold cM;rw [List.map_map];exact List.Perm.refl _) hO.rise h (fun r hr=>?_) hl (by omega) fun W v l r hr hW ho hln=>?_
  · obtain ⟨x,hx,rfl⟩:=List.mem_map.1 hr
    have:=(hO.lens x hx).1
    omega
  · obtain ⟨x,hx,rfl⟩:=List.mem_map.1 hr
    have hlf:=lfAt_mem hO.well hx
    have hlk:(lookM (cM b.cards) x.name).getD (.agg #[.int .i64 0,.string ⟨#[]⟩])=.agg #[.int .i64 (x.tag:Int),.string ⟨x.text.toArray⟩]:=by
      rw [(look_leaf b x.name).1,hlf];rfl
    rw [hlk]
    have hg:((lfAt b x.name).map cardF).getD []=word x.tag++text x.text:=by rw [hlf];rfl
    rw [hg] at hln ⊢
    have hlen:(word x.tag++text x.text).length=16+x.text.length:=card_bytes_len (l:=x)
    have:=putCard_any W A.heap.size v l x.tag ⟨x.text.toArray⟩ ho (by show l.length+16+x.text.toArray.size<=_;rw [hlen] at hln;simp;omega) hW.size (by have:=(hO.tags x hx).2;omega)
    simpa using this
theorem putBook_any (A w:World) (b:Bk) (p:Pl) (chg:Nat) (v:Value) (l:Row) (hA:Below A.heap.size A w) (hb:BkIs A b p) (hO:BkOk chg b) (hchg:chg<=4611686018427387904) (h:BOwn A.heap.size v l w) (hl:l.length+(bookF b).length<=140737488355328) :
    Calls Tryz.prog 36 #[v,pv p.c] w fun e w'=>∃ v',e=.returned v'/\Wr A.heap.size w w' v v' (l++bookF b):=by
  have hlt:p.c < A.heap.size:=hb.lt p.c (by simp [Pl.fp])
  have hSS:Hid (∀ W,Below A.heap.size A W->W.cell? ⟨p.c,0,none⟩=some (.int .i64 (b.made:Int))/\W.cell? ⟨p.c,1,none⟩=some (.int .i64 (b.hor:Int))/\W.cell? ⟨p.c,2,none⟩=some (.map (some p.m))/\W.cell? ⟨p.c,3,none⟩=some p.j):=Lib.hid fun W hW=>by
    obtain ⟨y0,y1,y2,y3,_⟩:=col4 hb (hW.block p.c hlt)
    exact ⟨y0,y1,y2,y3⟩
  have hjj:Hid (∀ W,Below A.heap.size A W->W.ownsRow 0 113 3 p.j b.notes.length (nc b.notes)):=Lib.hid fun W hW=>ownsRow_heap hb.jou fun g hg=>hW.block g (hb.jou.lt g hg).2
  obtain ⟨B,hB⟩:∃ B,A.heap.size=B:=⟨_,rfl⟩
  obtain ⟨n,hn⟩:∃ n,b.notes.length=n:=⟨_,rfl⟩
  have hn64:n<=64:=by rw [<-hn];exact hO.few
  have hnl:Hid (∀ x∈b.notes,x.chg<=4611686018427387904):=Lib.hid fun x hx=>by have:=(hO.notes x hx).2.1;omega
  have hm1:=hO.made
  have hm2:=hO.hor
  have cC:=fun w3 v3 l3 h1 h2 h3=>putCards_any A w3 b p chg v3 l3 h1 hb hO hchg h2 h3
  obtain ⟨X1,hX1⟩:∃ X,l++word b.made=X:=⟨_,rfl⟩
  obtain ⟨X2,hX2⟩:∃ X,X1++word b.hor=X:=⟨_,rfl⟩
  obtain ⟨cb,hcb⟩:∃ X,(b.cards.flatMap fun l=>text l.name++cardF l)=X:=⟨_,rfl⟩
  obtain ⟨X3,hX3⟩:∃ X,X2++(word b.cards.length++cb)=X:=⟨_,rfl⟩
  obtain ⟨X4,hX4⟩:∃ X,X3++word n=X:=⟨_,rfl⟩
  have hall:l++bookF b=X4++b.notes.flatMap noteF:=by
    rw [<-hX4,<-hX3,<-hX2,<-hX1,<-hcb,<-hn]
    unfold bookF
    simp only [List.append_assoc]
  rw [hB] at hA h cC hSS hjj ⊢
  rw [hall]
  have e:=congrArg List.length hall
  have e1:=congrArg List.length hX1
  have e2:=congrArg List.length hX2
  have e3:=congrArg List.length hX3
  have e4:=congrArg List.length hX4
  simp only [List.length_append,Ly.word_len] at e e1 e2 e3 e4
  have hBw:B<=w.heap.size:=by rw [<-hB];exact hA.size
  have c1:Calls Tryz.prog 35 #[v,.int .i64 (b.made:Int)] w fun e w'=>∃ v1,e=.returned v1/\Wr B w w' v v1 X1/\Below B A w':=by
    refine (Ly.number_any w B v l b.made h (by omega) hBw (by omega)).mono ?_
    rintro e w' ⟨v1,rfl,hw⟩
    rw [hX1] at hw
    exact ⟨v1,rfl,hw,hw.below h hA hBw⟩
  have c2:∀ w1 v1,Wr B w w1 v v1 X1->Calls Tryz.prog 35 #[v1,.int .i64 (b.hor:Int)] w1 fun e w'=>∃ v2,e=.returned v2/\Wr B w w' v v2 X2/\Below B A w':=fun w1 v1 hw1=>by
    refine (Ly.number_any w1 B v1 X1 b.hor hw1.own (by omega) (Nat.le_trans hBw hw1.kp.size) (by omega)).mono ?_
    rintro e w' ⟨v2,rfl,hw⟩
    rw [hX2] at hw
    exact ⟨v2,rfl,hw1.then hw,(hw1.then hw).below h hA hBw⟩
  have c3:∀ w2 v2,Wr B w w2 v v2 X2->Below B A w2->Calls Tryz.prog 59 #[v2,.map (some p.m),.func (.func 60) #[] #[]] w2 fun e w'=>∃ v3,e=.returned v3/\Wr B w w' v v3 X3/\Below B A w':=fun w2 v2 hw2 hA2=>by
    have:=cC w2 v2 X2 hA2 hw2.own (by rw [hcb];omega)
    refine this.mono ?_
    rintro e w' ⟨v3,rfl,hw⟩
    rw [hcb,hX3] at hw
    exact ⟨v3,rfl,hw2.then hw,(hw2.then hw).below h hA hBw⟩
  have c4:∀ w3 v3,Wr B w w3 v v3 X3->Calls Tryz.prog 35 #[v3,.int .i64 (n:Int)] w3 fun e w'=>∃ v4,e=.returned v4/\Wr B w w' v v4 X4/\Below B A w':=fun w3 v3 hw3=>by
    refine (Ly.number_any w3 B v3 X3 n hw3.own (by omega) (Nat.le_trans hBw hw3.kp.size) (by omega)).mono ?_
    rintro e w' ⟨v4,rfl,hw⟩
    rw [hX4] at hw
    exact ⟨v4,rfl,hw3.then hw,(hw3.then hw).below h hA hBw⟩
  obtain ⟨y0,_,_,_⟩:=hSS.out w hA
  obtain ⟨ja,jc,hjf⟩:=ownsRow_form (hjj.out w hA)
  rw [hn] at hjf hjj
  have hjf':=Lib.hid hjf
  have h':=Lib.hid h
  have hXl:X4.length+(b.notes.flatMap noteF).length<=140737488355328:=by omega
  obtain ⟨ns,hns⟩:∃ x,b.notes=x:=⟨_,rfl⟩
  rw [hns] at hn hnl hjj hXl ⊢
  have hn':=Lib.hid hn
  clear cC hb hO hX1 hX2 hX3 hX4 hcb hall e e1 e2 e3 e4 h hA hjf hm1 hm2 hn hns
  go_enter Tryz.func36,Tryz.ntmps36
  go_wp2_with fail
  go_at_call 35
  refine c1.mono ?_
  rintro e w1 ⟨v1,rfl,h1,hA1⟩
  obtain ⟨_,y1,_,_⟩:=hSS.out w1 hA1
  have c2:=c2 w1 v1 h1
  clear c1 h1 y0 hA1
  go_wp2_with fail
  go_at_call 35
  refine c2.mono ?_
  rintro e w2 ⟨v2,rfl,h2,hA2⟩
  obtain ⟨_,_,y2,_⟩:=hSS.out w2 hA2
  have c3:=c3 w2 v2 h2 hA2
  clear c2 h2 y1 hA2
  go_wp2_with fail
  go_at_call 59
  refine c3.mono ?_
  rintro e w3 ⟨v3,rfl,h3,hA3⟩
  obtain ⟨_,_,_,y3⟩:=hSS.out w3 hA3
  rw [hjf'.out] at y3
  have c4:=c4 w3 v3 h3
  clear c3 h3 y2 hA3
  go_wp2_with fail
  go_at_call 35
  refine c4.mono ?_
  rintro e w4 ⟨v4,rfl,h4,hA4⟩
  obtain ⟨_,_,_,y4⟩:=hSS.out w4 hA4
  rw [hjf'.out] at y4
  have h4':=Lib.hid h4
  have hA4':=Lib.hid hA4
  clear c4 h4 y3 hA4
  go_wp2
  go_loopw [0,37] (fun s0 s37 wr=>∃ k:Nat,s37=.int .i64 (k:Int)/\k<=n/\Hid (Wr B w4 wr v4 s0 (X4++(ns.take k).flatMap noteF)/\Below B A wr)) (fun _ s37 wr=>n - (RowKit.intOf s37).toNat)
  case atStart=>exact ⟨0,rfl,Nat.zero_le _,Lib.hid ⟨by rw [List.take_zero,List.flatMap_nil,List.append_nil];exact Wr.refl h4'.out.own,hA4'.out⟩⟩
  case round =>
    obtain ⟨k,rfl,hk,hW⟩:=hrel
    by_cases hlt2:k < n
    · have hjo:=hjj.out wr hW.out.2
      rw [hjf'.out] at hjo
      obtain ⟨g,x,rfl,hx,d0,d1,d2⟩:=note_at hjo hlt2
      obtain ⟨sx,hsx⟩:∃ sx:ByteArray,(⟨x.name.toArray⟩:ByteArray)=sx:=⟨_,rfl⟩
      unfold sv at d1
      rw [hsx] at d1
      have hxm:=List.mem_of_getElem? hx
      have hxc:=hnl.out x hxm
      obtain ⟨x0,hx0⟩:∃ x0,X4++(ns.take k).flatMap noteF=x0:=⟨_,rfl⟩
      have hxs:X4++(ns.take (k+1)).flatMap noteF=x0++noteF x:=by rw [flat_succ noteF ns k x hx,<-List.append_assoc,hx0]
      have hxl:x0.length+(noteF x).length<=140737488355328:=by
        have:=flat_le noteF ns (k+1)
        have e:=congrArg List.length hxs
        simp only [List.length_append] at e
        omega
      have hnf:(noteF x).length=17+x.name.length:=by unfold noteF text flag;simp [Ly.word_len];omega
      rw [hx0] at hW
      obtain ⟨v0,hv0⟩:∃ v0,u0=v0:=⟨_,rfl⟩
      rw [hv0] at hW
      obtain ⟨wX,hwX⟩:∃ wX,wr.alloc (.cells #[.int .i64 (x.chg:Int),.string sx,.bool x.was] 113)=wX:=⟨_,rfl⟩
      have hbX:Below wr.heap.size wr wX:=by rw [<-hwX];exact (Below.refl _ _).alloc (Nat.le_refl _) _
      have hXc:wX.heap[wr.heap.size]?=some (.cells #[.int .i64 (x.chg:Int),.string sx,.bool x.was] 113 (0,0)):=by rw [<-hwX];exact heap_alloc_new wr _
      have hXs:wr.heap.size < wX.heap.size:=by rw [<-hwX];simp
      have hnot:wr.heap.size∉v0.ownBlock.toList:=fun hm=>by have:=(World.ownsRow.lt hW.out.1.own wr.heap.size (by simpa using hm)).2;omega
      have hcl:Hid (∀ W,Kp v0.ownBlock.toList wX W->W.cell? ⟨wr.heap.size,0,none⟩=some (.int .i64 (x.chg:Int))/\W.cell? ⟨wr.heap.size,1,none⟩=some (.string sx)/\W.cell? ⟨wr.heap.size,2,none⟩=some (.bool x.was)):=Lib.hid fun W hW=>by
        have e:=(hW.block _ hXs hnot).trans hXc
        exact ⟨Lib.cell_of_heap e 0,Lib.cell_of_heap e 1,Lib.cell_of_heap e 2⟩
      have hBX:B<=wX.heap.size:=by have:=hW.out.2.size;omega
      have hWo:=hW.out.1.own.kept hbX
      have sxs:sx.size=x.name.length:=by rw [<-hsx];simp [ByteArray.size]
      have sxd:sx.data.toList=x.name:=by rw [<-hsx]
      have k1:Calls Tryz.prog 35 #[v0,.int .i64 (x.chg:Int)] wX fun e w'=>∃ v1,e=.returned v1/\Wr B wX w' v0 v1 (x0++word x.chg):=Ly.number_any wX B v0 x0 x.chg hWo (by omega) hBX hxc
      have k2:∀ wa va,Wr B wX wa v0 va (x0++word x.chg)->Calls Tryz.prog 58 #[va,.string sx] wa fun e w'=>∃ v1,e=.returned v1/\Wr B wX w' v0 v1 (x0++word x.chg++text x.name):=fun wa va hwa=>by
        refine (Ly.text_any wa B va _ sx hwa.own (by rw [List.length_append,Ly.word_len];omega) (Nat.le_trans hBX hwa.kp.size)).mono ?_
        rintro e w' ⟨v1,rfl,hw⟩
        rw [sxd] at hw
        exact ⟨v1,rfl,hwa.then hw⟩
      have k3:∀ wa va,Wr B wX wa v0 va (x0++word x.chg++text x.name)->Calls Tryz.prog 61 #[va,.bool x.was] wa fun e w'=>∃ v1,e=.returned v1/\Wr B w4 w' v4 v1 (X4++(ns.take (k+1)).flatMap noteF)/\Below B A w':=fun wa va hwa=>by
        refine (Ly.flag_any wa B va _ x.was hwa.own (by simp only [List.length_append,Ly.word_len];unfold text;rw [List.length_append,Ly.word_len];omega) (Nat.le_trans hBX hwa.kp.size)).mono ?_
        rintro e w' ⟨v1,rfl,hw⟩
        have h5:=hW.out.1.then (Wr.after hbX (hwa.then hw))
        have h6:=(Wr.after hbX (hwa.then hw)).below hW.out.1.own hW.out.2 (by have:=hW.out.2.size;omega)
        rw [hxs]
        unfold noteF
        rw [<-List.append_assoc,<-List.append_assoc]
        exact ⟨v1,rfl,h5,h6⟩
      obtain ⟨z0,z1,z2⟩:=hcl.out wX (Kp.refl _ _)
      clear hW hx0 hxl hnf hXc hnot hWo sxs sxd hxs hxc hxm hx hjo hsx
      subst hv0
      go_wp2_with fail
      go_at_call 35
      refine k1.mono ?_
      rintro e wa ⟨va,rfl,ha⟩
      obtain ⟨_,z1,_⟩:=hcl.out wa ha.kp
      have k2:=k2 wa va ha
      clear k1 ha z0
      go_wp2_with fail
      go_at_call 58
      refine k2.mono ?_
      rintro e wb ⟨vb,rfl,hb3⟩
      obtain ⟨_,_,z2⟩:=hcl.out wb hb3.kp
      have k3:=k3 wb vb hb3
      clear k2 hb3 z1
      go_wp2_with fail
      go_at_call 61
      refine k3.mono ?_
      rintro e wc ⟨vc,rfl,hc3⟩
      have hc3':=Lib.hid hc3
      clear k3 hc3
      go_wp2
      go_roundw
      case rel=>exact ⟨k+1,by go_num,by omega,hc3'⟩
      case measure=>simp [RowKit.intOf];omega
    · obtain rfl:k=n:=by omega
      have htk:(ns.take k).flatMap noteF=ns.flatMap noteF:=by rw [List.take_of_length_le (by rw [hn'.out];exact Nat.le_refl _)]
      have hW':=hW.out.1
      rw [htk] at hW'
      have hX:=Lib.hid (h4'.out.then hW')
      clear hW hW' htk
      go_wp2
      go_ret
      exact ⟨_,rfl,hX.out⟩
theorem flat_most {α:Type} {f:α->Row} {c:Nat}:∀ {l:List α},(∀ x∈l,(f x).length<=c)->(l.flatMap f).length<=l.length*c
  | [],_=>by simp
  | x :: r,h=>by
    have h1:=h x (by simp)
    have h2:=flat_most (l:=r) fun y hy=>h y (by simp [hy])
    rw [List.flatMap_cons,List.length_append,List.length_cons,Nat.add_mul]
    omega
theorem bookF_len {chg:Nat} {b:Bk} (hO:BkOk chg b):(bookF b).length<=33554432:=by
  have h1:(b.cards.flatMap fun l=>text l.name++cardF l).length<=b.cards.length*65624:=flat_most fun l hl=>by
    have:=hO.lens l hl
    rw [List.length_append,card_bytes_len]
    unfold text
    rw [List.length_append,Ly.word_len]
    omega
  have h2:(b.notes.flatMap noteF).length<=b.notes.length*81:=flat_most fun x hx=>by
    have:=(hO.notes x hx).2.2
    unfold noteF text flag
    simp [Ly.word_len]
    omega
  have:=hO.most
  have:=hO.few
  have h3:b.cards.length*65624<=256*65624:=Nat.mul_le_mul_right _ (by omega)
  have h4:b.notes.length*81<=64*81:=Nat.mul_le_mul_right _ (by omega)
  unfold bookF
  simp only [List.length_append,Ly.word_len]
  omega
theorem find_of_nodupB {ls:List Bk} (hn:(ls.map (·.name)).Nodup) {l:Bk} (hl:l∈ls):ls.find? (fun x=>decide (x.name=l.name))=some l:=by
  induction ls with
  | nil=>simp at hl
  | cons x r ih =>
    rw [List.map_cons,List.nodup_cons] at hn
    rcases List.mem_cons.1 hl with rfl | hl
    · simp
    · have hx:x.name≠l.name:=fun e=>hn.1 (by rw [e];exact List.mem_map_of_mem hl)
      rw [List.find?_cons_of_neg (by simpa using hx)]
      exact ih hn.2 hl
theorem bkAt_mem {s:Sh} (hn:(s.books.map (·.name)).Nodup) {b:Bk} (hb:b∈s.books):bkAt s b.name=some b:=find_of_nodupB hn hb
theorem books_bytes {s:Sh} (hO:ShOk s):(s.books.map (·.name)).flatMap (fun r=>text r++((bkAt s r).map bookF).getD [])=s.books.flatMap fun b=>text b.name++bookF b:=by
  rw [List.flatMap_map]
  refine congrArg List.flatten (List.map_congr_left fun b hb=>?_)
  rw [bkAt_mem hO.rise.nodup hb]
  rfl
theorem books_len {s:Sh} (hO:ShOk s):(s.books.flatMap fun b=>text b.name++bookF b).length<=1073741824:=by
  have h1:(s.books.flatMap fun b=>text b.name++bookF b).length<=s.books.length*33554504:=flat_most fun b hb=>by
    have h2:=hO.books b hb
    have:=bookF_len h2.2
    unfold text
    simp only [List.length_append,Ly.word_len]
    omega
  have:=hO.most
  have h3:s.books.length*33554504<=16*33554504:=Nat.mul_le_mul_right _ (by omega)
  omega
theorem form_any (w:World) (sb bm:Nat) (L:Bks) (s:Sh) (h:ShIs w sb bm L s.chg) (hL:L.map Prod.fst=s.books) (hO:ShOk s) (hchg:s.chg<=4611686018427387904) :
    Calls Tryz.prog 16 #[pv sb] w fun e w'=>∃ v,e=.returned v/\BOwn w.heap.size v (shelfF s) w'/\Below w.heap.size w w':=by
  have hlts:=h.lt sb (by simp [fpS])
  have hbb:=books_bytes hO
  have hbl:=books_len hO
  have hnl:(s.books.map (·.name)).length=s.books.length:=List.length_map ..
  have hm:=hO.most
  have hSS:Hid (∀ W,Below w.heap.size w W->Below w.heap.size w W/\W.cell? ⟨sb,0,none⟩=some (.int .i64 (s.chg:Int))/\W.cell? ⟨sb,1,none⟩=some (.map (some bm))):=Lib.hid fun W hW=>by
    obtain ⟨x0,x1,_⟩:=sh2 h.blk (hW.block sb hlts)
    exact ⟨hW,x0,x1⟩
  have cN:∀ W,Below w.heap.size w W->Calls Tryz.prog 35 #[.slice none 0 0,.int .i64 (s.chg:Int)] W fun e w'=>∃ v1,e=.returned v1/\(BOwn w.heap.size v1 (word s.chg) w'/\Below w.heap.size w w')/\Below w.heap.size w w':=fun W hW=>by
    refine (Ly.number_any W w.heap.size _ [] s.chg (BOwn.nil _ _) (by simp) hW.size hchg).mono ?_
    rintro e w' ⟨v1,rfl,hw⟩
    have:=hw.below (BOwn.nil _ _) hW hW.size
    exact ⟨v1,rfl,⟨hw.own,this⟩,this⟩
  have cP : ∀ W v1,BOwn w.heap.size v1 (word s.chg) W/\Below w.heap.size w W->Calls Tryz.prog 34 #[v1,.map (some bm),.func (.func 36) #[] #[]] W fun e w'=>∃ v,e=.returned v/\(BOwn w.heap.size v (shelfF s) w'/\Below w.heap.size w w')/\Below w.heap.size w w':=fun W v1 hW=>by
    have:=putNamedB_any w W bm (bM L) (s.books.map (·.name)) (fun r=>((bkAt s r).map bookF).getD []) v1 (word s.chg) hW.2 h.map (by
      have e:(bM L).map Prod.fst=s.books.map (·.name):=by rw [<-hL];unfold bM;rw [List.map_map,List.map_map];rfl
      rw [e]) hO.rise hW.1 (fun r hr=>by
      obtain ⟨x,hx,rfl⟩:=List.mem_map.1 hr
      have:=(hO.books x hx).1
      omega) (by rw [hbb,Ly.word_len];omega) (by omega) (fun W2 v2 l2 r hr hW2 ho2 hl2=>by
      obtain ⟨x,hx,rfl⟩:=List.mem_map.1 hr
      rw [<-hL] at hx
      obtain ⟨y,hy,rfl⟩:=List.mem_map.1 hx
      have hys:y.1∈s.books:=by rw [<-hL];exact List.mem_map.2 ⟨_,hy,rfl⟩
      have hbk:=bkAt_mem hO.rise.nodup hys
      have hat2:atL L y.1.name=some y:=by
        cases hq:atL L y.1.name with
        | none=>rw [atL_bk hL,hq] at hbk;cases hbk
        | some z =>
          obtain ⟨hz1,hz2⟩:=atL_some hq
          rw [inj_name h.names hz1 hy hz2]
      have hlk:(lookM (bM L) y.1.name).getD (.pointer none)=pv y.2.c:=by rw [atL_look,hat2];rfl
      rw [hlk]
      have hg:((bkAt s y.1.name).map bookF).getD []=bookF y.1:=by rw [hbk];rfl
      rw [hg] at hl2 ⊢
      exact putBook_any w W2 y.1 y.2 s.chg v2 l2 hW2 (h.bks _ hy) (hO.books _ hys).2 hchg ho2 hl2)
    rw [hbb,hnl] at this
    refine this.mono ?_
    rintro e w' ⟨v,rfl,hw⟩
    have hb:=hw.below hW.1 hW.2 hW.2.size
    exact ⟨v,rfl,⟨hw.own,hb⟩,hb⟩
  clear h hL hO hbb hbl hnl hm hchg
  go_enter Tryz.func16,Tryz.ntmps16
  go_wp2_with fail
  go_region_held3 (fun W=>Below w.heap.size w W/\W.cell? ⟨sb,0,none⟩=some (.int .i64 (s.chg:Int))/\W.cell? ⟨sb,1,none⟩=some (.map (some bm)))
    (refine hSS.out _ ?_<;>first | assumption | exact Below.drew (Below.refl _ _))
    (first
      | (go_at_call 35;refine (cN _ (Below.drew (Below.refl _ _))).mono ?_;rintro e w1 ⟨v1,rfl,h1,hb1⟩)
      | (go_at_call 34;refine (cP _ _ h1).mono ?_;rintro e w2 ⟨v2,rfl,h2,hb2⟩))
  all_goals
    have h2':=Lib.hid h2
    clear h2 hb2 h1 hb1 cN cP
    go_wp2
    go_ret
    exact ⟨_,rfl,h2'.out⟩
open Ly (word text flag Rd rp)
theorem getName_any (w0 w:World) (rb db:Nat) (t l:Row) (hG:Grd w0 w) (hrb:w0.heap.size<=rb) (h:Rd w rb db (text t++l)) (hl:t.length+l.length<=140737488355328) (hf:Pa.fits t=true) :
    Calls Tryz.prog 53 #[rp rb] w fun e w'=>e=.returned (.string ⟨t.toArray⟩)/\Rd w' rb db l/\Kp [rb] w w':=by
  have cT:=Ly.readText_any w rb db t l h hl
  have cS:=fun W (hW:Grd w0 W)=>(Pa.segment_any ⟨t.toArray⟩ W (by show t.toArray.size<=140737488355328;simp;omega) hW.t).mono (fun e w' hP=>(show (∃ x:ByteArray,e=.returned (.tuple #[.string x,.int .i64 0]))/\Below W.heap.size W w' from ⟨(by
      rcases hP.1 with ⟨h,_⟩ | ⟨_,x,_,h⟩
      · rw [show (⟨t.toArray⟩:ByteArray).data.toList=t by simp,hf] at h;cases h
      · exact ⟨x,h⟩),hP.2⟩))
  have hF:∀ k∈[rb],w0.heap.size<=k:=fun k hk=>by simp at hk;omega
  obtain ⟨st,hst⟩:∃ st:ByteArray,(⟨t.toArray⟩:ByteArray)=st:=⟨_,rfl⟩
  rw [hst] at cT cS ⊢
  go_enter Tryz.func53,Tryz.ntmps53
  go_wp2_with fail
  go_at_call 77
  refine cT.mono ?_
  rintro e w1 ⟨rfl,hR,hK⟩
  have cS1:=cS w1 (hG.kp hK hF)
  have hR':=Lib.hid hR
  have hK':=Lib.hid hK
  clear cT h hR hK cS
  go_wp2_with fail
  go_at_call 37
  refine cS1.mono ?_
  rintro e w2 ⟨⟨y,rfl⟩,hb2⟩
  have cN:=Ly.need_any w2 rb db l (Ly.Rd.below hR'.out hb2)
  have hK2:=Lib.hid (hK'.out.belowThen hb2)
  clear cS1 hb2
  go_wp2_with fail
  go_at_call 52
  refine cN.mono ?_
  rintro e w3 ⟨rfl,hR3,hK3⟩
  have hX:=Lib.hid (And.intro hR3 (hK2.out.trans hK3))
  clear cN hR3 hK3
  go_wp2
  go_ret
  exact ⟨rfl,hX.out⟩
theorem kept_ret {fn:Func} {p:Tmp} (h:fn.results=#[.cell p 105]) (tmps:Array Value) (W:World) (g:Nat) (x:Int) (y:ByteArray) (hp:tmps.getD p undef=.pointer (some ⟨g,0,none⟩))
    (hg:W.heap[g]?=some (.cells #[.int .i64 x,.string y] 105 (0,0))):(results fn tmps).run Tryz.prog W=.ok (.agg #[.int .i64 x,.string y]) W :=
  results_cell_row h tmps W g _ _ _ _ hp hg Tryz.underlying105 rfl (by kernel_rfl)
theorem getCard_any (w0 w:World) (rb db:Nat) (tg:Nat) (t l:Row) (lo hi:Int) (hG:Grd w0 w) (hrb:w0.heap.size<=rb) (h:Rd w rb db (word tg++(text t++l))) (hl:t.length+l.length<=1099511627776) (ht:tg<=4611686018427387904) (h1:lo<=tg) (h2:(tg:Int)<=hi) (hn:normE t=.ok t) :
    Calls Tryz.prog 56 #[rp rb,.int .i64 lo,.int .i64 hi] w fun e w'=>e=.returned (.agg #[.int .i64 (tg:Int),.string ⟨t.toArray⟩])/\Rd w' rb db l/\Kp [rb] w w':=by
  have hnc:normC t=0/\normT t=t:=by
    unfold normE at hn
    by_cases h11:normC t=11
    · rw [if_pos h11] at hn;cases hn
    · rw [if_neg h11] at hn
      by_cases h0:normC t≠0
      · rw [if_pos h0] at hn;cases hn
      · rw [if_neg h0] at hn
        injection hn with hn
        exact ⟨by omega,hn⟩
  obtain ⟨wB,hwB⟩:∃ wB,w.alloc (.cells #[.int .i64 0,.string ⟨#[]⟩] 105)=wB:=⟨_,rfl⟩
  have hbB:Below w.heap.size w wB:=by rw [<-hwB];exact (Below.refl _ _).alloc (Nat.le_refl _) _
  have hBs:w.heap.size < wB.heap.size:=by rw [<-hwB];simp
  have hBc:wB.heap[w.heap.size]?=some (.cells #[.int .i64 0,.string ⟨#[]⟩] 105 (0,0)):=by rw [<-hwB];exact heap_alloc_new w _
  have hrl:=h.rlt
  have hdl:=h.lt
  have cN:=Ly.readNumber_any wB rb db tg lo hi (text t++l) (Ly.Rd.below h hbB) ht h1 h2
  have hF:∀ k∈[rb],w0.heap.size<=k:=fun k hk=>by simp at hk;omega
  obtain ⟨st,hst⟩:∃ st:ByteArray,(⟨t.toArray⟩:ByteArray)=st:=⟨_,rfl⟩
  have hsd:st.data.toList=t:=by rw [<-hst]
  have hss:st.size<=1099511627776:=by rw [Lib.size_eq,hsd];omega
  have cT:∀ W,Rd W rb db (text t++l)->Calls Tryz.prog 77 #[rp rb] W fun e w'=>e=.returned (.string st)/\Rd w' rb db l/\Kp [rb] W w':=fun W hW=>by rw [<-hst];exact Ly.readText_any W rb db t l hW (by omega)
  have cC:∀ W,Grd w0 W->Calls Tryz.prog 66 #[.string st] W fun e w'=>e=.returned (.tuple #[.string st,.int .i64 0])/\Below W.heap.size W w':=fun W hW=>by
    refine (canonical_any st W hss hW.t).mono ?_
    rintro e w' ⟨⟨x,hx,rfl⟩,hb⟩
    rw [hsd,hnc.2] at hx
    have hxs:x=st:=by rw [<-Lib.mk_data x,<-Lib.mk_data st,hx,hsd]
    rw [hsd,hnc.1,hxs]
    exact ⟨rfl,hb⟩
  rw [hst]
  clear h hn hnc hst
  go_enter Tryz.func56,Tryz.ntmps56
  go_wp2_with fail
  go_at_call 29
  refine cN.mono ?_
  rintro e w1 ⟨rfl,hR1,hK1⟩
  have cT1:=cT w1 hR1
  have hK1':=Lib.hid hK1
  clear cN cT hR1 hK1
  go_wp2_with fail
  go_at_call 77
  refine cT1.mono ?_
  rintro e w2 ⟨rfl,hR2,hK2⟩
  obtain ⟨wX,hwX⟩:∃ wX,w2.alloc (.cells #[.int .i64 (tg:Int),.string st] 105)=wX:=⟨_,rfl⟩
  have hbX:Below w2.heap.size w2 wX:=by rw [<-hwX];exact (Below.refl _ _).alloc (Nat.le_refl _) _
  have hXs:w2.heap.size < wX.heap.size:=by rw [<-hwX];simp
  have hXc:wX.heap[w2.heap.size]?=some (.cells #[.int .i64 (tg:Int),.string st] 105 (0,0)):=by rw [<-hwX];exact heap_alloc_new w2 _
  have hK2':=Lib.hid ((hK1'.out.trans hK2).belowThen hbX)
  have hG2:Grd w0 wX:=(hG.below hbB).kp hK2'.out hF
  have hR2':=Lib.hid (Ly.Rd.below hR2 hbX)
  have cC2:=cC wX hG2
  have z1:=Lib.cell_of_heap hXc 1
  have hr2:rb≠w2.heap.size:=by have:=hR2.rlt;omega
  clear cC cT1 hR2 hK2
  go_wp2_with fail
  go_at_call 66
  refine cC2.mono ?_
  rintro e w3 ⟨rfl,hb3⟩
  have hX3:=(hb3.block _ hXs).trans hXc
  have z3:=Lib.cell_of_heap hX3 1
  have cN3:=Ly.need_any w3 rb db l (Ly.Rd.below hR2'.out hb3)
  have hK3':=Lib.hid (hK2'.out.belowThen hb3)
  have hs3:=hb3.size
  clear cC2 hb3 z1
  go_wp2_with fail
  go_at_call 52
  refine cN3.mono ?_
  rintro e w4 ⟨rfl,hR4,hK4⟩
  have hX4:=(hK4.block _ (by omega) (by simp;omega)).trans hX3
  have u0:=Lib.cell_of_heap hX4 0
  have u1:=Lib.cell_of_heap hX4 1
  have hK5:=hK3'.out.trans hK4
  have hB4:=(hK5.block _ hBs (by simp;omega)).trans hBc
  have f0:=Lib.frozen_of_heap hB4 0
  have f1:=Lib.frozen_of_heap hB4 1
  have b0:=Lib.cell_of_heap hB4 0
  have b1:=Lib.cell_of_heap hB4 1
  have hfin:∀ wz,(w4.setCell ⟨w.heap.size,0,none⟩ (.int .i64 (tg:Int))).setCell ⟨w.heap.size,1,none⟩ (.string st)=wz->wz.heap[w.heap.size]?=some (.cells #[.int .i64 (tg:Int),.string st] 105 (0,0))/\Rd wz rb db l/\Kp [rb] w wz:=fun wz hz=>by
    have hk:∀ k,k≠w.heap.size->wz.heap[k]?=w4.heap[k]?:=fun k hk=>by rw [<-hz,Below.heap_setCell _ _ _ k hk,Below.heap_setCell _ _ _ k hk]
    have hKz:Kp [rb] w wz:=by rw [<-hz];exact ((((Kp.of_below hbB).trans hK5).setCell (.inr (Nat.le_refl _)) _).setCell (.inr (Nat.le_refl _)) _)
    refine ⟨by rw [<-hz];exact Ly.set_heap (Ly.set_heap hB4 0 _) 1 _,hR4.kept (hk rb (by omega)) (hk db (by omega)) (by rw [<-hz];simp [World.setCell]),hKz⟩
  have hfin':=Lib.hid hfin
  clear hK5 hK4 hR4 cN3 hfin
  go_wp2
  obtain ⟨r1,r2⟩:=hfin'.out _ rfl
  exact bodyPost_ret (kept_ret rfl _ _ _ _ _ rfl r1) rfl ⟨rfl,r2⟩
end Go.Proofs.YtobfaibofhmpgaaGreatDoor.Bo
