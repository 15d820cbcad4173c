import Derived.Test.YtobfaibofhmpgaaGreatDoorAp8
import Derived.Test.YtobfaibofhmpgaaGreatDoorAp25
import Derived.Deep.RegionHeld3
import Derived.Deep.AppendLies
import Derived.SizedLaws
import Derived.Lib.SlTrimSet
import Derived.Lib.AppendIntMem
set_option linter.unusedVariables false
set_option maxHeartbeats 8000000
set_option maxRecDepth 100000
namespace Go.Proofs.YtobfaibofhmpgaaGreatDoor
namespace Bo
open Go.Lib Go.RowKit
theorem infoN:(Tryz.prog.info? 113).map (fun i=>(i.zero,i.size,i.bytes))=some (some (.agg #[.int .i64 0,.string ⟨#[]⟩,.bool false]),3,32):=by kernel_rfl
theorem info_parts' {t:TypeId} {z:Value} {n m:Nat} (h:(Tryz.prog.info? t).map (fun i=>(i.zero,i.size,i.bytes))=some (some z,n,m)):∃ i0,Tryz.prog.info? t=some i0/\i0.zero=some z/\i0.size=n/\i0.bytes=m:=by
  obtain ⟨i,h1,h2⟩:=Option.map_eq_some_iff.1 h
  simp only [Prod.mk.injEq] at h2
  exact ⟨i,h1,h2.1,h2.2.1,h2.2.2⟩
theorem Turned.then {w w1 w2:World} {p p1:Pl} {b1 b2:Bk} (hB:BkIs w1 b1 p1) (hc:p1.c=p.c) (hm:p1.m=p.m) (hf:∀ k∈p1.fp,k∈p.fp\/w.heap.size<=k) (hK:Kp (p.c :: p.j.ownBlock.toList) w w1) (hj:∀ k,p1.j.ownBlock=some k->p.j.ownBlock=some k\/w.heap.size<=k) (h:Turned w1 w2 p1 b2):Turned w w2 p b2:=by
  obtain ⟨p2,h1,h2,h3,h4,h5,h6⟩:=h
  refine ⟨p2,h1,h2.trans hc,h3.trans hm,fun k hk=>?_,h5,hK.then h6 fun x hx=>?_⟩
  · rcases h4 k hk with h | h
    · exact hf k h
    · exact .inr (Nat.le_trans hK.size h)
  · rcases List.mem_cons.1 hx with rfl | hx
    · exact .inl (by rw [hc];simp)
    · rcases hj x (by simpa using hx) with h | h
      · exact .inl (by simp [h])
      · exact .inr h
theorem note_any (w:World) (b:Bk) (p:Pl) (c:Nat) (s:ByteArray) (was:Bool) (h:BkIs w b p) (hd:p.fp.Nodup) (hl:b.notes.length<=64) (hh:∀ n∈b.notes,b.hor < n.chg) (hhc:b.hor < c) :
    Calls Tryz.prog 67 #[pv p.c,.agg #[.int .i64 (c:Int),.string s,.bool was]] w fun e w'=>e=.returned (.tuple #[])/\Turned w w' p (noteB b ⟨c,s.data.toList,was⟩):=by
  obtain ⟨d1,d2,d3⟩:=fp_nodup hd
  have hlt:p.c < w.heap.size:=h.lt p.c (by simp [Pl.fp])
  obtain ⟨wB,hwB⟩:∃ wB,w.alloc (.cells #[.int .i64 (c:Int),.string s,.bool was] 113)=wB:=⟨_,rfl⟩
  have hB0:Below w.heap.size w wB:=by rw [<-hwB];exact (Below.refl _ _).alloc (Nat.le_refl _) _
  have hxb:wB.heap[w.heap.size]?=some (.cells #[.int .i64 (c:Int),.string s,.bool was] 113 (0,0)):=by rw [<-hwB];exact heap_alloc_new w _
  have hsB:wB.heap.size=w.heap.size+1:=by rw [<-hwB];simp
  have hFlt:∀ k∈p.j.ownBlock.toList,k < w.heap.size:=fun k hk=>(h.jou.lt k (by simpa using hk)).2
  have hSS:∀ W,Kp p.j.ownBlock.toList wB W->Kp p.j.ownBlock.toList wB W/\W.cell? ⟨p.c,3,none⟩=some p.j/\W.cell? ⟨w.heap.size,0,none⟩=some (.int .i64 (c:Int))/\W.cell? ⟨w.heap.size,1,none⟩=some (.string s)/\W.cell? ⟨w.heap.size,2,none⟩=some (.bool was):=fun W hW=>by
    have hk:=(hW.block p.c (by omega) (by cases ho':p.j.ownBlock<;>simp;intro e;rw [e] at d2;exact d2 ho')).trans ((hB0.block p.c hlt).trans h.blk)
    have hx:=(hW.block w.heap.size (by omega) (fun hm=>by have:=hFlt _ hm;omega)).trans hxb
    exact ⟨hW,Lib.cell_of_heap hk 3,Lib.cell_of_heap hx 0,Lib.cell_of_heap hx 1,Lib.cell_of_heap hx 2⟩
  have hjW:∀ W,Below wB.heap.size wB W->W.ownsRow 0 113 3 p.j b.notes.length (nc b.notes):=fun W hW=>ownsRow_heap h.jou fun g hg=>(hW.block g (by have:=hFlt g (by simpa using hg);omega)).trans (hB0.block g (h.jou.lt g hg).2)
  have hSS':=Lib.hid hSS
  have hjW':=Lib.hid hjW
  have hfB:∀ W,Kp p.j.ownBlock.toList wB W->W.frozen? ⟨p.c,3,none⟩=false:=fun W hW=>by
    have hk:=(hW.block p.c (by omega) (by cases ho':p.j.ownBlock<;>simp;intro e;rw [e] at d2;exact d2 ho')).trans ((hB0.block p.c hlt).trans h.blk)
    exact Lib.frozen_of_heap hk 3
  go_enter Tryz.func67,Tryz.ntmps67
  go_wp2_with fail
  -- behind the store
  have hT:∀ (g5 cap5:Nat) (w5:World),w5.ownsRow 0 113 3 (.slice (some ⟨g5,0,none⟩) (b.notes.length+1) cap5) (b.notes.length+1) (nc b.notes++[.int .i64 (c:Int),.string s,.bool was])->Kp p.j.ownBlock.toList wB w5->(p.j.ownBlock=some g5\/g5=wB.heap.size+1)->
      ∃ p6:Pl,p6=⟨p.c,p.m,.slice (some ⟨g5,0,none⟩) (b.notes.length+1) cap5⟩/\BkIs (w5.setCell ⟨p.c,3,none⟩ (.slice (some ⟨g5,0,none⟩) (b.notes.length+1) cap5)) { b with notes:=b.notes++[⟨c,s.data.toList,was⟩] } p6/\p6.fp.Nodup/\(∀ k∈p6.fp,k∈p.fp\/w.heap.size<=k)/\(∀ k,p6.j.ownBlock=some k->p.j.ownBlock=some k\/w.heap.size<=k)/\
        Kp (p.c :: p.j.ownBlock.toList) w (w5.setCell ⟨p.c,3,none⟩ (.slice (some ⟨g5,0,none⟩) (b.notes.length+1) cap5)):=fun g5 cap5 w5 ho hK hat=>by
    have hg5:g5≠p.c/\g5≠p.m:=by
      have hml:=h.map.lt
      rcases hat with h1 | h1
      · exact ⟨fun e=>d2 (by rw [<-e];exact h1),fun e=>d3 (by rw [<-e];exact h1)⟩
      · exact ⟨by omega,by omega⟩
    have hob:(Value.slice (some ⟨g5,0,none⟩) (b.notes.length+1) cap5).ownBlock=some g5:=rfl
    have hkc:=(hK.block p.c (by omega) (by cases ho':p.j.ownBlock<;>simp;intro e;rw [e] at d2;exact d2 ho')).trans ((hB0.block p.c hlt).trans h.blk)
    have hkm:=(hK.block p.m (by have:=h.map.lt;omega) (by cases ho':p.j.ownBlock<;>simp;intro e;rw [e] at d3;exact d3 ho')).trans (hB0.block p.m h.map.lt)
    refine ⟨_,rfl,⟨set_heap hkc 3 _,h.map.block ?_,?_⟩,?_,fun k hk=>?_,fun k hk=>?_,?_⟩
    · rw [Below.heap_setCell _ _ _ _ (by show p.m≠p.c;exact fun e=>d1 e.symm)]
      exact hkm
    · have e:nc (b.notes++[⟨c,s.data.toList,was⟩])=nc b.notes++[.int .i64 (c:Int),.string s,.bool was]:=by rw [nc_app];unfold nc nc;rw [sv_data]
      show World.ownsRow _ 0 _ 3 _ (b.notes++[_]).length _
      rw [e,List.length_append]
      exact ownsRow_heap ho fun g hg=>Below.heap_setCell _ _ _ _ (by show g≠p.c;rw [hob] at hg;cases hg;exact hg5.1)
    · unfold Pl.fp
      rw [hob]
      simp only [Option.toList_some,List.nodup_cons,List.mem_cons,List.not_mem_nil,or_false,not_or,not_false_eq_true,List.nodup_nil,and_true]
      exact ⟨⟨d1,fun e=>hg5.1 e.symm⟩,fun e=>hg5.2 e.symm⟩
    · unfold Pl.fp at hk ⊢
      rw [hob] at hk
      simp only [Option.toList_some,List.mem_cons,List.not_mem_nil,or_false] at hk
      rcases hk with rfl | rfl | rfl
      · exact .inl (by simp)
      · exact .inl (by simp)
      · rcases hat with h1 | h1
        · exact .inl (by simp [h1])
        · exact .inr (by omega)
    · rw [hob] at hk
      cases hk
      rcases hat with h1 | h1
      · exact .inl h1
      · exact .inr (by omega)
    · exact ((Kp.of_below hB0).trans (hK.mono fun x hx=>List.mem_cons_of_mem _ hx)).setCell (.inl (by simp)) _
  have hT':=Lib.hid hT
  clear hT
  obtain ⟨i0,hi,hz0,hz1,hz2⟩:=info_parts' infoN
  have hone:∀ u∈([.int .i64 (c:Int),.string s,.bool was]:List Value),u.oneCell'=true:=fun u hu=>by
    simp at hu
    rcases hu with rfl | rfl | rfl<;>rfl
  have hdrew:Kp p.j.ownBlock.toList wB wB.drew:=⟨rfl,rfl,rfl,Nat.le_refl _,fun _ _ _=>rfl⟩
  have hk1:b.notes.length+1<=maxLen:=by unfold maxLen;omega
  have hk2:(b.notes.length+1)*32<=140737488355328:=by omega
  obtain ⟨_,y3,y4,y5,y6⟩:=hSS wB (Kp.refl _ _)
  have hda:Kp p.j.ownBlock.toList wB (wB.drew.alloc (.cells #[.int .i64 (c:Int),.string s,.bool was] 113)):=hdrew.belowThen ((Below.refl _ _).alloc (Nat.le_refl _) _)
  obtain ⟨_,z3,z4,z5,z6⟩:=hSS _ hda
  have hfz:=hfB _ hda
  have hda':=Lib.hid hda
  have hfB':=Lib.hid hfB
  have hhere:Hid (wB.drew.ownsRow 0 113 3 p.j b.notes.length (nc b.notes)):=Lib.hid (hjW'.out wB.drew ⟨rfl,rfl,rfl,Nat.le_refl _,fun _ _=>rfl⟩)
  clear hSS hjW hfB hda hdrew
  go_region_law (first
      | ((refine step_append_lies _ (by rfl) _ _ _ (by rfl) 0 113 i0 (.agg #[.int .i64 0,.string ⟨#[]⟩,.bool false]) 3 32 Tryz.underlying90 hi hz0 hz1 hz2 rfl (by decide) p.j b.notes.length (nc b.notes) (by rfl) (World.ownsRow.alloc hhere.out _) ⟨w.heap.size+1,0,none⟩ 1 1 [.int .i64 (c:Int),.string s,.bool was] (by rfl) (by rfl) (World.news_of_block (by rw [<-hsB];exact heap_alloc_new wB.drew _)) hone (by omega) hk1 hk2 (Nat.zero_le _) (wB.heap.size+1) (by simp) ?_);intro g5 cap5 w5 ho5 hg5 hat5 hlt5
         have hk5:=hda'.out.grown hg5 (fun k hk=>.inl (by simp [hk]))
         obtain ⟨_,v3,v4,v5,v6⟩:=hSS'.out w5 hk5
         have hf5:=hfB'.out w5 hk5))
  all_goals
    obtain ⟨p6,e6,hB6,hd6,hf6,hj6,hK6⟩:=hT'.out g5 cap5 w5 ho5 hk5 hat5
    have hc6:p6.c=p.c:=by rw [e6]
    have hm6:p6.m=p.m:=by rw [e6]
    have hjv:p6.j=.slice (some ⟨g5,0,none⟩) (b.notes.length+1) cap5:=by rw [e6]
    obtain ⟨w6,hw6⟩:∃ w6,w5.setCell ⟨p.c,3,none⟩ (.slice (some ⟨g5,0,none⟩) (b.notes.length+1) cap5)=w6:=⟨_,rfl⟩
    rw [hw6] at hB6 hK6 ⊢
    obtain ⟨_,_,_,r3,_⟩:=col4 hB6 (W:=w6) rfl
    rw [hc6,hjv] at r3
    by_cases h64:b.notes.length < 64
    · have hfin:=Lib.hid (show Turned w w6 p (noteB b ⟨c,s.data.toList,was⟩) from by
        unfold noteB
        rw [if_pos h64]
        exact ⟨p6,hB6,hc6,hm6,hf6,hd6,hK6⟩)
      have hn64:¬ (64:Int) < (b.notes.length:Int)+1:=by omega
      clear hT' hSS' hjW' hhere hda' hfB' ho5 hg5 hat5 hlt5 hk5 v3 v4 v5 v6 hf5 y3 y4 y5 y6 z3 z4 z5 z6 hfz hw6 hB6 hK6 hd6 hf6 hj6 hxb hsB hwB
      go_wp2
      go_end0
      exact ⟨rfl,hfin.out⟩
    · have hn64:(64:Int) < (b.notes.length:Int)+1:=by omega
      obtain ⟨n0,r,hns⟩:∃ n0 r,b.notes=n0 :: r:=by
        cases hb:b.notes with
        | nil=>rw [hb] at h64;simp at h64
        | cons n0 r=>exact ⟨n0,r,rfl⟩
      have hg0:w6.cell? ⟨g5,0,none⟩=some (.int .i64 (n0.chg:Int)):=by
        have q:=hB6.jou
        rw [hjv,show ({ b with notes:=b.notes++[(⟨c,s.data.toList,was⟩:Note)] }:Bk).notes.length=b.notes.length+1 from by simp] at q
        rw [q.cellAt 0 (by omega)]
        show (nc (b.notes++_))[0]?=_
        rw [hns];rfl
      have cR:=raise_any w6 _ p6 n0.chg hB6 hd6 (by simp;omega)
      rw [hc6] at cR
      have hfin:=Lib.hid (show ∀ w7,Turned w6 w7 p6 { b with hor:=n0.chg,notes:=(b.notes++[(⟨c,s.data.toList,was⟩:Note)]).filter fun n=>decide (n0.chg < n.chg) }->Turned w w7 p (noteB b ⟨c,s.data.toList,was⟩) from fun w7 h7=>by
        have h8:=Turned.then hB6 hc6 hm6 hf6 hK6 hj6 h7
        have hm0:max b.hor n0.chg=n0.chg:=by have:=hh n0 (by rw [hns];simp);omega
        have e:noteB b ⟨c,s.data.toList,was⟩={ b with hor:=n0.chg,notes:=(b.notes++[(⟨c,s.data.toList,was⟩:Note)]).filter fun n=>decide (n0.chg < n.chg) }:=by
          unfold noteB
          rw [if_neg h64]
          unfold trimB
          have e0:(((b.notes++[(⟨c,s.data.toList,was⟩:Note)]).head?.map (·.chg)).getD 0)=n0.chg:=by rw [hns];rfl
          rw [e0]
          show ({ name:=b.name,made:=b.made,hor:=max b.hor n0.chg,cards:=b.cards,notes:=(b.notes++[(⟨c,s.data.toList,was⟩:Note)]).filter fun n=>decide (max b.hor n0.chg < n.chg) }:Bk)=_
          rw [hm0]
        rw [e]
        exact h8)
      have hr0:(0:Int) < (b.notes.length:Int)+1:=by omega
      clear hT' hSS' hjW' hhere hda' hfB' ho5 hg5 hat5 hlt5 hk5 v3 v4 v5 v6 hf5 y3 y4 y5 y6 z3 z4 z5 z6 hfz hw6 hB6 hK6 hd6 hf6 hj6 hxb hsB hwB hns
      go_wp2_with fail
      go_at_call 71
      refine cR.mono ?_
      rintro e w7 ⟨rfl,h7⟩
      have hf7:=Lib.hid (hfin.out w7 h7)
      clear cR hfin h7
      go_wp2
      go_end0
      exact ⟨rfl,hf7.out⟩
end Bo
namespace Pa
abbrev Row:=List UInt8
def bare (c:UInt8):Bool:=decide (97<=c.toNat/\c.toNat<=122\/65<=c.toNat/\c.toNat<=90\/48<=c.toNat/\c.toNat<=57\/c=45\/c=46\/c=95\/c=126)
def hexv (c:UInt8):Nat :=
  if 48<=c.toNat/\c.toNat<=57 then c.toNat - 48 else if 65<=c.toNat/\c.toNat<=70 then c.toNat - 65+10 else if 97<=c.toNat/\c.toNat<=102 then c.toNat - 97+10 else 16
def hexU:Row:=[48,49,50,51,52,53,54,55,56,57,65,66,67,68,69,70]
def escH (h:Row) (c:UInt8):Row:=[37,h.getD (c.toNat / 16) 0,h.getD (c.toNat % 16) 0]
def escB (c:UInt8):Row:=if bare c=true then [c] else escH hexU c
def seg (t:Row):Row:=t.flatMap escB
def fits (t:Row):Bool:=Ch.valid t && (decide (0 < t.length/\t.length < 65) && decide (t≠[46]/\t≠[46,46]))
def rdS:Row->Option Row
  | []=>some []
  | [c]=>if bare c=true then some [c] else none
  | [c,d]=>if bare c=true/\bare d=true then some [c,d] else none
  | c :: d :: e :: t=>if c=37 then (if hexv d < 16/\hexv e < 16 then (rdS t).map (UInt8.ofNat (16*hexv d+hexv e) :: ·) else none) else if bare c=true then (rdS (d :: e :: t)).map (c :: ·) else none
theorem rdS_esc (d e:UInt8) (t:Row) (h:hexv d < 16) (h':hexv e < 16):rdS (37 :: d :: e :: t)=(rdS t).map (UInt8.ofNat (16*hexv d+hexv e) :: ·):=by
  rw [rdS,if_pos rfl,if_pos ⟨h,h'⟩]
theorem rdS_escH (h:Row) (hh:∀ n:Fin 16,hexv (h.getD n.val 0)=n.val) (c:UInt8) (t:Row):rdS (escH h c++t)=(rdS t).map (c :: ·):=by
  have h1:=hh ⟨c.toNat / 16,by have:=c.toNat_lt;omega⟩
  have h2:=hh ⟨c.toNat % 16,by omega⟩
  simp only at h1 h2
  show rdS (37 :: _ :: _ :: t)=_
  rw [rdS_esc _ _ _ (by rw [h1];have:=c.toNat_lt;omega) (by rw [h2];omega),h1,h2]
  rw [show UInt8.ofNat (16*(c.toNat / 16)+c.toNat % 16)=c by rw [show 16*(c.toNat / 16)+c.toNat % 16=c.toNat by omega];exact UInt8.ofNat_toNat]
def escA (h:Row) (t:Row):Row:=t.flatMap (escH h)
theorem rdS_escA (h:Row) (hh:∀ n:Fin 16,hexv (h.getD n.val 0)=n.val):∀ (t:Row),rdS (escA h t)=some t
  | []=>rfl
  | c :: t=>by
    have e:escA h (c :: t)=escH h c++escA h t:=by simp [escA]
    rw [e,rdS_escH h hh,rdS_escA h hh t];rfl
theorem seg_len:∀ (t:Row),(seg t).length<=3*t.length
  | []=>by simp [seg]
  | c :: t=>by
    have e:seg (c :: t)=escB c++seg t:=by simp [seg]
    have:=seg_len t
    have h:(escB c).length<=3:=by unfold escB;split<;>simp [escH]
    rw [e,List.length_append,List.length_cons];omega
theorem fits_ne {t:Row} (h:fits t=true):t≠[]:=fun e=>by rw [e] at h;revert h;decide
end Pa
namespace Pa
open Go.Lib Go.RowKit
theorem size_nil {s:ByteArray}:s.size=0↔s.data.toList=[]:=by
  rw [Lib.size_eq];exact List.length_eq_zero_iff
theorem fits_len {t:Row} (h:fits t=true):t.length < 65:=by
  unfold fits at h
  simp only [Bool.and_eq_true,decide_eq_true_eq] at h
  exact h.2.1.2
theorem ret_bool {a b:Bool} (h:a=b):Ending.returned (.bool a)=.returned (.bool b):=by rw [h]
theorem bare_of (b:UInt8) (v:Nat) (h:b.toNat=v):Hid (∀ r:Bool,(r=true↔((97<=v/\v<=122)\/(65<=v/\v<=90)\/(48<=v/\v<=57)\/v=45\/v=46\/v=95\/v=126))->r=bare b):=Lib.hid fun r hr=>by
  have h1:∀ n:Nat,n < 256->(b=UInt8.ofNat n↔v=n):=fun n hn=>by
    rw [<-h]
    constructor
    · intro e;rw [e];simp;omega
    · intro e;rw [<-e];simp
  have e1:=h1 45 (by decide)
  have e2:=h1 46 (by decide)
  have e3:=h1 95 (by decide)
  have e4:=h1 126 (by decide)
  unfold bare
  rw [h,Bool.eq_iff_iff,hr,decide_eq_true_iff]
  rw [<-e1,<-e2,<-e3,<-e4]
  exact Iff.rfl
theorem take_snoc (s:ByteArray) (k:Nat) (h:k < s.size):s.data.toList.take (k+1)=s.data.toList.take k++[s[k]'h]:=by
  have hl:k < s.data.toList.length:=by rw [<-Lib.size_eq];exact h
  rw [List.take_add_one,List.getElem?_eq_getElem hl];rfl
theorem seg_take (s:ByteArray) (k:Nat) (h:k < s.size):seg (s.data.toList.take (k+1))=seg (s.data.toList.take k)++escB (s[k]'h):=by
  rw [take_snoc s k h];unfold seg;simp
def SegP (t:Row) (e:Ending):Prop:=(fits t=false/\e=.returned (.tuple #[.string ⟨#[]⟩,.int .i64 60]))\/(fits t=true/\∃ x:ByteArray,x.data.toList=seg t/\e=.returned (.tuple #[.string x,.int .i64 0]))
abbrev mostS:Nat:=140737488355328
def SegC:Prop:=∀ (t:ByteArray) (w:World),t.size<=mostS->Ch.Tabs w->Calls Tryz.prog 37 #[.string t] w fun e w'=>SegP t.data.toList e/\Below w.heap.size w w'
theorem below_then {a b c:World} (h1:Below a.heap.size a b) (h2:Below b.heap.size b c):Below a.heap.size a c:=h1.trans (h2.mono h1.size)
theorem bare_any (b:UInt8) (w:World):Calls Tryz.prog 80 #[.int .u8 (b.toNat:Int)] w fun e w'=>e=.returned (.bool (bare b))/\w=w':=by
  have H:=bare_of b b.toNat rfl
  generalize bare b=R at H ⊢
  generalize b.toNat=v at H ⊢
  go_enter Tryz.func80,Tryz.ntmps80
  go_wp2
  all_goals
    go_ret
    exact ⟨ret_bool (H.out _ (by first | omega | (simp;omega))),rfl⟩
theorem fits_all (s:ByteArray):fits s.data.toList=(Ch.valid s.data.toList && (decide (0 < s.size/\s.size < 65) && decide (s.toList≠[46]/\s.toList≠[46,46]))):=by
  unfold fits
  rw [Lib.toList_data,Lib.size_eq]
theorem fits_not {l:Row} (h:l=[]\/l=[46]\/l=[46,46]):fits l=false:=by
  rcases h with rfl | rfl | rfl<;>decide +kernel
theorem fits_any (s:ByteArray) (w:World) (hs:s.size<=9223372036854775807) (hT:Ch.Tabs w) :
    Calls Tryz.prog 62 #[.string s] w fun e w'=>e=.returned (.bool (fits s.data.toList))/\Below w.heap.size w w':=by
  have cV:=Ch.valid_any s w hs hT
  clear hT
  have ft:=fits_all s
  have fn:=@fits_not s.data.toList
  rw [<-Lib.toList_data] at fn
  obtain ⟨R,hR⟩:∃ R,fits s.data.toList=R:=⟨_,rfl⟩
  rw [Lib.toList_data] at fn
  rw [hR] at ft fn ⊢
  rw [<-Lib.toList_data] at fn
  clear hR
  by_cases h0:s.toList=[]
  · have hr:=Lib.hid (fn (.inl h0))
    have e0:s.toList.isEmpty=true:=by rw [h0];rfl
    clear ft fn cV h0
    go_enter Tryz.func62,Tryz.ntmps62
    go_wp2
    all_goals
      go_ret
      exact ⟨by rw [hr.out];rfl,Below.refl _ _⟩
  · have e0:s.toList.isEmpty=false:=by simpa using h0
    by_cases h1:s.toList=[46]
    · have hr:=Lib.hid (fn (.inr (.inl h1)))
      have e1:(s.toList==[46])=true:=beq_iff_eq.2 h1
      clear ft fn cV h0
      go_enter Tryz.func62,Tryz.ntmps62
      go_wp2
      all_goals
        go_ret
        exact ⟨by rw [hr.out];rfl,Below.refl _ _⟩
    · have e1:(s.toList==[46])=false:=beq_eq_false_iff_ne.2 h1
      by_cases h2:s.toList=[46,46]
      · have hr:=Lib.hid (fn (.inr (.inr h2)))
        have e2:(s.toList==[46,46])=true:=beq_iff_eq.2 h2
        clear ft fn cV h0
        go_enter Tryz.func62,Tryz.ntmps62
        go_wp2
        all_goals
          go_ret
          exact ⟨by rw [hr.out];rfl,Below.refl _ _⟩
      · have e2:(s.toList==[46,46])=false:=beq_eq_false_iff_ne.2 h2
        have hp:0 < s.size:=by
          have:¬ s.size=0:=fun e=>h0 (by rw [Lib.toList_data];exact size_nil.1 e)
          omega
        have hr:Hid (R=(Ch.valid s.data.toList && decide (s.size < 65))):=Lib.hid (by
          rw [ft,show decide (s.toList≠[46]/\s.toList≠[46,46])=true from decide_eq_true ⟨h1,h2⟩,Bool.and_true]
          congr 1
          simp [hp])
        clear ft fn h0 hp
        by_cases h3:s.size < 65
        · have g3:(s.size:Int)<=64:=by omega
          have hr':=hr.out
          rw [decide_eq_true h3,Bool.and_true] at hr'
          have hr2:=Lib.hid hr'
          clear hr hr'
          go_enter Tryz.func62,Tryz.ntmps62
          go_wp2_with fail
          go_at_call 79
          with_reducible refine cV.mono ?_
          rintro e w2 ⟨rfl,hb⟩
          have hb':=Lib.hid hb
          clear hb cV
          go_wp2
          go_ret
          exact ⟨ret_bool (by rw [hr2.out];try simp),hb'.out⟩
        · have g3:¬ (s.size:Int)<=64:=by omega
          have hr':=hr.out
          rw [decide_eq_false h3,Bool.and_false] at hr'
          have hr2:=Lib.hid hr'
          clear hr hr' cV
          go_enter Tryz.func62,Tryz.ntmps62
          go_wp2
          go_ret
          exact ⟨by rw [hr2.out];rfl,Below.refl _ _⟩
end Pa
namespace Pa
open Go.Lib Go.RowKit Bu
theorem hexU_at:∀ q:Fin 16,(⟨#[48,49,50,51,52,53,54,55,56,57,65,66,67,68,69,70]⟩:ByteArray)[q.val]'q.isLt=hexU.getD q.val 0:=by decide +kernel
theorem write_seg (t:ByteArray) (w:World) (hcl:t.size<=64) :
    Calls Tryz.prog 63 #[.string t] w fun e w'=>(∃ x:ByteArray,x.data.toList=seg t.data.toList/\e=.returned (.string x))/\Below w.heap.size w w':=by
  obtain ⟨b,hb⟩:∃ b,w.heap.size=b:=⟨_,rfl⟩
  obtain ⟨w2,hw2⟩:∃ w2,w.alloc (.cells #[.pointer none,.slice none 0 0] 133)=w2:=⟨_,rfl⟩
  have hbd:Bd b b [] w2:=by rw [<-hw2,<-hb];exact fresh w
  have hB2:Below b w w2:=by rw [<-hw2,<-hb];exact (Below.refl _ _).alloc (Nat.le_refl _) _
  have hbd':=Lib.hid hbd
  have hB2':=Lib.hid hB2
  clear hbd hB2
  go_enter Tryz.func63,Tryz.ntmps63
  go_wp2
  go_loopw [4] (fun s5 wr=>∃ k:Nat,s5=.int .i64 (k:Int)/\k<=t.size/\Bd b b (seg (t.data.toList.take k)) wr/\Below b w wr) (fun s5 wr=>t.size - (RowKit.intOf s5).toNat)
  case atStart=>exact ⟨0,rfl,Nat.zero_le _,hbd'.out,hB2'.out⟩
  case round =>
    obtain ⟨k,rfl,hk,hbd,hB⟩:=hrel
    have hlen:=seg_len (t.data.toList.take k)
    rw [List.length_take] at hlen
    have hbs:b<=wr.heap.size:=by have:=hB.size;omega
    by_cases hlt:k < t.size
    · have hst:=seg_take t k hlt
      obtain ⟨c,hc⟩:∃ c,t[k]'hlt=c:=⟨_,rfl⟩
      rw [hc] at hst
      by_cases hbr:bare c=true
      · have cB:=bare_any c wr
        rw [hbr] at cB
        have cW:=byte_any b b _ c wr hbd (by omega) hbs
        have hn:=Lib.hid (show seg (t.data.toList.take k)++[c]=seg (t.data.toList.take (k+1)) by rw [hst];unfold escB;rw [if_pos hbr])
        have hB':=Lib.hid hB
        clear hst hbr hbd hB
        go_wp2_with fail
        go_at_call 80
        with_reducible refine cB.mono ?_
        rintro e w3 ⟨rfl,rfl⟩
        go_wp2_with fail
        go_at_call 81
        refine cW.mono ?_
        rintro e w4 ⟨rfl,hbd4,hB4⟩
        rw [hn.out] at hbd4
        have hbd4':=Lib.hid hbd4
        have hB4':=Lib.hid (hB'.out.trans hB4)
        clear hbd4 hB4 cW cB
        go_wp2
        go_roundw
        case rel=>exact ⟨k+1,by go_num,by omega,hbd4'.out,hB4'.out⟩
        case measure=>simp [RowKit.intOf];omega
      · have hbf:bare c=false:=by simpa using hbr
        have cB:=bare_any c wr
        rw [hbf] at cB
        have cW:=byte_any b b _ 37 wr hbd (by omega) hbs
        obtain ⟨v,hv⟩:∃ v,c.toNat=v:=⟨_,rfl⟩
        have hv256:v < 256:=by rw [<-hv];exact c.toNat_lt
        obtain ⟨q,hq⟩:∃ q,v / 16=q:=⟨_,rfl⟩
        obtain ⟨r,hr⟩:∃ r,v % 16=r:=⟨_,rfl⟩
        have hq16:q < 16:=by omega
        have hr16:r < 16:=by omega
        have d1:(v:Int) / 16=(q:Int):=by omega
        have d2:(v:Int) % 16=(r:Int):=by omega
        have d3:(q:Int) < 16:=by omega
        have d4:(r:Int) < 16:=by omega
        have d5:(0:Int)<=(q:Int):=by omega
        have d6:(0:Int)<=(r:Int):=by omega
        have hqs:q < (⟨#[48,49,50,51,52,53,54,55,56,57,65,66,67,68,69,70]⟩:ByteArray).size:=hq16
        have hrs:r < (⟨#[48,49,50,51,52,53,54,55,56,57,65,66,67,68,69,70]⟩:ByteArray).size:=hr16
        obtain ⟨x,hx⟩:∃ x,(⟨#[48,49,50,51,52,53,54,55,56,57,65,66,67,68,69,70]⟩:ByteArray)[q]'hqs=x:=⟨_,rfl⟩
        obtain ⟨y,hy⟩:∃ x,(⟨#[48,49,50,51,52,53,54,55,56,57,65,66,67,68,69,70]⟩:ByteArray)[r]'hrs=x:=⟨_,rfl⟩
        have ex:=hexU_at ⟨q,hq16⟩
        have ey:=hexU_at ⟨r,hr16⟩
        have hn:=Lib.hid (show seg (t.data.toList.take k)++[37]++[x]++[y]=seg (t.data.toList.take (k+1)) by
          rw [hst];unfold escB escH;rw [if_neg hbr,hv,hq,hr,<-hx,<-hy,ex,ey];simp)
        have hB':=Lib.hid hB
        have hsl:(seg (t.data.toList.take k)).length<=3*64:=by omega
        clear hst hbr hbd hB ex ey hlen hq hr
        subst hv
        go_wp2_with fail
        go_at_call 80
        with_reducible refine cB.mono ?_
        rintro e w3 ⟨rfl,rfl⟩
        go_wp2_with fail
        go_at_call 81
        refine cW.mono ?_
        rintro e w4 ⟨rfl,hbd4,hB4⟩
        have cX:=byte_any b b _ x w4 hbd4 (by simp;omega) (by have:=hB4.size;omega)
        have hB4':=Lib.hid (hB'.out.trans hB4)
        clear cW cB hbd4
        go_wp2_with fail
        go_at_call 81
        refine cX.mono ?_
        rintro e w5 ⟨rfl,hbd5,hB5⟩
        have cY:=byte_any b b _ y w5 hbd5 (by simp;omega) (by have:=hB4.size;have:=hB5.size;omega)
        have hB5':=Lib.hid (hB4'.out.trans hB5)
        clear cX hbd5 hB4 hB5
        go_wp2_with fail
        go_at_call 81
        refine cY.mono ?_
        rintro e w6 ⟨rfl,hbd6,hB6⟩
        rw [hn.out] at hbd6
        have hbd6':=Lib.hid hbd6
        have hB6':=Lib.hid (hB5'.out.trans hB6)
        clear cY hbd6 hB6
        go_wp2
        go_roundw
        case rel=>exact ⟨k+1,by go_num,by omega,hbd6'.out,hB6'.out⟩
        case measure=>simp [RowKit.intOf];omega
    · have hfull:seg (t.data.toList.take k)=seg t.data.toList:=by rw [List.take_of_length_le (by rw [<-Lib.size_eq];omega)]
      rw [hfull] at hbd
      have cT:=text_any b b _ wr hbd hbs
      have hB':=Lib.hid hB
      clear hbd hB hfull
      go_wp2_with fail
      go_at_call 82
      with_reducible refine cT.mono ?_
      rintro e w3 ⟨rfl,_,hB3⟩
      have hfin:=Lib.hid (hB'.out.trans hB3)
      clear cT hB3
      go_wp2
      go_ret
      exact ⟨⟨_,by simp,rfl⟩,by rw [hb];exact hfin.out⟩
theorem segment_any:SegC:=fun t w ht hT=>by
  have cF:=fits_any t w (by unfold mostS at ht;omega) hT
  by_cases hf:fits t.data.toList=true
  · rw [hf] at cF
    have hcl:=fits_len hf
    rw [<-Lib.size_eq] at hcl
    have cW:=fun W=>write_seg t W (by omega)
    have hf':=Lib.hid hf
    clear hf hT ht
    go_enter Tryz.func37,Tryz.ntmps37
    go_wp2_with fail
    go_at_call 62
    with_reducible refine cF.mono ?_
    rintro e w1 ⟨rfl,hb1⟩
    have hb1':=Lib.hid hb1
    clear cF hb1
    go_wp2_with fail
    go_at_call 63
    with_reducible refine (cW _).mono ?_
    rintro e w2 ⟨⟨x,hx,rfl⟩,hb2⟩
    have hx':=Lib.hid hx
    have hfin:=Lib.hid (below_then hb1'.out hb2)
    clear cW hb2 hx
    go_wp2
    go_ret2
    exact ⟨.inr ⟨hf'.out,_,hx'.out,rfl⟩,hfin.out⟩
  · have hff:fits t.data.toList=false:=by simpa using hf
    rw [hff] at cF
    have hff':=Lib.hid hff
    clear hf hff hT
    go_enter Tryz.func37,Tryz.ntmps37
    go_wp2_with fail
    go_at_call 62
    with_reducible refine cF.mono ?_
    rintro e w1 ⟨rfl,hb1⟩
    have hb1':=Lib.hid hb1
    clear hb1 cF
    go_wp2
    go_ret2
    exact ⟨.inl ⟨hff'.out,rfl⟩,hb1'.out⟩
end Pa
namespace Ht
abbrev Row:=List UInt8
def bl (c:UInt8):Bool:=c==32 || c==9
def trim (s:Row):Row:=((s.dropWhile bl).reverse.dropWhile bl).reverse
def cutB (c:UInt8):Row->Option (Row × Row)
  | []=>none
  | x :: r=>if x=c then some ([],r) else (cutB c r).map fun p=>(x :: p.1,p.2)
theorem cutB_at {c:UInt8}:∀ {a:Row} (r:Row),c∉a->cutB c (a++c :: r)=some (a,r)
  | [],r,_=>by simp [cutB]
  | x :: a,r,h=>by
    have:x≠c:=fun e=>h (by simp [e])
    show cutB c (x :: (a++c :: r))=_
    rw [cutB,if_neg this,cutB_at r (fun hm=>h (by simp [hm]))];rfl
def cutR:Row->Option (Row × Row)
  | []=>none
  | [_]=>none
  | x :: y :: r=>if x=13/\y=10 then some ([],r) else (cutR (y :: r)).map fun p=>(x :: p.1,p.2)
def hd:Nat->Bool->Row->Option (List Row × Nat)
  | 0,_,_=>none
  | n+1,f,t=>(cutR t).bind fun p=>if f=false/\p.1=[] then some ([],2) else (hd n false p.2).map fun q=>(p.1 :: q.1,p.1.length+2+q.2)
end Ht
namespace Ht
open Go.Lib
theorem dwh (l:Row):∀ x,(l.dropWhile bl).head?=some x->bl x=false:=fun x hx=>by
  have h:=List.head?_dropWhile_not bl l
  rw [hx] at h
  simpa using h
theorem dw_nil:∀ {l:Row},l.dropWhile bl=[]↔∀ x∈l,bl x=true
  | []=>by simp
  | c :: l=>by
    rw [List.dropWhile_cons]
    cases hc:bl c with
    | true =>
      rw [if_pos rfl,dw_nil]
      simp [hc]
    | false =>
      rw [if_neg (by decide)]
      simp [hc]
theorem bl_in (c:UInt8):([32,9]:Row).contains c=bl c:=by
  unfold bl
  rw [Bool.eq_iff_iff]
  simp
theorem backs_head (x:UInt8) (r:Row) (hx:bl x=false):∃ t,((x :: r).reverse.dropWhile bl).reverse=x :: t:=by
  rw [List.reverse_cons,List.dropWhile_append]
  by_cases h:(r.reverse.dropWhile bl).isEmpty=true
  · rw [if_pos h,List.dropWhile_cons,if_neg (by rw [hx];decide)]
    exact ⟨[],rfl⟩
  · rw [if_neg h,List.reverse_append]
    exact ⟨_,rfl⟩
theorem trimS_trim (l:Row):Lib.trimS l [32,9]=trim l:=by
  unfold Lib.trimS Lib.trimLeftS Lib.trimRightS trim
  simp only [bl_in]
  show ((l.reverse.dropWhile bl).reverse).dropWhile bl=((l.dropWhile bl).reverse.dropWhile bl).reverse
  have hp:=List.takeWhile_append_dropWhile (p:=bl) (l:=l)
  have hall:∀ c∈l.takeWhile bl,bl c=true:=fun c hc=>by
    have:=List.all_takeWhile (p:=bl) (l:=l)
    exact List.all_eq_true.1 this c hc
  cases hd:l.dropWhile bl with
  | nil =>
    have h1:∀ c∈l,bl c=true:=fun c hc=>by
      rw [hd,List.append_nil] at hp
      exact hall c (by rw [hp];exact hc)
    have h2:l.reverse.dropWhile bl=[]:=by
      rw [dw_nil]
      intro c hc
      exact h1 c (List.mem_reverse.1 hc)
    rw [h2];rfl
  | cons x r =>
    have hx:bl x=false:=dwh l x (by rw [hd];rfl)
    obtain ⟨t,ht⟩:=backs_head x r hx
    rw [ht]
    have e:(l.reverse.dropWhile bl).reverse=l.takeWhile bl++x :: t:=by
      conv=>lhs;rw [<-hp,hd]
      rw [List.reverse_append,List.dropWhile_append]
      have hne:¬ ((x :: r).reverse.dropWhile bl).isEmpty=true:=fun h=>by
        rw [List.isEmpty_iff] at h
        rw [h] at ht;cases ht
      rw [if_neg hne,List.reverse_append,List.reverse_reverse,ht]
    rw [e,List.dropWhile_append]
    have h2:(l.takeWhile bl).dropWhile bl=[]:=by
      rw [dw_nil]
      exact fun c hc=>hall c hc
    rw [h2,if_pos (by rfl),List.dropWhile_cons,if_neg (by rw [hx];decide)]
end Ht
namespace Co
open Go.Lib
abbrev Row:=List UInt8
abbrev trim:=Ht.trim
def most:Nat:=4611686018427387904
def par (l:Row):Nat:=if 2<=l.length/\l.head?=some 34/\l.getLast?=some 34 then (Ch.numS (l.drop 1).dropLast most).1 else 0
theorem par_le (l:Row):par l<=most:=by
  unfold par
  split
  · exact Ch.numS_le _ _
  · exact Nat.zero_le _
theorem par_marks (d:Row):par (34 :: (d++[34]))=(Ch.numS d most).1:=by
  unfold par
  rw [if_pos]
  · simp
  · refine ⟨by simp,rfl,?_⟩
    rw [show (34:UInt8) :: (d++[34])=(34 :: d)++[34] from rfl,List.getLast?_append];rfl
theorem par_form (l:Row):(∃ d,l=34 :: (d++[34])/\par l=(Ch.numS d most).1)\/((¬ ∃ d,l=34 :: (d++[34]))/\par l=0):=by
  by_cases h:2<=l.length/\l.head?=some 34/\l.getLast?=some 34
  · left
    obtain ⟨h1,h2,h3⟩:=h
    match l,h1,h2,h3 with
    | x :: r,h1,h2,h3 =>
      simp at h2
      subst h2
      have hr:r≠[]:=fun e=>by rw [e] at h1;simp at h1
      have e:r=r.dropLast++[34]:=by
        rw [List.getLast?_cons_of_ne_nil hr,List.getLast?_eq_some_getLast hr] at h3
        have:=List.dropLast_concat_getLast hr
        rw [Option.some.inj h3] at this
        exact this.symm
      refine ⟨r.dropLast,by rw [<-e],?_⟩
      conv=>lhs;rw [e]
      exact par_marks _
  · right
    refine ⟨fun hd=>?_,by unfold par;rw [if_neg h]⟩
    obtain ⟨d,rfl⟩:=hd
    apply h
    refine ⟨by simp,rfl,?_⟩
    rw [show (34:UInt8) :: (d++[34])=(34 :: d)++[34] from rfl,List.getLast?_append];rfl
def spl:Row->List Row
  | []=>[[]]
  | c :: r=>if c=44 then [] :: spl r else match spl r with
    | []=>[[c]]
    | h :: t=>(c :: h) :: t
theorem spl_ne:∀ l:Row,spl l≠[]
  | []=>by simp [spl]
  | c :: r=>by
    unfold spl
    split
    · simp
    · cases spl r<;>simp
theorem spl_own {a:Row} (h:(44:UInt8)∉a):spl a=[a]:=by
  induction a with
  | nil=>rfl
  | cons c r ih =>
    have hc:c≠44:=fun e=>h (by simp [e])
    unfold spl
    rw [if_neg hc,ih (fun hm=>h (by simp [hm]))]
theorem spl_at {a:Row} (r:Row) (h:(44:UInt8)∉a):spl (a++44 :: r)=a :: spl r:=by
  induction a with
  | nil=>show spl (44 :: r)=_;rw [spl,if_pos rfl]
  | cons c a ih =>
    have hc:c≠44:=fun e=>h (by simp [e])
    show spl (c :: (a++44 :: r))=_
    rw [spl,if_neg hc,ih (fun hm=>h (by simp [hm]))]
theorem spl_len (l:Row):(spl l).length<=l.length+1:=by
  induction l with
  | nil=>simp [spl]
  | cons c r ih =>
    unfold spl
    split
    · simp;omega
    · cases hs:spl r with
      | nil=>exact absurd hs (spl_ne r)
      | cons h t=>rw [hs] at ih;simp at ih ⊢;omega
def tagsOf:List Row->Option (List Nat)
  | []=>some []
  | p :: r=>if par (trim p)=0 then none else (tagsOf r).map fun t=>par (trim p) :: t
theorem tagsOf_append:∀ (a b:List Row),tagsOf (a++b)=(tagsOf a).bind fun x=>(tagsOf b).map fun y=>x++y
  | [],b=>by simp [tagsOf]
  | p :: a,b=>by
    show (if par (trim p)=0 then none else (tagsOf (a++b)).map _)=_
    rw [tagsOf_append a b,tagsOf]
    split
    · rfl
    · cases tagsOf a with
      | none=>rfl
      | some x=>cases tagsOf b<;>simp
theorem tagsOf_more {a:List Row} {ts:List Nat} (h:tagsOf a=some ts) {p:Row} (hp:par (trim p)≠0):tagsOf (a++[p])=some (ts++[par (trim p)]):=by
  rw [tagsOf_append,h,tagsOf,if_neg hp];rfl
theorem tagsOf_stop {a:List Row} {ts:List Nat} (h:tagsOf a=some ts) {p:Row} (hp:par (trim p)=0) (r:List Row):tagsOf (a++p :: r)=none:=by
  rw [tagsOf_append,h,tagsOf,if_pos hp];rfl
theorem tagsOf_len:∀ {a:List Row} {ts:List Nat},tagsOf a=some ts->ts.length=a.length
  | [],ts,h=>by cases h;rfl
  | p :: a,ts,h=>by
    rw [tagsOf] at h
    split at h
    · cases h
    · cases ht:tagsOf a with
      | none=>rw [ht] at h;cases h
      | some x =>
        rw [ht] at h
        cases h
        simp [tagsOf_len ht]
def cond (l:Row):Option (List Nat × Bool):=if trim l=[42] then some ([],true) else (tagsOf (spl l)).map fun t=>(t,false)
def has (p:List Nat × Bool) (t:Int):Bool:=decide (t≠0) && (p.2 || p.1.any fun n=>decide ((n:Int)=t))
def nam (c:Row) (t:Int):Option Bool:=if c=[] then some false else (cond c).map fun p=>has p t
def hol (m n:Row) (t:Int):Option Bool:=(nam m t).bind fun a=>(nam n t).map fun b=>(decide (m=[]) || a) && (decide (n=[]) || !b)
theorem hol_none {m n:Row} {t:Int} (h:nam m t=none\/nam n t=none):hol m n t=none:=by
  unfold hol
  rcases h with h | h
  · rw [h];rfl
  · rw [h]
    cases nam m t<;>rfl
theorem hol_some {m n:Row} {t:Int} {a b:Bool} (h1:nam m t=some a) (h2:nam n t=some b):hol m n t=some ((decide (m=[]) || a) && (decide (n=[]) || !b)):=by
  unfold hol
  rw [h1,h2];rfl
theorem twin_none {c:Row} (h:cond c=none) (hc:c≠[]) (u:Int):nam c u=none:=by
  unfold nam
  rw [if_neg hc,h];rfl
theorem twin_some {c:Row} {p:List Nat × Bool} (h:cond c=some p) (hc:c≠[]) (u:Int):nam c u=some (has p u):=by
  unfold nam
  rw [if_neg hc,h];rfl
end Co
namespace Ch
open Go.Lib Go.RowKit Go.Sort
def Pow (w : World) : Prop := Lib.TabIs Tryz.prog w "internal/strconv.uint64pow10" .u64 Lib.pow10Tab
theorem pow_below {w w':World} (h:Pow w) (hb:Below w.heap.size w w'):Pow w':=tabBelow_of_tabIs h w' hb
theorem formatUint_any (u:Nat) (hu:u < 18446744073709551616) (w:World) (hP:Pow w) :
    Calls Tryz.prog 174 #[.int .u64 (u:Int),.int .i64 10] w fun e w'=>e=.returned (.string ⟨(decDigits u).toArray⟩)/\Below w.heap.size w w':=by
  by_cases hs:u < 100
  · go_enter Tryz.func174,Tryz.ntmps174
    go_wp2_with (go_at_call 203;refine (Tryz.internal_strconv_small u hs _).mono ?_;rintro e w' ⟨rfl,rfl⟩)
    go_ret
    exact ⟨rfl,Below.refl _ _⟩
  · have hu1:1<=u:=by omega
    have hnd20:Lib.nDigits u<=20:=by have:=Lib.numDigits_eq u hu1 hu;split at this<;>omega
    have hal:Tryz.prog.arrayLen 257=24:=by kernel_rfl
    have hsl1:∀ W,(Instr.sliceAt 257 (.pointer (some ⟨w.heap.size,0,none⟩)) none (some (.int .i64 (Lib.nDigits u:Int))) none).run Tryz.prog W=.ok (.slice (some ⟨w.heap.size,0,none⟩) (Lib.nDigits u) 24) W:=fun W=>by
      rw [run_sliceAt_array_h W 257 ⟨w.heap.size,0,none⟩ (by kernel_rfl) .i64 (Lib.nDigits u:Int) (by omega) (by rw [hal];omega)]
      go_simp
    have hH0:=Lib.holds_zero0 w 257 (Lib.nDigits u) (by omega)
    have hfmt:=Tryz.internal_strconv_formatBase10 w.heap.size 0 24 u (Array.replicate (Lib.nDigits u) 0) (w.alloc (.cells Lib.zeros24 257)) hH0 (by rw [Array.size_replicate];exact Lib.lt_pow_nDigits u) hu (by rw [Array.size_replicate];omega)
    rw [Array.size_replicate] at hfmt
    have HH0:=Lib.hid hH0
    have hP':=Lib.hid hP
    clear hH0 hal hP
    go_enter Tryz.func174,Tryz.ntmps174
    go_wp2_with (first
      | (go_at_call 204;refine (Tryz.internal_strconv_numDigits u hu1 hu _ (Lib.tabIs_alloc hP'.out _)).mono ?_;rintro e w' ⟨rfl,rfl⟩))
    go_at_call 205
    refine hfmt.mono ?_
    rintro e w' ⟨rfl,k,v',dk,rfl,hF⟩
    have hcv:(convert 56 9 (.slice (some ⟨w.heap.size,0,none⟩) (Lib.nDigits u) 24)).run Tryz.prog ((putRow (fun (b:UInt8)=>Value.int .u8 (b.toNat:Int)) (w.alloc (.cells Lib.zeros24 257)) w.heap.size 0 dk).drewN k)=.ok (.string ⟨(Lib.decDigits u).toArray⟩) ((putRow (fun (b:UInt8)=>Value.int .u8 (b.toNat:Int)) (w.alloc (.cells Lib.zeros24 257)) w.heap.size 0 dk).drewN k):=by
      have h:=run_convert_bytes_back (P:=Tryz.prog) ((putRow (fun (b:UInt8)=>Value.int .u8 (b.toNat:Int)) (w.alloc (.cells Lib.zeros24 257)) w.heap.size 0 dk).drewN k) 56 9 5 ⟨w.heap.size,0,none⟩ 24 (Lib.decDigits u) Tryz.underlying56 Tryz.underlying5 Tryz.underlying9 (fun j hj=>by
        rw [Lib.row_is_numeral hF j hj,Lib.add_plain,World.cell?_drewN]
        exact cell?_putRow (fun (b:UInt8)=>Value.int .u8 (b.toNat:Int)) _ w.heap.size 0 _ dk HH0.out (by rw [hF.size,Array.size_replicate]) j (by rw [hF.size];rw [Lib.decDigits_length] at hj;exact hj))
      rw [Lib.decDigits_length] at h
      exact h
    go_wp2
    go_ret
    obtain ⟨os,eo⟩:=Lib.fin_at w (.cells Lib.zeros24 257) dk k 0
    refine ⟨rfl,?_⟩
    rw [eo]
    exact below_grow _ w (Nat.le_refl _) k os
theorem decimal_any (u:Nat) (hu:u < 18446744073709551616) (w:World) (hP:Pow w) :
    Calls Tryz.prog 122 #[.int .u64 (u:Int)] w fun e w'=>e=.returned (.string ⟨(decDigits u).toArray⟩)/\Below w.heap.size w w':=by
  have cF:=formatUint_any u hu w hP
  clear hP
  go_enter Tryz.func122,Tryz.ntmps122
  go_wp2_with (first | (go_at_call 149;go_in) | (go_at_call 174;refine cF.mono ?_;rintro e w' ⟨rfl,hb⟩))
  go_ret
  exact ⟨rfl,hb⟩
end Ch
end Go.Proofs.YtobfaibofhmpgaaGreatDoor
