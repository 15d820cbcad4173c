import Derived.Test.YtobfaibofhmpgaaGreatDoorAp21
set_option linter.unusedVariables false
set_option maxHeartbeats 8000000
set_option maxRecDepth 100000
namespace Go.Proofs.YtobfaibofhmpgaaGreatDoor
namespace Ca
open Go.Shelf Go.RowKit Go.Lib Go.Sort
open Li (LD PD sv POwn LOwn LineAt PrmsAt pr canL res4)
structure CanC (Ls:List LD):Prop where
  n:Ls.length<=1099511627776
  p:∀ L∈Ls,(pr L).length<=1099511627776
  v:∀ L∈Ls,L.value.length<=268435456
  a:∀ L∈Ls,∃ x,anewV (Ch.up L.name) L.value=some x
  ne:Ls≠[]
  nm:∀ L∈Ls,L.name≠[]
theorem can1_eq {L:LD} {x:Row} (h:anewV (Ch.up L.name) L.value=some x):can1 L=⟨Ch.up L.group,Ch.up L.name,L.params.map Li.canP,x⟩:=by
  unfold can1
  show (⟨Ch.up L.group,Ch.up L.name,L.params.map Li.canP,(anew (Ch.up L.name) L.value).1⟩:LD)=_
  rw [(anew_eq (Ch.up L.name) L.value).1 x h]
theorem up_ne {l:Row} (h:l≠[]):Ch.up l≠[]:=fun e=>h (List.eq_nil_of_length_eq_zero (by rw [<-Ch.up_length,e];rfl))
theorem LsOwn.stored {w:World} {B:Nat} {v:Value} {Ls:List LD} (h:LsOwn B v Ls w) {a:Addr} (ha:a.block < B) (u:Value):LsOwn B v Ls (w.setCell a u):=by
  obtain ⟨vs,h1,h2,h3⟩:=h
  exact ⟨vs,h1,ownsRow_setCell_below h2 ha u,fun j p x hp hx=>(h3 j p x hp hx).stored ha u⟩
theorem canonize_any (v:Value) (Ls:List LD) (w:World) (h:LinesAt w v Ls) (hS:CanC Ls) :
    Calls Tryz.prog 145 #[.agg #[v]] w fun e w'=>(∃ u,e=.returned (.agg #[u])/\LsOwn w.heap.size u (srt (Ls.map can1)) w')/\Below w.heap.size w w':=by
  obtain ⟨A,b,off,c,rfl,h1,h2,h3,h4⟩:=h
  obtain ⟨n,hn⟩:∃ n,Ls.length=n:=⟨_,rfl⟩
  have hlen:=hS.n
  rw [hn] at h1 h3 hlen ⊢
  unfold maxLen at h2
  have hn':=Lib.hid hn
  have h3':=Lib.hid h3
  have h4':=Lib.hid h4
  have hS':=Lib.hid hS
  have B0:Below w.heap.size w ((w.alloc (.cells #[.slice A n c] 143)).alloc (.cells #[.slice none 0 0] 143)):=((Below.refl _ _).alloc (Nat.le_refl _) _).alloc (by simp) _
  have hres:((w.alloc (.cells #[.slice A n c] 143)).alloc (.cells #[.slice none 0 0] 143)).heap[w.heap.size+1]?=some (.cells #[.slice none 0 0] 143 (0,0)):=by
    have:=heap_alloc_new (w.alloc (.cells #[.slice A n c] 143)) (.cells #[.slice none 0 0] 143)
    simpa using this
  have hszB:((w.alloc (.cells #[.slice A n c] 143)).alloc (.cells #[.slice none 0 0] 143)).heap.size=w.heap.size+2:=by simp
  obtain ⟨Z,hZ⟩:∃ Z,w.heap.size=Z:=⟨_,rfl⟩
  clear hn h3 h4 hS
  go_enter Tryz.func145,Tryz.ntmps145
  go_wp2
  obtain ⟨wB,hwB⟩:∃ wB,(w.alloc (.cells #[.slice A n c] 143)).alloc (.cells #[.slice none 0 0] 143)=wB:=⟨_,rfl⟩
  rw [hwB] at B0 hres hszB ⊢
  rw [hZ] at hres hszB
  have hszB1:wB.heap.size<=Z+2:=by omega
  have hszB2:Z+2<=wB.heap.size:=by omega
  have hres':=Lib.hid hres
  have hZ':=Lib.hid hZ
  have hbB:Below wB.heap.size wB wB:=Below.refl _ _
  clear hwB hszB hres
  rw [hZ] at B0
  clear hZ
  go_loopw [3,11] (fun s3 s11 wr=>∃ k:Nat,s11=.int .i64 (k:Int)/\k<=n/\Hid (LsOwn (Z+2) s3 ((Ls.take k).map can1) wr)/\Below wB.heap.size wB wr) (fun s3 s11 wr=>n - (RowKit.intOf s11).toNat)
  case atStart=>exact ⟨0,rfl,Nat.zero_le _,Lib.hid (by rw [List.take_zero];exact LsOwn.nil _ _),hbB⟩
  case round =>
    obtain ⟨k,rfl,hk,hown,hbw1⟩:=hrel
    have hbw:Below Z w wr:=B0.trans (hbw1.mono (by omega))
    have hszr:=hbw1.size
    by_cases hlt:k < n
    · have hl:Ls[k]?=some (Ls[k]'(by have:=hn'.out;omega)):=List.getElem?_eq_getElem _
      obtain ⟨L,hle⟩:∃ L,Ls[k]'(by have:=hn'.out;omega)=L:=⟨_,rfl⟩
      have hmem:L∈Ls:=by rw [<-hle];exact List.getElem_mem _
      rw [hle] at hl
      obtain ⟨rfl,hg⟩:=h3'.out (by omega)
      have hbwZ:Below w.heap.size w wr:=by rw [hZ'.out];exact hbw
      obtain ⟨a1,a2,a4,pA,pn,pc,e1,e2,e4,hpn,hpp,g0,g1,g2,g3⟩:=LinesAt.line h4'.out hg hbwZ hl
      obtain ⟨x,hx⟩:=hS'.out.a L hmem
      have hsz:=Li.sz_pr (hS'.out.p L hmem)
      have hvl:=hS'.out.v L hmem
      have hcan:=can1_eq hx
      have hLat:LineAt wr (.agg #[.string a1,.string a2,.slice pA pn pc,.string a4]) L:=⟨.slice pA pn pc,by rw [e1,e2,e4],hpp⟩
      have hbx:Below wr.heap.size wr (wr.alloc (.cells #[.string a1,.string a2,.slice pA pn pc,.string a4] 203)):=(Below.refl _ _).alloc (Nat.le_refl _) _
      have cC:=Li.canon_any _ L _ (hLat.kept hbx) (by have:=hsz.g;omega) (by have:=hsz.n;omega) (fun p hp=>by have:=hsz.pn p hp;omega) hsz.k (fun p hp=>by have:=hsz.pk p hp;omega)
      have d4:a4.data.toList=L.value:=by unfold sv at e4;injection e4 with e4;rw [<-e4]
      have s4:a4.size<=268435456:=by rw [Lib.size_eq,d4];exact hvl
      have htk:(Ls.take (k+1)).map can1=(Ls.take k).map can1++[can1 L]:=by
        have hlk:k < Ls.length:=(List.getElem?_eq_some_iff.1 hl).1
        rw [List.take_succ_eq_append_getElem hlk,hle,List.map_append];rfl
      have hkl:((Ls.take k).map can1).length=k:=by rw [List.length_map,List.length_take];have:=hn'.out;omega
      have htk':=Lib.hid htk
      have hcan':=Lib.hid hcan
      have hx':=Lib.hid hx
      have d4':=Lib.hid d4
      have e4':=Lib.hid e4
      have hkl':=Lib.hid hkl
      clear hle hl hmem e1 e2 e4 hpn hpp hLat hx hcan htk hkl d4 hsz hvl hbwZ
      go_wp2_with fail
      go_at_call 166
      refine cC.mono ?_
      rintro e w3 ⟨⟨u,rfl,qv,hu,hqo⟩,hb3⟩
      obtain ⟨y1,ey1,hy1⟩:=Li.sv_some (canL L).group
      obtain ⟨y2,ey2,hy2⟩:=Li.sv_some (canL L).name
      have ey4:sv (canL L).value=.string a4:=e4'.out
      rw [ey1,ey2,ey4] at hu
      subst hu
      obtain ⟨qA,qn,qc,rfl⟩:∃ A n c,qv=.slice A n c:=by obtain ⟨A,_,_,c,h,_⟩:=hqo.at;exact ⟨A,_,c,h⟩
      have hB3:=belowThen hbx hb3
      have cA:=fun W=>cAnew_any y2 a4 W s4
      have hy2u:y2.data.toList=Ch.up L.name:=hy2
      rw [hy2u,d4'.out] at cA
      have cA2:∀ W,Calls Tryz.prog 161 #[.string y2,.string a4] W fun e w'=>(∃ z:ByteArray,z.data.toList=x/\e=.returned (.tuple #[.string z,.int .i64 0]))/\Below W.heap.size W w':=fun W=>(cA W).mono fun e w' ⟨h1,h2⟩=>⟨(by
        rcases h1 with ⟨h,_⟩ | ⟨z,h,h'⟩
        · rw [hx'.out] at h;cases h
        · rw [hx'.out] at h;exact ⟨z,(Option.some.inj h).symm,h'⟩),h2⟩
      have hyy:=Lib.hid (And.intro (show y1.data.toList=Ch.up L.group from hy1) hy2u)
      have hqo':=Lib.hid hqo
      have sz3:wr.heap.size+1<=w3.heap.size:=by have:=hb3.size;simpa using this
      clear cA hy1 hy2 hy2u hqo ey1 ey2 ey4 hb3 cC g0 g1 g2 g3
      go_wp2_with fail
      have hk4:(w3.alloc (.cells #[.string y1,.string y2,.slice qA qn qc,.string a4] 203)).heap[w3.heap.size]?=some (.cells #[.string y1,.string y2,.slice qA qn qc,.string a4] 203 (0,0)):=heap_alloc_new w3 _
      have hb4:Below w3.heap.size w3 (w3.alloc (.cells #[.string y1,.string y2,.slice qA qn qc,.string a4] 203)):=(Below.refl _ _).alloc (Nat.le_refl _) _
      go_at_call 161
      refine (cA2 _).mono ?_
      rintro e w5 ⟨⟨z,hz,rfl⟩,hb5⟩
      have hk5:w5.heap[w3.heap.size]?=some (.cells #[.string y1,.string y2,.slice qA qn qc,.string a4] 203 (0,0)):=(hb5.block _ (by simp)).trans hk4
      obtain ⟨p0,p1,p2,p3,r0,r1,r2,r3⟩:=res4 hk5
      have hb35:Below w3.heap.size w3 w5:=belowThen hb4 hb5
      obtain ⟨w6,hw6⟩:∃ w6,w5.setCell ⟨w3.heap.size,3,none⟩ (.string z)=w6:=⟨_,rfl⟩
      have hb36:Below w3.heap.size w3 w6:=by rw [<-hw6];exact hb35.setCell (p:=⟨w3.heap.size,3,none⟩) (Nat.le_refl _) _
      have hk6:w6.heap[w3.heap.size]?=some (.cells #[.string y1,.string y2,.slice qA qn qc,.string z] 203 (0,0)):=by
        rw [<-hw6];simp [World.setCell,Array.getElem?_modify,hk5]
      obtain ⟨m0,m1,m2,m3,_,_,_,_⟩:=res4 hk6
      have hbr6:Below wr.heap.size wr w6:=belowThen hB3 hb36
      have hown6:=hown.out.kept hbr6
      have hqo6:POwn (Z+2) (.slice qA qn qc) (L.params.map Li.canP) w6:=(hqo'.out.kept hb36).less (by simp;omega)
      have hB6:Below wB.heap.size wB w6:=belowThen hbw1 hbr6
      have sz6:Z+2<=w6.heap.size:=Nat.le_trans (Nat.le_trans hszB2 hszr) hbr6.size
      have hz':=Lib.hid hz
      have hown6':=Lib.hid hown6
      have hqo6':=Lib.hid hqo6
      have hB6':=Lib.hid hB6
      clear hz hk4 hb4 hb5 hk5 hb35 hb36 hk6 hbr6 hown6 hqo6 hB6 cA2 hown
      go_wp2_with (at_builtin;refine append_line (can1 L) y1 y2 z (.slice qA qn qc) ?i1 ?i2 ?i3 ⟨_,_,_,rfl⟩ rfl _ _ rfl (Z+2) _ _ w6.heap.size rfl rfl rfl hown6'.out ?i4 ?i5 sz6 ?_)
      case i1=>rw [hcan'.out];show Li.sv (Ch.up L.group)=_;rw [<-hyy.out.1];exact Li.sv_data _
      case i2=>rw [hcan'.out];show Li.sv (Ch.up L.name)=_;rw [<-hyy.out.2];exact Li.sv_data _
      case i3=>rw [hcan'.out];show Li.sv x=_;rw [<-hz'.out];exact Li.sv_data _
      case i4=>rw [hcan'.out];exact hqo6'.out
      case i5=>rw [hkl'.out];omega
      intro v7 w7 hown7 hleft7
      have hB7:Below wB.heap.size wB w7:=hleft7 _ _ hB6'.out (by omega) (by omega)
      have hown7':=Lib.hid hown7
      have hB7':=Lib.hid hB7
      clear hown7 hleft7 hB7
      go_wp2
      go_roundw
      case rel=>exact ⟨k+1,by go_num,by omega,Lib.hid (by rw [htk'.out];have q:=hown7'.out;rw [<-List.map_take] at q;exact q),hB7'.out⟩
      case measure=>simp [RowKit.intOf];omega
    · obtain rfl:k=n:=by omega
      have htk:Ls.take k=Ls:=List.take_of_length_le (by have:=hn'.out;omega)
      have hown2:=hown.out
      rw [htk] at hown2
      have hne2:Ls.map can1≠[]:=fun e=>hS'.out.ne (List.map_eq_nil_iff.1 e)
      have hnm2:∀ M∈Ls.map can1,M.name≠[]:=fun M hM=>by
        obtain ⟨L,hL,rfl⟩:=List.mem_map.1 hM
        exact up_ne (hS'.out.nm L hL)
      have hlm:(Ls.map can1).length=k:=by rw [List.length_map];exact hn'.out
      -- the closure's box
      have hbox:Below wr.heap.size wr (wr.alloc (.cells #[.func (.func 167) #[] #[]] 230)):=(Below.refl _ _).alloc (Nat.le_refl _) _
      obtain ⟨gb,cap,ps,rfl,hgB,hgl,hpl,hH,hend⟩:=(hown2.kept hbox).sorts hne2 hnm2
      rw [hlm] at hpl hend ⊢
      have hcl:(wr.alloc (.cells #[.func (.func 167) #[] #[]] 230)).cell? ⟨wr.heap.size,0,none⟩=some (.func (.func 167) #[] #[]):=by simp
      obtain ⟨wS,hwS⟩:∃ wS,wr.alloc (.cells #[.func (.func 167) #[] #[]] 230)=wS:=⟨_,rfl⟩
      have hgr:gb < wr.heap.size:=by
        have:=(hown2.kept (Below.refl _ _))
        obtain ⟨vs,_,hrow,_⟩:=this
        exact (hrow.lt gb rfl).2
      rw [hwS] at hbox hgl hH hend hcl
      have R:RowK encL 4 wS gb 0 ps.toArray:=⟨encL_len,fun x v hv=>by simp [encL] at hv;rcases hv with rfl | rfl | rfl | rfl<;>rfl,hH,hgl⟩
      have hclt:wr.heap.size < wS.heap.size:=by rw [<-hwS];simp
      have H:SrtR Tryz.prog 4 encL keyV cfL 169 #[.pointer (some ⟨wr.heap.size,0,none⟩)] gb 0 k ps.toArray wS :=
        ⟨R,by simpa using hpl,cmpLays_any (d0:=ps.toArray) hcl hclt (by omega),fun x y=>cmp_lt _ _,enters_of Tryz.func169 (by kernel_rfl) rfl,by omega⟩
      have cS:=sort_srt srtP H cap wS ps hpl hlen (SWK.start hH)
      have hres2:wr.heap[Z+1]?=some (.cells #[.slice none 0 0] 143 (0,0)):=(hbw1.block _ (by omega)).trans hres'.out
      have hBS:Below wB.heap.size wB wS:=belowThen hbw1 hbox
      have szS:Z+2<=wS.heap.size:=by omega
      have hfin:∀ W qs,SWK encL 4 wS gb 0 qs.toArray W->Sorted keyV qs->Same keyV qs ps->qs.length=k->LsOwn (Z+2) (.slice (some ⟨gb,0,none⟩) k cap) (srt (Ls.map can1)) W/\Below wB.heap.size wB W:=fun W qs q1 q2 q3 q4=>by
        obtain ⟨o1,o2⟩:=hend W qs q1 q2 q3 q4
        exact ⟨o1,o2 _ _ hBS (by omega) (by omega)⟩
      have hfin':=Lib.hid hfin
      clear hown hown2 hH hend R H hpl hBS htk hne2 hnm2 hlm hbox hcl hfin
      go_wp2_with fail
      go_at_call 168
      refine cS.mono ?_
      rintro e wT ⟨rfl,qs,q2,q3,q4,q1⟩
      obtain ⟨o1,o2⟩:=hfin'.out wT qs q1 q2 q3 q4
      have hresT:wT.heap[Z+1]?=some (.cells #[.slice none 0 0] 143 (0,0)):=(o2.block _ (by omega)).trans hres'.out
      have hb1:wT.cell? ⟨Z+1,0,none⟩=some (.slice none 0 0):=by rw [Lib.cell_of_heap hresT];rfl
      have hf1:wT.frozen? ⟨Z+1,0,none⟩=false:=Lib.frozen_of_heap hresT 0
      have o3:LsOwn w.heap.size (.slice (some ⟨gb,0,none⟩) k cap) (srt (Ls.map can1)) (wT.setCell ⟨Z+1,0,none⟩ (.slice (some ⟨gb,0,none⟩) k cap)):=by
        exact (o1.stored (a:=⟨Z+1,0,none⟩) (by show Z+1 < Z+2;omega) _).less (by rw [hZ'.out];omega)
      have o4:Below w.heap.size w (wT.setCell ⟨Z+1,0,none⟩ (.slice (some ⟨gb,0,none⟩) k cap)):=by
        rw [hZ'.out]
        exact (B0.trans (o2.mono (by omega))).setCell (p:=⟨Z+1,0,none⟩) (by show Z<=Z+1;omega) _
      have o3':=Lib.hid o3
      have o4':=Lib.hid o4
      clear cS hfin' q1 q2 q3 q4 o1 o2 o3 o4
      go_wp2
      exact bodyPost_ret (v:=.agg #[.slice (some ⟨gb,0,none⟩) k cap]) (by simp [results,Tryz.results145,go_sem,hb1]) rfl ⟨⟨_,rfl,o3'.out⟩,o4'.out⟩
end Ca
namespace Ca
open Go.Lib Go.RowKit
open Li (LD PD sv LineAt PrmsAt LOwn pr parse)
def LinesP (B:Nat) (rows:List Row) (e:Ending) (w':World):Prop :=
  (∃ n:Nat,lnF [] rows=(n,[])/\n≠0/\n < 100/\e=.returned (.tuple #[.slice none 0 0,.int .i64 (n:Int)]))\/
  ∃ (v:Value) (Ls:List LD),lnF [] rows=(0,Ls)/\AllP rows Ls/\e=.returned (.tuple #[v,.int .i64 0])/\LsOwn B v Ls w'
theorem parseLines_any (v:Value) (rows:List Row) (w:World) (h:Li.StrsAt w v rows) (hs:∀ r∈rows,r.length<=1099511627776) (hn0:rows.length<=1099511627776) (hT:Ch.Tabs w) :
    Calls Tryz.prog 113 #[v] w fun e w'=>LinesP w.heap.size rows e w'/\Below w.heap.size w w':=by
  obtain ⟨A,b,off,c,rfl,h1,h2,h3,h4⟩:=h
  obtain ⟨n,hn⟩:∃ n,rows.length=n:=⟨_,rfl⟩
  rw [hn] at h1 h3 hn0 ⊢
  unfold maxLen at h2
  have hn':=Lib.hid hn
  have h3':=Lib.hid h3
  have h4':=Lib.hid h4
  have hs':=Lib.hid hs
  have hT':=Lib.hid hT
  clear hn h3 h4 hs hT
  go_enter Tryz.func113,Tryz.ntmps113
  go_wp2
  go_loopw [4,11] (fun s4 s11 wr=>∃ (k:Nat) (Ls:List LD),s11=.int .i64 (k:Int)/\k<=n/\Hid (LsOwn w.heap.size s4 Ls wr/\AllP (rows.take k) Ls/\lnF [] rows=lnF Ls (rows.drop k))/\Below w.heap.size w wr) (fun s4 s11 wr=>n - (RowKit.intOf s11).toNat)
  case atStart=>exact ⟨0,[],rfl,Nat.zero_le _,Lib.hid ⟨LsOwn.nil _ _,⟨by simp,fun i h=>by simp at h⟩,rfl⟩,Below.refl _ _⟩
  case round =>
    obtain ⟨k,Ls,rfl,hk,hR,hbw⟩:=hrel
    by_cases hlt:k < n
    · have hlk:k < rows.length:=by have:=hn'.out;omega
      have hl:rows[k]?=some rows[k]:=List.getElem?_eq_getElem _
      obtain ⟨r,hle⟩:∃ r,rows[k]=r:=⟨_,rfl⟩
      have hmem:r∈rows:=by rw [<-hle];exact List.getElem_mem _
      rw [hle] at hl
      obtain ⟨rfl,hg⟩:=h3'.out (by omega)
      have hcell:=h4'.out k r hl
      rw [<-hbw.cell (p:=⟨b,off+k,none⟩) hg] at hcell
      obtain ⟨x,ex,hx⟩:=Li.sv_some r
      rw [ex] at hcell
      have hxs:x.size<=1099511627776:=by rw [Lib.size_eq,hx];exact hs'.out r hmem
      have cP:=fun W (hW:Ch.Tabs W)=>Li.parse_any x W hW hxs
      rw [hx] at cP
      have hTr:=Ch.tabs_below hT'.out hbw
      have hdr:rows.drop k=r :: rows.drop (k+1):=by rw [List.drop_eq_getElem_cons hlk,hle]
      have htk:rows.take (k+1)=rows.take k++[r]:=by rw [List.take_succ_eq_append_getElem hlk,hle]
      have hdr':=Lib.hid hdr
      have htk':=Lib.hid htk
      have cP':=Lib.hid (cP wr hTr)
      clear hl hle hmem ex hx hdr htk hlk cP hTr
      go_wp2_with fail
      go_at_call 139
      refine cP'.out.mono ?_
      rintro e w3 ⟨hp,hb3⟩
      have hB3:=belowThen hbw hb3
      rcases hp with ⟨m,p1,p2,p3,rfl⟩ | ⟨L,u,p1,rfl,p2⟩
      · have HO:=Lib.hid ((hR.out.2.2.trans (by rw [hdr'.out])).trans (lnF_bad p1))
        have d0:¬ (m:Int)=0:=by omega
        have d0':((m:Int)==0)=false:=beq_eq_false_iff_ne.2 d0
        have d1:=Lib.hid (And.intro p2 p3)
        have B4:=Lib.hid (hB3.alloc (by have:=hB3.size;omega) (.cells #[.string ⟨#[]⟩,.string ⟨#[]⟩,.slice none 0 0,.string ⟨#[]⟩] 203))
        clear p1 hR hb3 hB3 hbw cP' p2 p3
        go_wp2
        go_ret2
        exact ⟨.inl ⟨m,HO.out,d1.out.1,d1.out.2,rfl⟩,B4.out⟩
      · obtain ⟨q1,q2,q3⟩:=hR.out
        rw [hdr'.out,lnF_ok p1] at q3
        obtain ⟨qv,hu,hqo⟩:=p2
        obtain ⟨y1,ey1,hy1⟩:=Li.sv_some L.group
        obtain ⟨y2,ey2,hy2⟩:=Li.sv_some L.name
        obtain ⟨y4,ey4,hy4⟩:=Li.sv_some L.value
        rw [ey1,ey2,ey4] at hu
        subst hu
        obtain ⟨qA,qn,qc,rfl⟩:∃ A n c,qv=.slice A n c:=by obtain ⟨A,_,_,c,h,_⟩:=hqo.at;exact ⟨A,_,c,h⟩
        have hbx:Below w3.heap.size w3 (w3.alloc (.cells #[.string y1,.string y2,.slice qA qn qc,.string y4] 203)):=(Below.refl _ _).alloc (Nat.le_refl _) _
        have hbr:Below wr.heap.size wr (w3.alloc (.cells #[.string y1,.string y2,.slice qA qn qc,.string y4] 203)):=belowThen hb3 hbx
        obtain ⟨w4,hw4⟩:∃ w4,w3.alloc (.cells #[.string y1,.string y2,.slice qA qn qc,.string y4] 203)=w4:=⟨_,rfl⟩
        have hk4:w4.heap[w3.heap.size]?=some (.cells #[.string y1,.string y2,.slice qA qn qc,.string y4] 203 (0,0)):=by rw [<-hw4];exact heap_alloc_new w3 _
        obtain ⟨m0,m1,m2,m3,_,_,_,_⟩:=Li.res4 hk4
        rw [hw4] at hbx hbr
        have hown4:=Lib.hid (q1.kept hbr)
        have hqo4:=Lib.hid ((hqo.kept hbx).less hbw.size)
        have hB4:=Lib.hid (belowThen hB3 hbx)
        have sz4:w.heap.size<=w4.heap.size:=hB4.out.size
        have hnx:=Lib.hid (And.intro (AllP.snoc q2 p1) q3)
        have hkl:Ls.length<=1099511627776:=by have:=q2.1;rw [List.length_take] at this;omega
        have hee:=Lib.hid (And.intro ey1 (And.intro ey2 ey4))
        clear p1 hR hb3 hB3 cP' hqo ey1 ey2 ey4 hy1 hy2 hy4 hbx hbr hk4 q1 q2 q3
        go_wp2_with (at_builtin;refine append_line L y1 y2 y4 (.slice qA qn qc) hee.out.1 hee.out.2.1 hee.out.2.2 ⟨_,_,_,rfl⟩ rfl _ _ rfl w.heap.size _ _ w4.heap.size rfl rfl rfl hown4.out hqo4.out hkl sz4 ?_)
        intro v7 w7 hown7 hleft7
        have hB7:Below w.heap.size w w7:=hleft7 _ _ hB4.out (Nat.le_refl _) sz4
        have hown7':=Lib.hid (And.intro hown7 (And.intro (by rw [htk'.out];exact hnx.out.1:AllP (rows.take (k+1)) (Ls++[L])) hnx.out.2))
        have hB7':=Lib.hid hB7
        clear hown7 hleft7 hB7
        go_wp2
        go_roundw
        case rel=>exact ⟨k+1,Ls++[L],by go_num,by omega,hown7',hB7'.out⟩
        case measure=>simp [RowKit.intOf];omega
    · obtain rfl:k=n:=by omega
      obtain ⟨q1,q2,q3⟩:=hR.out
      rw [List.drop_eq_nil_of_le (by have:=hn'.out;omega)] at q3
      rw [List.take_of_length_le (by have:=hn'.out;omega)] at q2
      have HO:=Lib.hid (And.intro q1 (And.intro q2 q3))
      clear hR q1 q2 q3
      go_wp2
      go_ret2
      exact ⟨.inr ⟨_,Ls,HO.out.2.2,HO.out.2.1,rfl,HO.out.1⟩,hbw⟩
open Li (LD PD sv LineAt PrmsAt LOwn pr parse)
theorem getD_some {rows:List Row} {i:Nat} {r:Row} (h:rows[i]?=some r):rows.getD i []=r:=by rw [List.getD_eq_getElem?_getD,h];rfl
theorem framed_any (v:Value) (rows:List Row) (w:World) (h:Li.StrsAt w v rows) (hs:∀ r∈rows,r.length<=1099511627776) (hn0:rows.length<=1099511627776) :
    Calls Tryz.prog 114 #[v] w fun e w'=>e=.returned (.bool (framedR rows))/\Below w.heap.size w w':=by
  obtain ⟨A,b,off,c,rfl,h1,h2,h3,h4⟩:=h
  obtain ⟨n,hn⟩:∃ n,rows.length=n:=⟨_,rfl⟩
  rw [hn] at h1 h3 hn0 ⊢
  unfold maxLen at h2
  have hf:framedR rows=(decide (3<=n) && ((Ch.low (rows.getD 0 [])==Ch.low bBegin) && ((Ch.low (rows.getD 1 [])==Ch.low bVersion) && (Ch.low (rows.getD (n - 1) [])==Ch.low bEnd)))):=by unfold framedR;rw [hn]
  by_cases h30:3<=n
  · have h3z:(3:Int)<=(n:Int):=by omega
    obtain ⟨rfl,hg⟩:=h3 (by omega)
    have g:∀ i,i < n->∃ x:ByteArray,rows.getD i []=x.data.toList/\x.size<=1099511627776/\w.cell? ⟨b,off+i,none⟩=some (.string x):=fun i hi=>by
      have hl:rows[i]?=some (rows[i]'(by omega)):=List.getElem?_eq_getElem _
      obtain ⟨x,ex,hx⟩:=Li.sv_some (rows[i]'(by omega))
      exact ⟨x,by rw [getD_some hl,hx],by rw [Lib.size_eq,hx];exact hs _ (List.getElem_mem _),by rw [h4 i _ hl,ex]⟩
    obtain ⟨x0,e0,s0,q0⟩:=g 0 (by omega)
    obtain ⟨x1,e1,s1,q1⟩:=g 1 (by omega)
    obtain ⟨x2,e2,s2,q2⟩:=g (n - 1) (by omega)
    have c0:=fun W=>Ch.same_any x0 ⟨#[66,69,71,73,78,58,86,67,65,82,68]⟩ W (by omega) (by decide)
    have c1:=fun W=>Ch.same_any x1 ⟨#[86,69,82,83,73,79,78,58,52,46,48]⟩ W (by omega) (by decide)
    have c2:=fun W=>Ch.same_any x2 ⟨#[69,78,68,58,86,67,65,82,68]⟩ W (by omega) (by decide)
    rw [show (⟨#[66,69,71,73,78,58,86,67,65,82,68]⟩:ByteArray).data.toList=bBegin from rfl,<-e0] at c0
    rw [show (⟨#[86,69,82,83,73,79,78,58,52,46,48]⟩:ByteArray).data.toList=bVersion from rfl,<-e1] at c1
    rw [show (⟨#[69,78,68,58,86,67,65,82,68]⟩:ByteArray).data.toList=bEnd from rfl,<-e2] at c2
    rw [decide_eq_true h30] at hf
    obtain ⟨t0,ht0⟩:∃ t,(Ch.low (rows.getD 0 [])==Ch.low bBegin)=t:=⟨_,rfl⟩
    obtain ⟨t1,ht1⟩:∃ t,(Ch.low (rows.getD 1 [])==Ch.low bVersion)=t:=⟨_,rfl⟩
    obtain ⟨t2,ht2⟩:∃ t,(Ch.low (rows.getD (n - 1) [])==Ch.low bEnd)=t:=⟨_,rfl⟩
    rw [ht0,ht1,ht2] at hf
    rw [ht0] at c0
    rw [ht1] at c1
    rw [ht2] at c2
    obtain ⟨m,hm⟩:∃ m:Nat,m=n - 1:=⟨_,rfl⟩
    rw [<-hm] at q2
    have em:(n:Int) - 1=(m:Int):=by omega
    have b0:(0:Int) < (n:Int):=by omega
    have b1:(1:Int) < (n:Int):=by omega
    have b2:(m:Int) < (n:Int):=by omega
    have rm:IntKind.i64.wrap (m:Int)=(m:Int):=by rw [IntKind.wrap_i64];omega
    rw [Nat.add_zero] at q0
    have k0:∀ W,Below w.heap.size w W->W.cell? ⟨b,off,none⟩=some (.string x0):=fun W h=>(h.cell (p:=⟨b,off,none⟩) hg).trans q0
    have k1:∀ W,Below w.heap.size w W->W.cell? ⟨b,off+1,none⟩=some (.string x1):=fun W h=>(h.cell (p:=⟨b,off+1,none⟩) hg).trans q1
    have k2:∀ W,Below w.heap.size w W->W.cell? ⟨b,off+m,none⟩=some (.string x2):=fun W h=>(h.cell (p:=⟨b,off+m,none⟩) hg).trans q2
    have k1':=Lib.hid k1
    have k2':=Lib.hid k2
    clear h3 h4 hs g e0 e1 e2 ht0 ht1 ht2 hm hn k1 k2 k0
    cases t0
    · have HF:=Lib.hid (hf.trans (by rfl):framedR rows=false)
      clear hf
      go_enter Tryz.func114,Tryz.ntmps114
      go_wp2_with fail
      go_at_call 140
      refine (c0 _).mono ?_
      rintro e w1 ⟨rfl,hb1⟩
      go_wp2
      go_ret
      exact ⟨by rw [HF.out]<;>rfl,hb1⟩
    · cases t1
      · have HF:=Lib.hid (hf.trans (by rfl):framedR rows=false)
        clear hf
        go_enter Tryz.func114,Tryz.ntmps114
        go_wp2_with fail
        go_at_call 140
        refine (c0 _).mono ?_
        rintro e w1 ⟨rfl,hb1⟩
        have p1:=k1'.out w1 hb1
        go_wp2_with fail
        go_at_call 140
        refine (c1 _).mono ?_
        rintro e w2 ⟨rfl,hb2⟩
        go_wp2
        go_ret
        exact ⟨by rw [HF.out]<;>rfl,belowThen hb1 hb2⟩
      · have HF:=Lib.hid (hf.trans (by simp):framedR rows=t2)
        clear hf
        go_enter Tryz.func114,Tryz.ntmps114
        go_wp2_with fail
        go_at_call 140
        refine (c0 _).mono ?_
        rintro e w1 ⟨rfl,hb1⟩
        have p1:=k1'.out w1 hb1
        go_wp2_with fail
        go_at_call 140
        refine (c1 _).mono ?_
        rintro e w2 ⟨rfl,hb2⟩
        have hB2:=belowThen hb1 hb2
        have p2:=k2'.out w2 hB2
        go_wp2_with fail
        go_at_call 140
        refine (c2 _).mono ?_
        rintro e w3 ⟨rfl,hb3⟩
        go_wp2
        go_ret
        exact ⟨by rw [HF.out]<;>rfl,belowThen hB2 hb3⟩
  · have h3z:¬ (3:Int)<=(n:Int):=by omega
    have HF:=Lib.hid (hf.trans (by rw [decide_eq_false h30];rfl):framedR rows=false)
    clear hf hn h3 h4 hs
    go_enter Tryz.func114,Tryz.ntmps114
    go_wp2
    go_ret
    exact ⟨by rw [HF.out]<;>rfl,Below.refl _ _⟩
end Ca
namespace Fo
open Go.Lib Go.RowKit
theorem below_then {a b c:World} (h1:Below a.heap.size a b) (h2:Below b.heap.size b c):Below a.heap.size a c:=h1.trans (h2.mono h1.size)
theorem below_drewN {a w:World} (n:Nat) (h:Below a.heap.size a w):Below a.heap.size a (w.drewN n):=⟨h.os,h.tape,h.output,h.size,h.block⟩
theorem blank_any (x:UInt8) (w:World):Calls Tryz.prog 155 #[.int .u8 (x.toNat:Int)] w fun e w'=>e=.returned (.bool (bl x))/\w=w':=by
  unfold bl
  generalize x.toNat=v
  by_cases c1:v=32
  · have d1:((v:Int)==32)=true:=by simp;omega
    rw [decide_eq_true (.inl c1)]
    clear c1
    go_enter Tryz.func155,Tryz.ntmps155
    go_wp2
    go_ret
    exact ⟨rfl,rfl⟩
  · have d1:((v:Int)==32)=false:=by simp;omega
    by_cases c2:v=9
    · have d2:((v:Int)==9)=true:=by simp;omega
      rw [decide_eq_true (.inr c2)]
      clear c1 c2
      go_enter Tryz.func155,Tryz.ntmps155
      go_wp2
      go_ret
      exact ⟨rfl,rfl⟩
    · have d2:((v:Int)==9)=false:=by simp;omega
      rw [decide_eq_false (by omega)]
      clear c1 c2
      go_enter Tryz.func155,Tryz.ntmps155
      go_wp2
      go_ret
      exact ⟨rfl,rfl⟩
def CutP (t:ByteArray) (e:Ending):Prop :=
  (10∉t.data.toList/\e=.returned (.tuple #[.string t,.string ⟨#[]⟩,.bool false]))\/
  ∃ a r:ByteArray,10∉a.data.toList/\t.data.toList=a.data.toList++10 :: r.data.toList/\e=.returned (.tuple #[.string a,.string r,.bool true])
theorem byte_at (l:List UInt8) (c:UInt8):(indexByte l c=-1/\c∉l)\/∃ k:Nat,indexByte l c=k/\k < l.length/\c∉l.take k/\l=l.take k++c :: l.drop (k+1):=by
  have hge:=indexByte_ge l c
  by_cases h:indexByte l c=-1
  · left
    refine ⟨h,fun hm=>?_⟩
    obtain ⟨k,hk⟩:=List.mem_iff_getElem?.1 hm
    exact indexByte_none h k hk
  · right
    obtain ⟨k,hk⟩:∃ k:Nat,indexByte l c=k:=⟨(indexByte l c).toNat,by omega⟩
    obtain ⟨h1,h2⟩:=indexByte_some hk
    obtain ⟨hlt,hv⟩:=List.getElem?_eq_some_iff.1 h1
    refine ⟨k,hk,hlt,fun hm=>?_,?_⟩
    · obtain ⟨j,hj⟩:=List.mem_iff_getElem?.1 hm
      rw [List.getElem?_take] at hj
      split at hj
      · exact h2 j ‹_› hj
      · cases hj
    · conv=>lhs;rw [<-List.take_append_drop k l,List.drop_eq_getElem_cons hlt,hv]
theorem cutLite_any (t:ByteArray) (w:World) (hs:t.size<=140737488355328) :
    Calls Tryz.prog 49 #[.string t,.string ⟨#[10]⟩] w fun e w'=>CutP t e/\Below w.heap.size w w':=by
  have cI:=fun W=>Tryz.stringslite_Index_one t 10 W
  rcases byte_at t.data.toList 10 with ⟨h1,h2⟩ | ⟨k,h1,h2,h3,h4⟩
  · rw [h1] at cI
    have hfin:CutP t (.returned (.tuple #[.string t,.string ⟨#[]⟩,.bool false])):=.inl ⟨h2,rfl⟩
    clear h1 h2
    have hfin':=Lib.hid hfin
    clear hfin
    go_enter Tryz.func49,Tryz.ntmps49
    go_wp2_with (go_at_call 74;refine (cI _).mono ?_;rintro e w' ⟨rfl,rfl⟩)
    go_ret3
    exact ⟨hfin'.out,Below.refl _ _⟩
  · rw [h1] at cI
    rw [<-Lib.size_eq] at h2
    have e1:(t.extract 0 k).data.toList=t.data.toList.take k:=by rw [Lib.extract_data];rfl
    have e2:(t.extract (k+1) t.size).data.toList=t.data.toList.drop (k+1):=Lib.extract_to_end t (k+1)
    have hfin:CutP t (.returned (.tuple #[.string (t.extract 0 k),.string (t.extract (k+1) t.size),.bool true])) :=
      .inr ⟨_,_,by rw [e1];exact h3,by rw [e1,e2];exact h4,rfl⟩
    clear h1 h3 h4 e1 e2
    have hfin':=Lib.hid hfin
    clear hfin
    have hw:IntKind.i64.wrap ((k:Int)+1)=(k:Int)+1:=IntWalk.i64_in _ (by omega)
    go_enter Tryz.func49,Tryz.ntmps49
    go_wp2_with (go_at_call 74;refine (cI _).mono ?_;rintro e w' ⟨rfl,rfl⟩)
    go_quiet (fail)
    go_wp2
    go_ret3
    exact ⟨hfin'.out,below_drewN _ (Below.refl _ _)⟩
theorem cut_any (t:ByteArray) (w:World) (hs:t.size<=140737488355328) :
    Calls Tryz.prog 23 #[.string t,.string ⟨#[10]⟩] w fun e w'=>CutP t e/\Below w.heap.size w w':=by
  go_enter Tryz.func23,Tryz.ntmps23
  go_wp2_with fail
  go_at_call 49
  refine (cutLite_any t w hs).mono ?_
  rintro e w1 ⟨hc,hb⟩
  rcases hc with ⟨h1,rfl⟩ | ⟨a,r,h1,h2,rfl⟩
  · have hfin:CutP t (.returned (.tuple #[.string t,.string ⟨#[]⟩,.bool false])):=.inl ⟨h1,rfl⟩
    have hfin':=Lib.hid hfin
    clear hfin h1
    go_wp2
    go_ret3
    exact ⟨hfin'.out,hb⟩
  · have hfin:CutP t (.returned (.tuple #[.string a,.string r,.bool true])):=.inr ⟨a,r,h1,h2,rfl⟩
    have hfin':=Lib.hid hfin
    clear hfin h1 h2
    go_wp2
    go_ret3
    exact ⟨hfin'.out,hb⟩
theorem trim_any (s:ByteArray) (w:World) (hs:s.size<=9223372036854775807) :
    Calls Tryz.prog 186 #[.string s,.string ⟨#[13]⟩] w fun e w'=>(∃ r:ByteArray,r.data.toList=stripR s.data.toList/\e=.returned (.string r))/\w=w' :=
  (Tryz.strings_TrimSuffix s ⟨#[13]⟩ w hs).mono fun e w' ⟨h1,h2⟩=>⟨⟨_,by simp [stripR],h1⟩,h2.symm⟩
theorem has13_any (s:ByteArray) (v:Bool) (w:World) (hv:s.data.toList.contains 13=v) :
    Calls Tryz.prog 187 #[.string s,.string ⟨#[13]⟩] w fun e w'=>e=.returned (.bool v)/\w=w' :=
  (Tryz.strings_Contains_one s 13 w).mono fun e w' ⟨h1,h2⟩=>⟨by
    rw [h1,<-hv]
    rcases byte_at s.data.toList 13 with ⟨g1,g2⟩ | ⟨k,g1,g2,_,g4⟩
    · rw [g1]
      have:s.data.toList.contains 13=false:=by simpa using g2
      rw [this];rfl
    · rw [g1]
      have:s.data.toList.contains 13=true:=by rw [g4];simp
      rw [this,decide_eq_true (by omega)],h2.symm⟩
def CutRowP (t:ByteArray) (e:Ending):Prop :=
  (e=.returned (.tuple #[.string ⟨#[]⟩,.string ⟨#[]⟩,.bool false])/\∀ out,R out t.data.toList=none)\/
  ∃ a r row:ByteArray,10∉a.data.toList/\t.data.toList=a.data.toList++10 :: r.data.toList/\row.data.toList=stripR a.data.toList/\okRow row.data.toList=true/\e=.returned (.tuple #[.string row,.string r,.bool true])
theorem nonempty_of (s:ByteArray) (h:s.data.toList≠[]):s.toList.isEmpty=false:=by
  rw [Lib.toList_data]
  cases h':s.data.toList with
  | nil=>exact absurd h' h
  | cons _ _=>rfl
theorem empty_of (s:ByteArray) (h:s.data.toList=[]):s.toList.isEmpty=true:=by rw [Lib.toList_data,h];rfl
theorem cutRow_any (t:ByteArray) (w:World) (hs:t.size<=140737488355328) (hne:t.data.toList≠[]) :
    Calls Tryz.prog 154 #[.string t] w fun e w'=>CutRowP t e/\Below w.heap.size w w':=by
  have hne':=Lib.hid hne
  clear hne
  go_enter Tryz.func154,Tryz.ntmps154
  go_wp2_with fail
  go_at_call 23
  refine (cut_any t w hs).mono ?_
  rintro e w1 ⟨hc,hb⟩
  rcases hc with ⟨h1,rfl⟩ | ⟨a,r,h1,h2,rfl⟩
  · have hfin:CutRowP t (.returned (.tuple #[.string ⟨#[]⟩,.string ⟨#[]⟩,.bool false])):=.inl ⟨rfl,fun out=>R_free out _ h1 hne'.out⟩
    have hfin':=Lib.hid hfin
    clear hfin h1
    go_wp2_with fail
    go_at_call 186
    refine (trim_any t w1 (by omega)).mono ?_
    rintro e w2 ⟨⟨row,hr,rfl⟩,rfl⟩
    clear hr
    go_wp2
    go_ret3
    exact ⟨hfin'.out,hb⟩
  · have hbad:(okRow (stripR a.data.toList)=false)->CutRowP t (.returned (.tuple #[.string ⟨#[]⟩,.string ⟨#[]⟩,.bool false])):=fun h =>
      .inl ⟨rfl,fun out=>by rw [h2,R_cut out _ _ h1,gstep_bad out _ h];rfl⟩
    have hgood:∀ row:ByteArray,row.data.toList=stripR a.data.toList->okRow row.data.toList=true->CutRowP t (.returned (.tuple #[.string row,.string r,.bool true])):=fun row hr hk =>
      .inr ⟨a,r,row,h1,h2,hr,hk,rfl⟩
    have ha:a.size<=9223372036854775807:=by
      have:t.data.toList.length=a.data.toList.length+(r.data.toList.length+1):=by rw [h2];simp
      rw [<-Lib.size_eq,<-Lib.size_eq] at this
      omega
    have hbad':=Lib.hid hbad
    have hgood':=Lib.hid hgood
    clear hbad hgood h1 h2
    go_wp2_with fail
    go_at_call 186
    refine (trim_any a w1 ha).mono ?_
    rintro e w2 ⟨⟨row,hr,rfl⟩,rfl⟩
    by_cases h0:row.data.toList=[]
    · have hfin:=hbad'.out (by rw [<-hr,h0];rfl)
      have he:=empty_of row h0
      have he2:(!row.toList.isEmpty)=false:=by rw [he];rfl
      have hfin':=Lib.hid hfin
      clear hfin h0 hr
      go_wp2
      go_ret3
      exact ⟨hfin'.out,hb⟩
    · have he:=nonempty_of row h0
      cases hv:row.data.toList.contains 13
      · have hfin:=hgood'.out row hr (by unfold okRow;rw [hv];rw [Lib.toList_data] at he;rw [he];rfl)
        have hfin':=Lib.hid hfin
        have c13:=fun W=>has13_any row false W hv
        clear hfin h0 hr hv
        go_wp2_with (go_at_call 187;refine (c13 _).mono ?_;rintro e w' ⟨rfl,rfl⟩)
        go_ret3
        exact ⟨hfin'.out,hb⟩
      · have hfin:=hbad'.out (by rw [<-hr];unfold okRow;rw [hv];simp)
        have hfin':=Lib.hid hfin
        have c13:=fun W=>has13_any row true W hv
        clear hfin h0 hr hv
        go_wp2_with (go_at_call 187;refine (c13 _).mono ?_;rintro e w' ⟨rfl,rfl⟩)
        go_ret3
        exact ⟨hfin'.out,hb⟩
end Fo
end Go.Proofs.YtobfaibofhmpgaaGreatDoor
