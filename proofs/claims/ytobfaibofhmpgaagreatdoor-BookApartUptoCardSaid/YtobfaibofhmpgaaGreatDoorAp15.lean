import Derived.Test.YtobfaibofhmpgaaGreatDoorAp14
import Derived.Laws.EntriesVeiled
set_option linter.unusedVariables false
set_option maxHeartbeats 16000000
set_option maxRecDepth 100000
namespace Go.Proofs.YtobfaibofhmpgaaGreatDoor.Li
open Go.Lib Go.RowKit Bu
structure SmallL (L:LD):Prop where
  group:L.group.length<=9223372036854775807
  name:L.name.length<=9223372036854775807
  value:L.value.length<=9223372036854775807
  params:Small L.params
theorem chk_30 {L:LD} (h:badN L=true):chk L=30:=by unfold chk;rw [if_pos h]
theorem chk_31 {L:LD} (h:badN L=false) (h2:badF L=true):chk L=31:=by unfold chk;rw [h,if_neg (by decide),if_pos h2]
theorem chk_10 {L:LD} (h:badN L=false) (h2:badF L=false) (h3:badT L=true):chk L=10:=by unfold chk;rw [h,h2,if_neg (by decide),if_neg (by decide),if_pos h3]
theorem chk_0 {L:LD} (h:badN L=false) (h2:badF L=false) (h3:badT L=false):chk L=0:=by unfold chk;rw [h,h2,h3];rfl
def ChkP (L:LD) (e:Ending):Prop:=e=.returned (.int .i64 (chk L:Int))
theorem ChkP.of {L:LD} {n:Nat} (h:chk L=n):ChkP L (.returned (.int .i64 (n:Int))):=by unfold ChkP;rw [h]
theorem check_any (v:Value) (L:LD) (w:World) (hv:LineAt w v L) (hS:SmallL L) (hT:Ch.Tabs w) :
    Calls Tryz.prog 198 #[v] w fun e w'=>ChkP L e/\Below w.heap.size w w':=by
  obtain ⟨pv,rfl,hP⟩:=hv
  have hpf:∃ A c,pv=.slice A L.params.length c:=by obtain ⟨A,b,o,c,h,_⟩:=hP;exact ⟨A,c,h⟩
  obtain ⟨A,c,rfl⟩:=hpf
  obtain ⟨n,hn⟩:∃ n,L.params.length=n:=⟨_,rfl⟩
  rw [hn] at hP ⊢
  clear hn
  unfold sv
  obtain ⟨a1,ha1⟩:∃ a:ByteArray,(⟨L.group.toArray⟩:ByteArray)=a:=⟨_,rfl⟩
  obtain ⟨a2,ha2⟩:∃ a:ByteArray,(⟨L.name.toArray⟩:ByteArray)=a:=⟨_,rfl⟩
  obtain ⟨a4,ha4⟩:∃ a:ByteArray,(⟨L.value.toArray⟩:ByteArray)=a:=⟨_,rfl⟩
  have d1:a1.data.toList=L.group:=by rw [<-ha1]
  have d2:a2.data.toList=L.name:=by rw [<-ha2]
  have d4:a4.data.toList=L.value:=by rw [<-ha4]
  rw [ha1,ha2,ha4]
  clear ha1 ha2 ha4
  have n1:=fun W=>name_any a1 W (by rw [Lib.size_eq,d1];exact hS.group)
  have n2:=fun W=>name_any a2 W (by rw [Lib.size_eq,d2];exact hS.name)
  rw [d1] at n1
  rw [d2] at n2
  obtain ⟨wA,hwA⟩:∃ wA,(w.alloc (.cells #[.string a1,.string a2,.slice A n c,.string a4] 203)).alloc (.cells #[.func (.func 224) #[] #[]] 115)=wA:=⟨_,rfl⟩
  have hbA:Below w.heap.size w wA:=by rw [<-hwA];exact ((Below.refl _ _).alloc (Nat.le_refl _) _).alloc (by simp) _
  have hkA:wA.heap[w.heap.size]?=some (.cells #[.string a1,.string a2,.slice A n c,.string a4] 203 (0,0)):=by
    rw [<-hwA,Below.heap_alloc _ _ _ (by simp)]
    exact heap_alloc_new w _
  have hoA:wA.heap[w.heap.size+1]?=some (.cells #[.func (.func 224) #[] #[]] 115 (0,0)):=by
    rw [<-hwA]
    have:=heap_alloc_new (w.alloc (.cells #[.string a1,.string a2,.slice A n c,.string a4] 203)) (.cells #[.func (.func 224) #[] #[]] 115)
    simpa using this
  have hzA:w.heap.size+1 < wA.heap.size:=(Array.getElem?_eq_some_iff.1 hoA).1
  have hF:∀ W,Below wA.heap.size wA W->W.cell? ⟨w.heap.size,0,none⟩=some (.string a1)/\W.cell? ⟨w.heap.size,1,none⟩=some (.string a2)/\W.cell? ⟨w.heap.size,2,none⟩=some (.slice A n c)/\W.cell? ⟨w.heap.size,3,none⟩=some (.string a4)/\
      W.cell? ⟨w.heap.size+1,0,none⟩=some (.func (.func 224) #[] #[])/\w.heap.size+1 < W.heap.size/\Below w.heap.size w W:=fun W hW=>by
    have hk:=(hW.block w.heap.size (by omega)).trans hkA
    have ho:=(hW.block (w.heap.size+1) hzA).trans hoA
    obtain ⟨c0,c1,c2,c3,_⟩:=res4 hk
    exact ⟨c0,c1,c2,c3,by rw [Lib.cell_of_heap ho];rfl,Nat.lt_of_lt_of_le hzA hW.size,hbA.trans (hW.mono hbA.size)⟩
  have cU:∀ W,Below wA.heap.size wA W->Calls Tryz.prog 227 #[.slice A n c,.func (.func 221) #[] #[]] W fun e w'=>e=.returned (.bool (L.params.any fun p=>!nameB p.name))/\Below W.heap.size W w':=fun W hW =>
    containsFuncP 221 #[] _ L.params _ W (enters_of Tryz.func221 (by kernel_rfl) rfl) (hP.kept (hF W hW).2.2.2.2.2.2) (unnamed_is _ hS.params W)
  have cN:∀ W,Below wA.heap.size wA W->Calls Tryz.prog 227 #[.slice A n c,.func (.func 223) #[] #[]] W fun e w'=>e=.returned (.bool (badF L))/\Below W.heap.size W w':=fun W hW =>
    containsFuncP 223 #[] _ L.params _ W (enters_of Tryz.func223 (by kernel_rfl) rfl) (hP.kept (hF W hW).2.2.2.2.2.2) (unvalued_is _ W)
  have cO:∀ W,Below wA.heap.size wA W->Calls Tryz.prog 227 #[.slice A n c,.func (.func 225) #[] #[.pointer (some ⟨w.heap.size+1,0,none⟩)]] W fun e w'=>e=.returned (.bool (L.params.any fun p=>p.vals.any fun v=>!okV v))/\Below W.heap.size W w':=fun W hW =>
    containsFuncP 225 _ _ L.params _ W (enters_of Tryz.func225 (by kernel_rfl) rfl) (hP.kept (hF W hW).2.2.2.2.2.2) (oddly_is _ hS.params _ W (hF W hW).2.2.2.2.2.1 (hF W hW).2.2.2.2.1 (Ch.tabs_below hT (hF W hW).2.2.2.2.2.2))
  have cT:∀ W,Below wA.heap.size wA W->Calls Tryz.prog 157 #[.string a4,.string ⟨#[13,10]⟩] W fun e w'=>e=.returned (.bool (okT L.value))/\Below W.heap.size W w':=fun W hW=>by
    have:=plainT_any a4 W (Ch.tabs_below hT (hF W hW).2.2.2.2.2.2) (by rw [Lib.size_eq,d4];exact hS.value)
    rwa [d4] at this
  have hbadN:badN L=((!L.group.isEmpty && !nameB L.group) || !nameB L.name || L.params.any fun p=>!nameB p.name):=rfl
  have hbadT:badT L=(!okT L.value || L.params.any fun p=>p.vals.any fun v=>!okV v):=rfl
  have f30:=fun h=>ChkP.of (chk_30 (L:=L) h)
  have f31:=fun h h2=>ChkP.of (chk_31 (L:=L) h h2)
  have f10:=fun h h2 h3=>ChkP.of (chk_10 (L:=L) h h2 h3)
  have f0:=fun h h2 h3=>ChkP.of (chk_0 (L:=L) h h2 h3)
  have hE:(L.group.isEmpty=true/\a1.toList.isEmpty=true)\/(L.group.isEmpty=false/\a1.toList.isEmpty=false):=by
    by_cases h:L.group=[]
    · exact .inl ⟨by rw [h];rfl,empty_of a1 (by rw [d1,h])⟩
    · exact .inr ⟨List.isEmpty_eq_false_iff.2 h,nonempty_of a1 (by rw [d1];exact h)⟩
  generalize ChkP L=Fin at f30 f31 f10 f0 ⊢
  generalize badN L=bN at hbadN f30 f31 f10 f0
  generalize badF L=bF at f31 f10 f0 cN
  generalize badT L=bT at hbadT f10 f0
  generalize (L.params.any fun p=>!nameB p.name)=U at cU hbadN
  generalize (L.params.any fun p=>p.vals.any fun v=>!okV v)=O at cO hbadT
  generalize nameB L.group=G at n1 hbadN
  generalize nameB L.name=N at n2 hbadN
  generalize okT L.value=T at cT hbadT
  generalize L.group.isEmpty=E at hE hbadN
  have hF':=Lib.hid hF
  have f30':=Lib.hid f30
  have f31':=Lib.hid f31
  have f10':=Lib.hid f10
  have f0':=Lib.hid f0
  have hbN:=Lib.hid hbadN
  have hbT:=Lib.hid hbadT
  have cU':=Lib.hid cU
  have cN':=Lib.hid cN
  have cO':=Lib.hid cO
  have cT':=Lib.hid cT
  have hwA':=Lib.hid hwA
  clear hF f30 f31 f10 f0 hbadN hbadT cU cN cO cT hP hT hS d1 d2 d4 hkA hoA hzA hwA
  have hend:∀ W,Below wA.heap.size wA W->Below w.heap.size w W:=fun W hW=>(hF'.out W hW).2.2.2.2.2.2
  have hend':=Lib.hid hend
  clear hend
  rcases hE with ⟨rfl,he⟩ | ⟨rfl,he⟩
  · go_enter Tryz.func198,Tryz.ntmps198
    go_wp2_with fail
    go_at_call 222
    refine (n2 _).mono ?_
    rintro e W ⟨rfl,hb⟩
    rw [hwA'.out] at hb
    cases N
    · have hf:=Lib.hid (f30'.out (by rw [hbN.out];simp))
      go_wp2
      go_ret
      exact ⟨hf.out,hend'.out _ hb⟩
    · obtain ⟨k0,k1,k2,k3,k4,kz,_⟩:=hF'.out W hb
      go_wp2_with fail
      go_at_call 227
      refine (cU'.out _ hb).mono ?_
      rintro e W1 ⟨rfl,hb1⟩
      replace hb1:=below_then hb hb1
      clear k0 k1 k2 k3 k4 kz hb
      cases U
      · have hbn:bN=false:=by rw [hbN.out];simp
        subst hbn
        obtain ⟨k0,k1,k2,k3,k4,kz,_⟩:=hF'.out W1 hb1
        go_wp2_with fail
        go_at_call 227
        refine (cN'.out _ hb1).mono ?_
        rintro e W2 ⟨rfl,hb2⟩
        replace hb2:=below_then hb1 hb2
        clear k0 k1 k2 k3 k4 kz hb1
        cases bF
        · obtain ⟨k0,k1,k2,k3,k4,kz,_⟩:=hF'.out W2 hb2
          go_wp2_with fail
          go_at_call 157
          refine (cT'.out _ hb2).mono ?_
          rintro e W3 ⟨rfl,hb3⟩
          replace hb3:=below_then hb2 hb3
          clear k0 k1 k2 k3 k4 kz hb2
          cases T
          · have hf:=Lib.hid (f10'.out (by simp) (by simp) (by rw [hbT.out];simp))
            go_wp2
            go_ret
            exact ⟨hf.out,hend'.out _ hb3⟩
          · obtain ⟨k0,k1,k2,k3,k4,kz,_⟩:=hF'.out W3 hb3
            go_wp2_with fail
            go_at_call 227
            refine (cO'.out _ hb3).mono ?_
            rintro e W4 ⟨rfl,hb4⟩
            replace hb4:=below_then hb3 hb4
            clear k0 k1 k2 k3 k4 kz hb3
            cases O
            · have hf:=Lib.hid (f0'.out (by simp) (by simp) (by rw [hbT.out];simp))
              go_wp2
              go_ret
              exact ⟨hf.out,hend'.out _ hb4⟩
            · have hf:=Lib.hid (f10'.out (by simp) (by simp) (by rw [hbT.out];simp))
              go_wp2
              go_ret
              exact ⟨hf.out,hend'.out _ hb4⟩
        · have hf:=Lib.hid (f31'.out (by simp) (by simp))
          go_wp2
          go_ret
          exact ⟨hf.out,hend'.out _ hb2⟩
      · have hf:=Lib.hid (f30'.out (by rw [hbN.out];simp))
        go_wp2
        go_ret
        exact ⟨hf.out,hend'.out _ hb1⟩
  · cases G
    · go_enter Tryz.func198,Tryz.ntmps198
      go_wp2_with fail
      go_at_call 222
      refine (n1 _).mono ?_
      rintro e W ⟨rfl,hb⟩
      rw [hwA'.out] at hb
      have hf:=Lib.hid (f30'.out (by rw [hbN.out];simp))
      go_wp2
      go_ret
      exact ⟨hf.out,hend'.out _ hb⟩
    · go_enter Tryz.func198,Tryz.ntmps198
      go_wp2_with fail
      go_at_call 222
      refine (n1 _).mono ?_
      rintro e W0 ⟨rfl,hb0⟩
      rw [hwA'.out] at hb0
      obtain ⟨k0,k1,k2,k3,k4,kz,_⟩:=hF'.out W0 hb0
      go_wp2_with fail
      go_at_call 222
      refine (n2 _).mono ?_
      rintro e W ⟨rfl,hb⟩
      replace hb:=below_then hb0 hb
      clear k0 k1 k2 k3 k4 kz hb0
      cases N
      · have hf:=Lib.hid (f30'.out (by rw [hbN.out];simp))
        go_wp2
        go_ret
        exact ⟨hf.out,hend'.out _ hb⟩
      · obtain ⟨k0,k1,k2,k3,k4,kz,_⟩:=hF'.out W hb
        go_wp2_with fail
        go_at_call 227
        refine (cU'.out _ hb).mono ?_
        rintro e W1 ⟨rfl,hb1⟩
        replace hb1:=below_then hb hb1
        clear k0 k1 k2 k3 k4 kz hb
        cases U
        · have hbn:bN=false:=by rw [hbN.out];simp
          subst hbn
          obtain ⟨k0,k1,k2,k3,k4,kz,_⟩:=hF'.out W1 hb1
          go_wp2_with fail
          go_at_call 227
          refine (cN'.out _ hb1).mono ?_
          rintro e W2 ⟨rfl,hb2⟩
          replace hb2:=below_then hb1 hb2
          clear k0 k1 k2 k3 k4 kz hb1
          cases bF
          · obtain ⟨k0,k1,k2,k3,k4,kz,_⟩:=hF'.out W2 hb2
            go_wp2_with fail
            go_at_call 157
            refine (cT'.out _ hb2).mono ?_
            rintro e W3 ⟨rfl,hb3⟩
            replace hb3:=below_then hb2 hb3
            clear k0 k1 k2 k3 k4 kz hb2
            cases T
            · have hf:=Lib.hid (f10'.out (by simp) (by simp) (by rw [hbT.out];simp))
              go_wp2
              go_ret
              exact ⟨hf.out,hend'.out _ hb3⟩
            · obtain ⟨k0,k1,k2,k3,k4,kz,_⟩:=hF'.out W3 hb3
              go_wp2_with fail
              go_at_call 227
              refine (cO'.out _ hb3).mono ?_
              rintro e W4 ⟨rfl,hb4⟩
              replace hb4:=below_then hb3 hb4
              clear k0 k1 k2 k3 k4 kz hb3
              cases O
              · have hf:=Lib.hid (f0'.out (by simp) (by simp) (by rw [hbT.out];simp))
                go_wp2
                go_ret
                exact ⟨hf.out,hend'.out _ hb4⟩
              · have hf:=Lib.hid (f10'.out (by simp) (by simp) (by rw [hbT.out];simp))
                go_wp2
                go_ret
                exact ⟨hf.out,hend'.out _ hb4⟩
          · have hf:=Lib.hid (f31'.out (by simp) (by simp))
            go_wp2
            go_ret
            exact ⟨hf.out,hend'.out _ hb2⟩
        · have hf:=Lib.hid (f30'.out (by rw [hbN.out];simp))
          go_wp2
          go_ret
          exact ⟨hf.out,hend'.out _ hb1⟩
def markAt (m:UInt8) (k:Nat):UInt8:=if k=0 then m else 44
theorem wvs_snoc:∀ (vs:List Row) (m:UInt8) (v:Row),wvs m (vs++[v])=wvs m vs++(markAt m vs.length :: wval v)
  | [],m,v=>by simp [wvs,markAt]
  | u :: vs,m,v=>by
    have:=wvs_snoc vs 44 v
    rw [List.cons_append,wvs,this,wvs]
    simp [markAt]
theorem wvs_take (vs:List Row) (m:UInt8) (k:Nat) (v:Row) (h:vs[k]?=some v):wvs m (vs.take (k+1))=wvs m (vs.take k)++(markAt m k :: wval v):=by
  obtain ⟨hl,hv⟩:=List.getElem?_eq_some_iff.1 h
  rw [List.take_succ_eq_append_getElem hl,hv,wvs_snoc,List.length_take,Nat.min_eq_left (by omega)]
theorem wvs_le:∀ (a b:List Row) (m:UInt8),(wvs m a).length<=(wvs m (a++b)).length
  | [],b,m=>by simp [wvs]
  | v :: a,b,m=>by
    have:=wvs_le a b 44
    rw [List.cons_append,wvs,wvs]
    simp only [List.length_cons,List.length_append]
    omega
theorem wvs_take_le (vs:List Row) (m:UInt8) (k:Nat):(wvs m (vs.take k)).length<=(wvs m vs).length:=by
  have:=wvs_le (vs.take k) (vs.drop k) m
  rwa [List.take_append_drop] at this
theorem writeParam_any (w0:World) (B b:Nat) (l:Row) (nm:ByteArray) (vv:Value) (vs:List Row) (w:World) (h:Bd B b l w) (hs0:StrsAt w0 vv vs) (hw0:Below w0.heap.size w0 w) (hB0:w0.heap.size<=B)
    (hlen:l.length+(wprm ⟨nm.data.toList,vs⟩).length<=140737488355328) (hBw:B<=w.heap.size) (hvs:∀ v∈vs,v.length<=9223372036854775807) :
    Calls Tryz.prog 199 #[.pointer (some ⟨b,0,none⟩),.agg #[.string nm,vv]] w fun e w'=>e=.returned (.tuple #[])/\Bd B b (l++wprm ⟨nm.data.toList,vs⟩) w'/\Below B w w'/\KeptT w w':=by
  obtain ⟨A,g,o,c,rfl,h1,h2,h3,h4⟩:=hs0
  have hwp:wprm ⟨nm.data.toList,vs⟩=59 :: (nm.data.toList++wvs 61 vs):=rfl
  have hwl:(wprm ⟨nm.data.toList,vs⟩).length=1+nm.size+(wvs 61 vs).length:=by rw [hwp,List.length_cons,List.length_append,<-Lib.size_eq];omega
  obtain ⟨n,hn⟩:∃ n,vs.length=n:=⟨_,rfl⟩
  rw [hn] at h1 h3 ⊢
  have hal:Below w.heap.size w (w.alloc (.cells #[.string nm,.slice A n c] 246)):=(Below.refl _ _).alloc (Nat.le_refl _) _
  have hbox:=heap_alloc_new w (.cells #[.string nm,.slice A n c] 246)
  have hbd0:=h.kept hal
  have hB1:Below B w (w.alloc (.cells #[.string nm,.slice A n c] 246)):=hal.mono hBw
  have hk1:=KeptT.of_below hal
  have cB:=byte_full B b l 59 (w.alloc (.cells #[.string nm,.slice A n c] 246)) hbd0 (by omega) (by simp;omega)
  have hl2:(l++[59]).length+nm.size<=140737488355328:=by rw [List.length_append,List.length_singleton];omega
  have hbase:∀ x,(l++[59]++nm.data.toList).length=l.length+1+nm.size+x - x:=fun x=>by rw [List.length_append,List.length_append,List.length_singleton,<-Lib.size_eq];omega
  have hstep:∀ (k:Nat) (v:Row),vs[k]?=some v->(l++[59]++nm.data.toList++wvs 61 (vs.take k)).length+1<=140737488355328/\
      ((l++[59]++nm.data.toList++wvs 61 (vs.take k))++[markAt 61 k]).length+(wval v).length<=140737488355328/\
      ((l++[59]++nm.data.toList++wvs 61 (vs.take k))++[markAt 61 k])++wval v=l++[59]++nm.data.toList++wvs 61 (vs.take (k+1)):=fun k v hv=>by
    have e:=wvs_take vs 61 k v hv
    have e2:=wvs_take_le vs 61 (k+1)
    have e3:=hbase 0
    rw [e,List.length_append,List.length_cons] at e2
    refine ⟨by rw [List.length_append];omega,by rw [List.length_append,List.length_append,List.length_singleton];omega,by rw [e];simp⟩
  have hfin:l++[59]++nm.data.toList++wvs 61 vs=l++wprm ⟨nm.data.toList,vs⟩:=by rw [hwp];simp
  have hstep':=Lib.hid hstep
  have hfin':=Lib.hid hfin
  have hn':=Lib.hid hn
  have h3':=Lib.hid h3
  have h4':=Lib.hid h4
  have hvs':=Lib.hid hvs
  have hbox':=Lib.hid hbox
  unfold maxLen at h2
  clear hwp hwl hn h3 h4 hstep hfin hbase hvs hbox h hbd0 hlen
  go_enter Tryz.func199,Tryz.ntmps199
  go_wp2_with fail
  go_at_call 81
  refine cB.mono ?_
  rintro e w1 ⟨rfl,hbd1,hb1,ht1⟩
  have hx1:=ht1 _ _ _ _ hbox'.out (by decide) (by decide)
  have hB2:=hB1.trans hb1
  have hT2:=hk1.trans ht1
  have p0:w1.cell? ⟨w.heap.size,0,none⟩=some (.string nm):=by rw [Lib.cell_of_heap hx1];rfl
  have hx1':=Lib.hid hx1
  have hBw1:B<=w1.heap.size:=Nat.le_trans hBw hB2.size
  have cW:=write_full B b _ nm w1 hbd1 hl2 hBw1
  clear cB hb1 ht1 hx1 hB1 hk1 hal hbd1
  go_wp2_with fail
  go_at_call 156
  refine cW.mono ?_
  rintro e w2 ⟨rfl,hbd2,hb2,ht2⟩
  have hx2:=ht2 _ _ _ _ hx1'.out (by decide) (by decide)
  have hB3:=hB2.trans hb2
  have hT3:=hT2.trans ht2
  have p1:w2.cell? ⟨w.heap.size,1,none⟩=some (.slice A n c):=by rw [Lib.cell_of_heap hx2];rfl
  have hBw2:B<=w2.heap.size:=Nat.le_trans hBw hB3.size
  have hT3':=Lib.hid hT3
  clear cW hb2 ht2 hx2 hB2 hT2 p0 hT3
  go_wp2
  go_loopw [4,16] (fun s4 s16 wr=>∃ k:Nat,s16=.int .i64 (k:Int)/\s4=.int .u8 ((markAt 61 k).toNat:Int)/\k<=n/\Bd B b (l++[59]++nm.data.toList++wvs 61 (vs.take k)) wr/\Below B w wr/\KeptT w wr) (fun s4 s16 wr=>n - (RowKit.intOf s16).toNat)
  case atStart=>exact ⟨0,rfl,rfl,Nat.zero_le _,by simpa [wvs] using hbd2,hB3,hT3'.out⟩
  case round =>
    obtain ⟨k,rfl,rfl,hk,hbd,hbw,hkt⟩:=hrel
    have hBr:B<=wr.heap.size:=Nat.le_trans hBw hbw.size
    have hkt':=Lib.hid hkt
    clear hkt
    obtain ⟨m,hm⟩:∃ m,markAt 61 k=m:=⟨_,rfl⟩
    have hstepk:=hstep'.out k
    rw [hm] at hstepk ⊢
    have hm':=Lib.hid hm
    clear hm
    by_cases hlt:k < n
    · have hv:vs[k]?=some (vs[k]'(by have:=hn'.out;omega)):=List.getElem?_eq_getElem _
      obtain ⟨V,hV⟩:∃ V,vs[k]'(by have:=hn'.out;omega)=V:=⟨_,rfl⟩
      rw [hV] at hv
      have hVm:V.length<=9223372036854775807:=hvs'.out V (by rw [<-hV];exact List.getElem_mem _)
      obtain ⟨rfl,hg⟩:=h3'.out (by omega)
      have hc:=h4'.out k V hv
      have hwr0:Below w0.heap.size w0 wr:=hw0.trans (hbw.mono hB0)
      rw [<-hwr0.cell (p:=⟨g,o+k,none⟩) hg] at hc
      obtain ⟨x,hx⟩:∃ x:ByteArray,(⟨V.toArray⟩:ByteArray)=x:=⟨_,rfl⟩
      have hxd:x.data.toList=V:=by rw [<-hx]
      unfold sv at hc
      rw [hx] at hc
      obtain ⟨s1,s2,s3⟩:=hstepk V hv
      have cB:=byte_full B b _ m wr hbd s1 hBr
      have hwval:∀ W,Bd B b ((l++[59]++nm.data.toList++wvs 61 (vs.take k))++[m]) W->B<=W.heap.size->Calls Tryz.prog 228 #[.pointer (some ⟨b,0,none⟩),.string x] W fun e w'=>e=.returned (.tuple #[])/\Bd B b (l++[59]++nm.data.toList++wvs 61 (vs.take (k+1))) w'/\Below B W w'/\KeptT W w':=fun W hW hBW=>by
        have:=writeValue_any B b _ x W hW (by rw [hxd];exact s2) hBW (by rw [Lib.size_eq,hxd];exact hVm)
        rw [hxd,s3] at this
        exact this
      have hwval':=Lib.hid hwval
      clear hv hV hVm hg hwr0 hx hxd s1 s2 s3 hwval hstepk
      go_wp2_with fail
      go_at_call 81
      refine cB.mono ?_
      rintro e w3 ⟨rfl,hbd3,hb3,ht3⟩
      have hB4:=hbw.trans hb3
      have hT4:=Lib.hid (hkt'.out.trans ht3)
      have cV:=hwval'.out w3 hbd3 (Nat.le_trans hBw hB4.size)
      clear cB hb3 ht3 hbd3
      go_wp2_with fail
      go_at_call 228
      refine cV.mono ?_
      rintro e w4 ⟨rfl,hbd4,hb4,ht4⟩
      clear cV
      go_wp2
      go_roundw
      case rel=>exact ⟨k+1,by go_num,rfl,by omega,hbd4,hB4.trans hb4,hT4.out.trans ht4⟩
      case measure=>simp [RowKit.intOf];omega
    · rw [List.take_of_length_le (by have:=hn'.out;omega),hfin'.out] at hbd
      clear hstepk
      go_wp2
      go_end0
      exact ⟨rfl,hbd,hbw,hkt'.out⟩
def PrintP (L:LD) (e:Ending):Prop :=
  (chk L≠0/\e=.returned (.tuple #[.string ⟨#[]⟩,.int .i64 (chk L:Int)]))\/
  (chk L=0/\∃ s:ByteArray,s.data.toList=pr L/\e=.returned (.tuple #[.string s,.int .i64 0]))
theorem wprms_take (ps:List PD) (k:Nat) (p:PD) (h:ps[k]?=some p):wprms (ps.take (k+1))=wprms (ps.take k)++wprm p:=by
  obtain ⟨hl,hv⟩:=List.getElem?_eq_some_iff.1 h
  rw [List.take_succ_eq_append_getElem hl,hv]
  simp [wprms]
theorem wprms_append (a b:List PD):wprms (a++b)=wprms a++wprms b:=by simp [wprms]
theorem wprms_take_le (ps:List PD) (k:Nat):(wprms (ps.take k)).length<=(wprms ps).length:=by
  have:=congrArg List.length (wprms_append (ps.take k) (ps.drop k))
  rw [List.take_append_drop,List.length_append] at this
  omega
theorem StrsAt.form {w:World} {v:Value} {ls:List Row} (h:StrsAt w v ls):∃ A c,v=.slice A ls.length c:=by
  obtain ⟨A,b,o,c,h,_⟩:=h
  exact ⟨A,c,h⟩
structure Lens (acc:Row) (L:LD):Prop where
  name:acc.length+L.name.length<=140737488355328
  prm:∀ (k:Nat) (p:PD),L.params[k]?=some p->(acc++L.name++wprms (L.params.take k)).length+(wprm p).length<=140737488355328
  colon:(acc++L.name++wprms L.params).length+1<=140737488355328
  value:(acc++L.name++wprms L.params++[58]).length+L.value.length<=140737488355328
  fin:acc++L.name++wprms L.params++[58]++L.value=pr L
theorem Lens.of {acc:Row} {L:LD} (h:acc++L.name++(wprms L.params++58 :: L.value)=pr L) (hl:(pr L).length<=140737488355328):Lens acc L:=by
  rw [<-h] at hl
  simp only [List.length_append,List.length_cons] at hl
  refine ⟨by omega,fun k p hp=>?_,by simp only [List.length_append];omega,by simp only [List.length_append,List.length_singleton];omega,by rw [<-h];simp⟩
  have h1:=wprms_take L.params k p hp
  have h2:=wprms_take_le L.params (k+1)
  rw [h1,List.length_append] at h2
  simp only [List.length_append]
  omega
theorem print_any (v:Value) (L:LD) (w:World) (hv:LineAt w v L) (hS:SmallL L) (hlen:(pr L).length<=140737488355328) (hT:Ch.Tabs w) :
    Calls Tryz.prog 165 #[v] w fun e w'=>PrintP L e/\Below w.heap.size w w':=by
  have hbad:∀ m:Nat,chk L=m->m≠0->PrintP L (.returned (.tuple #[.string ⟨#[]⟩,.int .i64 (m:Int)])):=fun m h h0=>.inl ⟨by rw [h];exact h0,by rw [h]⟩
  have hgood:chk L=0->∀ s:ByteArray,s.data.toList=pr L->PrintP L (.returned (.tuple #[.string s,.int .i64 0])):=fun h s hs=>.inr ⟨h,s,hs,rfl⟩
  have hcond:∀ w',Below w.heap.size w w'->LineAt w' v L:=fun w' h=>hv.kept h
  obtain ⟨pv,rfl,A,b,o,c,rfl,h1,h2,h3,h4⟩:=hv
  have hprl:pr L=(if L.group=[] then L.name else L.group++46 :: L.name)++(wprms L.params++58 :: L.value):=rfl
  obtain ⟨n,hn⟩:∃ n,L.params.length=n:=⟨_,rfl⟩
  rw [hn] at h1 h3 hcond ⊢
  unfold sv at hcond
  unfold sv
  obtain ⟨a1,ha1⟩:∃ a:ByteArray,(⟨L.group.toArray⟩:ByteArray)=a:=⟨_,rfl⟩
  obtain ⟨a2,ha2⟩:∃ a:ByteArray,(⟨L.name.toArray⟩:ByteArray)=a:=⟨_,rfl⟩
  obtain ⟨a4,ha4⟩:∃ a:ByteArray,(⟨L.value.toArray⟩:ByteArray)=a:=⟨_,rfl⟩
  have d1:a1.data.toList=L.group:=by rw [<-ha1]
  have d2:a2.data.toList=L.name:=by rw [<-ha2]
  have d4:a4.data.toList=L.value:=by rw [<-ha4]
  rw [ha1,ha2,ha4] at hcond ⊢
  clear ha1 ha2 ha4
  have hal:Below w.heap.size w (w.alloc (.cells #[.string a1,.string a2,.slice A n c,.string a4] 203)):=(Below.refl _ _).alloc (Nat.le_refl _) _
  have hbox:=heap_alloc_new w (.cells #[.string a1,.string a2,.slice A n c,.string a4] 203)
  have hC:=check_any _ L _ (hcond _ hal) hS (Ch.tabs_below hT hal)
  unfold ChkP at hC
  obtain ⟨m,hm⟩:∃ m,chk L=m:=⟨_,rfl⟩
  rw [hm] at hC
  have hbox':=Lib.hid hbox
  have hbad':=Lib.hid (hbad m hm)
  have hgood':=Lib.hid hgood
  have hm':=Lib.hid hm
  have hprl':=Lib.hid hprl
  have hn':=Lib.hid hn
  have h3':=Lib.hid h3
  have h4':=Lib.hid h4
  have hS':=Lib.hid hS
  have hT':=Lib.hid hT
  have d1':=Lib.hid d1
  have d2':=Lib.hid d2
  have d4':=Lib.hid d4
  have hE:(L.group=[]/\a1.toList.isEmpty=true)\/(L.group≠[]/\a1.toList.isEmpty=false):=by
    by_cases h:L.group=[]
    · exact .inl ⟨h,empty_of a1 (by rw [d1,h])⟩
    · exact .inr ⟨h,nonempty_of a1 (by rw [d1];exact h)⟩
  have hz1:a1.size=L.group.length:=by rw [Lib.size_eq,d1]
  have hz2:a2.size=L.name.length:=by rw [Lib.size_eq,d2]
  have hz4:a4.size=L.value.length:=by rw [Lib.size_eq,d4]
  have hz1':=Lib.hid hz1
  have hz2':=Lib.hid hz2
  have hz4':=Lib.hid hz4
  unfold maxLen at h2
  clear hbad hgood hcond hprl hn hbox h3 h4 hm hS hT d1 d2 d4 hz1 hz2 hz4
  by_cases hm0:m=0
  · subst hm0
    clear hbad'
    go_enter Tryz.func165,Tryz.ntmps165
    go_wp2_with fail
    go_at_call 198
    refine hC.mono ?_
    rintro e W1 ⟨rfl,hb1⟩
    have hx1:W1.heap[w.heap.size]?=some (.cells #[.string a1,.string a2,.slice A n c,.string a4] 203 (0,0)):=(hb1.block _ (by simp)).trans hbox'.out
    have hzW:w.heap.size < W1.heap.size:=(Array.getElem?_eq_some_iff.1 hx1).1
    have hw1:Below w.heap.size w W1:=below_then hal hb1
    have hB0:Below W1.heap.size W1 (W1.alloc (.cells #[.pointer none,.slice none 0 0] 133)):=(Below.refl _ _).alloc (Nat.le_refl _) _
    have hfr:=fresh W1
    have hk0:=KeptT.of_below hB0
    have hzB:W1.heap.size<=(W1.alloc (.cells #[.pointer none,.slice none 0 0] 133)).heap.size:=by simp
    -- what holds in each later world
    have hF:∀ W,KeptT W1 W->W.cell? ⟨w.heap.size,0,none⟩=some (.string a1)/\W.cell? ⟨w.heap.size,1,none⟩=some (.string a2)/\W.cell? ⟨w.heap.size,2,none⟩=some (.slice A n c)/\W.cell? ⟨w.heap.size,3,none⟩=some (.string a4):=fun W hW=>by
      have hk:=hW _ _ _ _ hx1 (by decide) (by decide)
      obtain ⟨c0,c1,c2,c3,_⟩:=res4 hk
      exact ⟨c0,c1,c2,c3⟩
    have hF':=Lib.hid hF
    obtain ⟨k0,k1,k2,k3⟩:=hF W1 (KeptT.refl _)
    clear hC hb1 hx1 hF hal
    rcases hE with ⟨hg,he⟩ | ⟨hg,he⟩
    · have hacc:[]++L.name++(wprms L.params++58 :: L.value)=pr L:=by rw [hprl'.out,if_pos hg];simp
      obtain ⟨acc,hac⟩:∃ acc:Row,[]=acc:=⟨_,rfl⟩
      rw [hac] at hacc hfr
      have hLen:=Lens.of hacc hlen
      have hbd:=hfr
      have hB:=hB0
      have hkt:=hk0
      have hWB:=hzB
      clear hg hacc hac hfr
      go_wp2_with fail
      go_at_call 156
      have hN:=write_full W1.heap.size W1.heap.size acc a2 _ hbd (by have:=hz2'.out;have:=hLen.name;omega) hWB
      rw [d2'.out] at hN
      have hB':=Lib.hid hB
      have hkt':=Lib.hid hkt
      clear hbd hB hkt
      refine hN.mono ?_
      rintro e W4 ⟨rfl,hbd4,hb4,ht4⟩
      have hB4:Below W1.heap.size W1 W4:=hB'.out.trans hb4
      have hk4:KeptT W1 W4:=hkt'.out.trans ht4
      obtain ⟨j0,j1,j2,j3⟩:=hF'.out W4 hk4
      have hk4':=Lib.hid hk4
      clear hN hb4 ht4 hk4 j0 j1 j3
      go_wp2
      clear j2
      go_loopw [26] (fun s26 wr=>∃ k:Nat,s26=.int .i64 (k:Int)/\k<=n/\Bd W1.heap.size W1.heap.size (acc++L.name++wprms (L.params.take k)) wr/\Below W1.heap.size W1 wr/\KeptT W1 wr) (fun s26 wr=>n - (RowKit.intOf s26).toNat)
      case atStart=>exact ⟨0,rfl,Nat.zero_le _,by simpa [wprms] using hbd4,hB4,hk4'.out⟩
      case round =>
        obtain ⟨k,rfl,hk,hbd,hbw,hkt⟩:=hrel
        have hkt':=Lib.hid hkt
        clear hkt
        have hBr:W1.heap.size<=wr.heap.size:=hbw.size
        have hwr:Below w.heap.size w wr:=hw1.trans (hbw.mono (Nat.le_of_lt hzW))
        by_cases hlt:k < n
        · have hv:L.params[k]?=some (L.params[k]'(by have:=hn'.out;omega)):=List.getElem?_eq_getElem _
          obtain ⟨V,hV⟩:∃ V,L.params[k]'(by have:=hn'.out;omega)=V:=⟨_,rfl⟩
          have hVm:V∈L.params:=by rw [<-hV];exact List.getElem_mem _
          rw [hV] at hv
          obtain ⟨rfl,hg⟩:=h3'.out (by omega)
          obtain ⟨hc,u,hu,hsu⟩:=h4'.out k V hv
          rw [<-hwr.cell (p:=⟨b,o+k*2,none⟩) hg] at hc
          rw [<-hwr.cell (p:=⟨b,o+k*2+1,none⟩) hg] at hu
          have hsm:=(hS'.out.params V hVm).2
          have hp1:=hLen.prm k V hv
          have hp2:=wprms_take L.params k V hv
          obtain ⟨x,hx⟩:∃ x:ByteArray,(⟨V.name.toArray⟩:ByteArray)=x:=⟨_,rfl⟩
          have hxd:x.data.toList=V.name:=by rw [<-hx]
          unfold sv at hc
          rw [hx] at hc
          have hVe:(⟨x.data.toList,V.vals⟩:PD)=V:=by rw [hxd]
          have hal:Below wr.heap.size wr (wr.alloc (.cells #[.string x,u] 246)):=(Below.refl _ _).alloc (Nat.le_refl _) _
          have hW:=writeParam_any w W1.heap.size W1.heap.size (acc++L.name++wprms (L.params.take k)) x u V.vals (wr.alloc (.cells #[.string x,u] 246)) (hbd.kept hal) hsu (below_then hwr hal) (Nat.le_of_lt hzW) (by rw [hVe];exact hp1) (by simp;omega) hsm
          rw [hVe,List.append_assoc,<-hp2] at hW
          have hbw2:Below W1.heap.size W1 (wr.alloc (.cells #[.string x,u] 246)):=hbw.trans (hal.mono hBr)
          have hkt2:=Lib.hid (hkt'.out.trans (KeptT.of_below hal))
          obtain ⟨A2,c2,rfl⟩:=hsu.form
          obtain ⟨q,hq⟩:∃ q,V.vals.length=q:=⟨_,rfl⟩
          rw [hq] at hu hW hbw2 hkt2
          clear hv hV hVm hg hsu hsm hp1 hp2 hx hxd hVe hal hq hbd
          go_wp2_with fail
          go_at_call 199
          refine hW.mono ?_
          rintro e W5 ⟨rfl,hbd5,hb5,ht5⟩
          clear hW
          go_wp2
          go_roundw
          case rel=>exact ⟨k+1,by go_num,by omega,hbd5,hbw2.trans hb5,hkt2.out.trans ht5⟩
          case measure=>simp [RowKit.intOf];omega
        · rw [List.take_of_length_le (by have:=hn'.out;omega)] at hbd
          have hC:=byte_full W1.heap.size W1.heap.size _ 58 wr hbd hLen.colon hBr
          clear hbd
          go_wp2_with fail
          go_at_call 81
          refine hC.mono ?_
          rintro e W5 ⟨rfl,hbd5,hb5,ht5⟩
          have hB5:=hbw.trans hb5
          have hk5:=hkt'.out.trans ht5
          obtain ⟨j0,j1,j2,j3⟩:=hF'.out W5 hk5
          have hVal:=write_full W1.heap.size W1.heap.size _ a4 W5 hbd5 (by have:=hz4'.out;have:=hLen.value;omega) hB5.size
          rw [d4'.out,hLen.fin] at hVal
          clear hC hb5 ht5 hbd5 hk5
          go_wp2_with fail
          go_at_call 156
          refine hVal.mono ?_
          rintro e W6 ⟨rfl,hbd6,hb6,ht6⟩
          have hB6:=hB5.trans hb6
          clear hVal hb6 ht6 j0 j1 j2 j3
          go_wp2_with (go_at_call 82;refine (text_any W1.heap.size W1.heap.size _ _ hbd6 hB6.size).mono ?_;rintro e W7 ⟨rfl,_,hb7⟩)
          go_ret2
          exact ⟨hgood'.out hm'.out _ rfl,hw1.trans ((hB6.trans hb7).mono (Nat.le_of_lt hzW))⟩
    · have hacc:(L.group++[46])++L.name++(wprms L.params++58 :: L.value)=pr L:=by rw [hprl'.out,if_neg hg];simp
      have hlp:=congrArg List.length hacc
      simp only [List.length_append,List.length_singleton] at hlp
      have cG:=write_full W1.heap.size W1.heap.size [] a1 _ hfr (by have:=hz1'.out;simp;omega) hzB
      rw [List.nil_append,d1'.out] at cG
      have hLen:=Lens.of hacc hlen
      have hl46:L.group.length+1<=140737488355328:=by omega
      clear hg hacc hlp
      go_wp2_with fail
      go_at_call 156
      refine cG.mono ?_
      rintro e W2 ⟨rfl,hbd2,hb2,ht2⟩
      have hB2:=hB0.trans hb2
      have ht2':=hk0.trans ht2
      have c46:=byte_full W1.heap.size W1.heap.size _ 46 W2 hbd2 hl46 (Nat.le_trans hzB hb2.size)
      obtain ⟨i0,i1,i2,i3⟩:=hF'.out W2 ht2'
      clear cG hbd2 hb2 ht2
      go_wp2_with fail
      go_at_call 81
      refine c46.mono ?_
      rintro e W3 ⟨rfl,hbd,hb3,ht3⟩
      have hB:=hB2.trans hb3
      have hkt:=ht2'.trans ht3
      have hWB:=hB.size
      obtain ⟨acc,hac⟩:∃ acc:Row,L.group++[46]=acc:=⟨_,rfl⟩
      rw [hac] at hbd hLen
      clear i0 i1 i2 i3
      obtain ⟨i0,i1,i2,i3⟩:=hF'.out W3 hkt
      clear c46 hb3 ht3 hac hB2 ht2'
      go_wp2_with fail
      go_at_call 156
      have hN:=write_full W1.heap.size W1.heap.size acc a2 W3 hbd (by have:=hz2'.out;have:=hLen.name;omega) hWB
      rw [d2'.out] at hN
      have hB':=Lib.hid hB
      have hkt':=Lib.hid hkt
      clear hbd hB hkt
      refine hN.mono ?_
      rintro e W4 ⟨rfl,hbd4,hb4,ht4⟩
      have hB4:Below W1.heap.size W1 W4:=hB'.out.trans hb4
      have hk4:KeptT W1 W4:=hkt'.out.trans ht4
      obtain ⟨j0,j1,j2,j3⟩:=hF'.out W4 hk4
      have hk4':=Lib.hid hk4
      clear hN hb4 ht4 hk4 j0 j1 j3
      go_wp2
      clear j2
      go_loopw [26] (fun s26 wr=>∃ k:Nat,s26=.int .i64 (k:Int)/\k<=n/\Bd W1.heap.size W1.heap.size (acc++L.name++wprms (L.params.take k)) wr/\Below W1.heap.size W1 wr/\KeptT W1 wr) (fun s26 wr=>n - (RowKit.intOf s26).toNat)
      case atStart=>exact ⟨0,rfl,Nat.zero_le _,by simpa [wprms] using hbd4,hB4,hk4'.out⟩
      case round =>
        obtain ⟨k,rfl,hk,hbd,hbw,hkt⟩:=hrel
        have hkt':=Lib.hid hkt
        clear hkt
        have hBr:W1.heap.size<=wr.heap.size:=hbw.size
        have hwr:Below w.heap.size w wr:=hw1.trans (hbw.mono (Nat.le_of_lt hzW))
        by_cases hlt:k < n
        · have hv:L.params[k]?=some (L.params[k]'(by have:=hn'.out;omega)):=List.getElem?_eq_getElem _
          obtain ⟨V,hV⟩:∃ V,L.params[k]'(by have:=hn'.out;omega)=V:=⟨_,rfl⟩
          have hVm:V∈L.params:=by rw [<-hV];exact List.getElem_mem _
          rw [hV] at hv
          obtain ⟨rfl,hg⟩:=h3'.out (by omega)
          obtain ⟨hc,u,hu,hsu⟩:=h4'.out k V hv
          rw [<-hwr.cell (p:=⟨b,o+k*2,none⟩) hg] at hc
          rw [<-hwr.cell (p:=⟨b,o+k*2+1,none⟩) hg] at hu
          have hsm:=(hS'.out.params V hVm).2
          have hp1:=hLen.prm k V hv
          have hp2:=wprms_take L.params k V hv
          obtain ⟨x,hx⟩:∃ x:ByteArray,(⟨V.name.toArray⟩:ByteArray)=x:=⟨_,rfl⟩
          have hxd:x.data.toList=V.name:=by rw [<-hx]
          unfold sv at hc
          rw [hx] at hc
          have hVe:(⟨x.data.toList,V.vals⟩:PD)=V:=by rw [hxd]
          have hal:Below wr.heap.size wr (wr.alloc (.cells #[.string x,u] 246)):=(Below.refl _ _).alloc (Nat.le_refl _) _
          have hW:=writeParam_any w W1.heap.size W1.heap.size (acc++L.name++wprms (L.params.take k)) x u V.vals (wr.alloc (.cells #[.string x,u] 246)) (hbd.kept hal) hsu (below_then hwr hal) (Nat.le_of_lt hzW) (by rw [hVe];exact hp1) (by simp;omega) hsm
          rw [hVe,List.append_assoc,<-hp2] at hW
          have hbw2:Below W1.heap.size W1 (wr.alloc (.cells #[.string x,u] 246)):=hbw.trans (hal.mono hBr)
          have hkt2:=Lib.hid (hkt'.out.trans (KeptT.of_below hal))
          obtain ⟨A2,c2,rfl⟩:=hsu.form
          obtain ⟨q,hq⟩:∃ q,V.vals.length=q:=⟨_,rfl⟩
          rw [hq] at hu hW hbw2 hkt2
          clear hv hV hVm hg hsu hsm hp1 hp2 hx hxd hVe hal hq hbd
          go_wp2_with fail
          go_at_call 199
          refine hW.mono ?_
          rintro e W5 ⟨rfl,hbd5,hb5,ht5⟩
          clear hW
          go_wp2
          go_roundw
          case rel=>exact ⟨k+1,by go_num,by omega,hbd5,hbw2.trans hb5,hkt2.out.trans ht5⟩
          case measure=>simp [RowKit.intOf];omega
        · rw [List.take_of_length_le (by have:=hn'.out;omega)] at hbd
          have hC:=byte_full W1.heap.size W1.heap.size _ 58 wr hbd hLen.colon hBr
          clear hbd
          go_wp2_with fail
          go_at_call 81
          refine hC.mono ?_
          rintro e W5 ⟨rfl,hbd5,hb5,ht5⟩
          have hB5:=hbw.trans hb5
          have hk5:=hkt'.out.trans ht5
          obtain ⟨j0,j1,j2,j3⟩:=hF'.out W5 hk5
          have hVal:=write_full W1.heap.size W1.heap.size _ a4 W5 hbd5 (by have:=hz4'.out;have:=hLen.value;omega) hB5.size
          rw [d4'.out,hLen.fin] at hVal
          clear hC hb5 ht5 hbd5 hk5
          go_wp2_with fail
          go_at_call 156
          refine hVal.mono ?_
          rintro e W6 ⟨rfl,hbd6,hb6,ht6⟩
          have hB6:=hB5.trans hb6
          clear hVal hb6 ht6 j0 j1 j2 j3
          go_wp2_with (go_at_call 82;refine (text_any W1.heap.size W1.heap.size _ _ hbd6 hB6.size).mono ?_;rintro e W7 ⟨rfl,_,hb7⟩)
          go_ret2
          exact ⟨hgood'.out hm'.out _ rfl,hw1.trans ((hB6.trans hb7).mono (Nat.le_of_lt hzW))⟩
  · have d1:((m:Int) != 0)=true:=bne_iff_ne.2 (by omega)
    have d2:((m:Int)==0)=false:=beq_eq_false_iff_ne.2 (by omega)
    have hf:=Lib.hid (hbad'.out hm0)
    clear hE
    go_enter Tryz.func165,Tryz.ntmps165
    go_wp2_with (go_at_call 198;refine hC.mono ?_;rintro e W1 ⟨rfl,hb1⟩)
    go_ret2
    exact ⟨hf.out,below_then hal hb1⟩
end Go.Proofs.YtobfaibofhmpgaaGreatDoor.Li
