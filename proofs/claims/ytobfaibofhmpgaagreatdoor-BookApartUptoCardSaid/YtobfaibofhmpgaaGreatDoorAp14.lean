import Derived.Test.YtobfaibofhmpgaaGreatDoorAp13
import Derived.Maps.Own
import Derived.Carry
import Derived.Maps.Views
set_option linter.unusedVariables false
set_option maxRecDepth 100000
set_option maxHeartbeats 8000000
namespace Go.Proofs.YtobfaibofhmpgaaGreatDoor
namespace Ca
open Go.Lib Go.RowKit Go.Maps Go.WideMaps
theorem strKey:Keyed Tryz.prog 9:=string_keyed Tryz.underlying9
theorem zeroInt (w:World):(zeroValue 3).run Tryz.prog w=.ok (.int .i64 0) w:=by kernel_rfl
def CntAt (w:World) (b:Nat) (ns:List Row):Prop :=
  ∃ (n:Nat) (D:DataW Unit),n<=ns.length/\w.ownsMap Tryz.prog 9 (plainElem Tryz.prog 3) b n D/\∀ m:Row,D.atKey (.string m) (.lit (.int .i64 0))=.lit (.int .i64 ((ns.count m:Nat):Int))
theorem CntAt.start (w:World):CntAt (w.alloc (.map #[] 0)) w.heap.size []:=⟨0,.map [],Nat.le_refl _,World.ownsMap_made _ _ _ _,fun m=>by rfl⟩
theorem CntAt.alloc {w:World} {b:Nat} {ns:List Row} (h:CntAt w b ns) (o:Obj):CntAt (w.alloc o) b ns:=by
  obtain ⟨n,D,h1,h2,h3⟩:=h
  exact ⟨n,D,h1,h2.alloc o,h3⟩
theorem CntAt.kept {w w':World} {b:Nat} {ns:List Row} (h:CntAt w b ns) (hb:Below w.heap.size w w'):CntAt w' b ns:=by
  obtain ⟨n,D,h1,h2,h3⟩:=h
  obtain ⟨es,clock,e1,e2⟩:=h2
  exact ⟨n,D,h1,⟨es,clock,by rw [hb.block b (Array.getElem?_eq_some_iff.1 e1).1];exact e1,e2⟩,h3⟩
theorem CntAt.look {w:World} {b:Nat} {ns:List Row} (h:CntAt w b ns) (x:ByteArray) (hx:x.size<=maxLen):(Instr.lookup 206 (.map (some b)) (.string x) false).run Tryz.prog w=.ok (.int .i64 ((ns.count x.data.toList:Nat):Int)) w:=by
  obtain ⟨n,D,h1,h2,h3⟩:=h
  obtain ⟨c,hrun,hat,_⟩:=h2.lookup_int strKey Tryz.underlying206 Tryz.underlying3 (zeroInt _) (keyOf_string_mk Tryz.underlying9 hx)
  rw [h3] at hat
  injection hat with e1
  injection e1 with _ e2
  rw [e2];exact hrun
def cntOK (ns:List Row):Bool:=decide (ns.count kBEGIN=0/\ns.count kEND=0/\ns.count kVERSION=0/\ns.count kN<=1/\ns.count kUID<=1/\ns.count kKIND<=1/\ns.count kBDAY<=1/\ns.count kREV<=1/\0 < ns.count kFN)
theorem rightCount_any (b:Nat) (ns:List Row) (w:World) (h:CntAt w b ns) :
    Calls Tryz.prog 143 #[.map (some b)] w fun e w'=>e=.returned (.bool (cntOK ns))/\Below w.heap.size w w':=by
  have l1:=fun o=>(h.alloc o).look ⟨#[66,69,71,73,78]⟩ (by decide)
  have m1:=fun o1 o2=>((h.alloc o1).alloc o2).look ⟨#[66,69,71,73,78]⟩ (by decide)
  obtain ⟨n1,hn1⟩:∃ n,ns.count (⟨#[66,69,71,73,78]⟩:ByteArray).data.toList=n:=⟨_,rfl⟩
  rw [hn1] at l1 m1
  have l2:=fun o=>(h.alloc o).look ⟨#[69,78,68]⟩ (by decide)
  have m2:=fun o1 o2=>((h.alloc o1).alloc o2).look ⟨#[69,78,68]⟩ (by decide)
  obtain ⟨n2,hn2⟩:∃ n,ns.count (⟨#[69,78,68]⟩:ByteArray).data.toList=n:=⟨_,rfl⟩
  rw [hn2] at l2 m2
  have l3:=fun o=>(h.alloc o).look ⟨#[86,69,82,83,73,79,78]⟩ (by decide)
  have m3:=fun o1 o2=>((h.alloc o1).alloc o2).look ⟨#[86,69,82,83,73,79,78]⟩ (by decide)
  obtain ⟨n3,hn3⟩:∃ n,ns.count (⟨#[86,69,82,83,73,79,78]⟩:ByteArray).data.toList=n:=⟨_,rfl⟩
  rw [hn3] at l3 m3
  have l4:=fun o=>(h.alloc o).look ⟨#[78]⟩ (by decide)
  have m4:=fun o1 o2=>((h.alloc o1).alloc o2).look ⟨#[78]⟩ (by decide)
  obtain ⟨n4,hn4⟩:∃ n,ns.count (⟨#[78]⟩:ByteArray).data.toList=n:=⟨_,rfl⟩
  rw [hn4] at l4 m4
  have l5:=fun o=>(h.alloc o).look ⟨#[85,73,68]⟩ (by decide)
  have m5:=fun o1 o2=>((h.alloc o1).alloc o2).look ⟨#[85,73,68]⟩ (by decide)
  obtain ⟨n5,hn5⟩:∃ n,ns.count (⟨#[85,73,68]⟩:ByteArray).data.toList=n:=⟨_,rfl⟩
  rw [hn5] at l5 m5
  have l6:=fun o=>(h.alloc o).look ⟨#[75,73,78,68]⟩ (by decide)
  have m6:=fun o1 o2=>((h.alloc o1).alloc o2).look ⟨#[75,73,78,68]⟩ (by decide)
  obtain ⟨n6,hn6⟩:∃ n,ns.count (⟨#[75,73,78,68]⟩:ByteArray).data.toList=n:=⟨_,rfl⟩
  rw [hn6] at l6 m6
  have l7:=fun o=>(h.alloc o).look ⟨#[66,68,65,89]⟩ (by decide)
  have m7:=fun o1 o2=>((h.alloc o1).alloc o2).look ⟨#[66,68,65,89]⟩ (by decide)
  obtain ⟨n7,hn7⟩:∃ n,ns.count (⟨#[66,68,65,89]⟩:ByteArray).data.toList=n:=⟨_,rfl⟩
  rw [hn7] at l7 m7
  have l8:=fun o=>(h.alloc o).look ⟨#[82,69,86]⟩ (by decide)
  have m8:=fun o1 o2=>((h.alloc o1).alloc o2).look ⟨#[82,69,86]⟩ (by decide)
  obtain ⟨n8,hn8⟩:∃ n,ns.count (⟨#[82,69,86]⟩:ByteArray).data.toList=n:=⟨_,rfl⟩
  rw [hn8] at l8 m8
  have l9:=fun o=>(h.alloc o).look ⟨#[70,78]⟩ (by decide)
  have m9:=fun o1 o2=>((h.alloc o1).alloc o2).look ⟨#[70,78]⟩ (by decide)
  obtain ⟨n9,hn9⟩:∃ n,ns.count (⟨#[70,78]⟩:ByteArray).data.toList=n:=⟨_,rfl⟩
  rw [hn9] at l9 m9
  have hC:cntOK ns=decide (n1=0/\n2=0/\n3=0/\n4<=1/\n5<=1/\n6<=1/\n7<=1/\n8<=1/\0 < n9):=by
    rw [<-hn1,<-hn2,<-hn3,<-hn4,<-hn5,<-hn6,<-hn7,<-hn8,<-hn9];rfl
  have hb0:Below w.heap.size w w:=Below.refl _ _
  clear hn1 hn2 hn3 hn4 hn5 hn6 hn7 hn8 hn9 h
  by_cases f1:0 < n1
  · have z1:(0:Int) < (n1:Int):=by omega
    have HO:=Lib.hid (hC.trans (by exact decide_eq_false (by omega)):cntOK ns=false)
    clear hC
    go_enter Tryz.func143,Tryz.ntmps143
    go_wp2
    refine wp_loop_rounds 4 ?_
    rw [rounds_succ]
    go_wp2
    go_ret
    exact ⟨by rw [HO.out]<;>rfl,by first | exact (Below.refl _ _).alloc (Nat.le_refl _) _ | exact ((Below.refl _ _).alloc (Nat.le_refl _) _).alloc (by simp) _⟩
  have z1:¬ (0:Int) < (n1:Int):=by omega
  by_cases f2:0 < n2
  · have z2:(0:Int) < (n2:Int):=by omega
    have HO:=Lib.hid (hC.trans (by exact decide_eq_false (by omega)):cntOK ns=false)
    clear hC
    go_enter Tryz.func143,Tryz.ntmps143
    go_wp2
    refine wp_loop_rounds 4 ?_
    rw [rounds_succ]
    go_wp2
    rw [rounds_succ]
    go_wp2
    go_ret
    exact ⟨by rw [HO.out]<;>rfl,by first | exact (Below.refl _ _).alloc (Nat.le_refl _) _ | exact ((Below.refl _ _).alloc (Nat.le_refl _) _).alloc (by simp) _⟩
  have z2:¬ (0:Int) < (n2:Int):=by omega
  by_cases f3:0 < n3
  · have z3:(0:Int) < (n3:Int):=by omega
    have HO:=Lib.hid (hC.trans (by exact decide_eq_false (by omega)):cntOK ns=false)
    clear hC
    go_enter Tryz.func143,Tryz.ntmps143
    go_wp2
    refine wp_loop_rounds 4 ?_
    rw [rounds_succ]
    go_wp2
    rw [rounds_succ]
    go_wp2
    rw [rounds_succ]
    go_wp2
    go_ret
    exact ⟨by rw [HO.out]<;>rfl,by first | exact (Below.refl _ _).alloc (Nat.le_refl _) _ | exact ((Below.refl _ _).alloc (Nat.le_refl _) _).alloc (by simp) _⟩
  have z3:¬ (0:Int) < (n3:Int):=by omega
  by_cases f4:1 < n4
  · have z4:(1:Int) < (n4:Int):=by omega
    have HO:=Lib.hid (hC.trans (by exact decide_eq_false (by omega)):cntOK ns=false)
    clear hC
    go_enter Tryz.func143,Tryz.ntmps143
    go_wp2
    refine wp_loop_rounds 4 ?_
    rw [rounds_succ]
    go_wp2
    rw [rounds_succ]
    go_wp2
    rw [rounds_succ]
    go_wp2
    rw [rounds_succ]
    go_wp2
    refine wp_loop_rounds 6 ?_
    rw [rounds_succ]
    go_wp2
    go_ret
    exact ⟨by rw [HO.out]<;>rfl,by first | exact (Below.refl _ _).alloc (Nat.le_refl _) _ | exact ((Below.refl _ _).alloc (Nat.le_refl _) _).alloc (by simp) _⟩
  have z4:¬ (1:Int) < (n4:Int):=by omega
  by_cases f5:1 < n5
  · have z5:(1:Int) < (n5:Int):=by omega
    have HO:=Lib.hid (hC.trans (by exact decide_eq_false (by omega)):cntOK ns=false)
    clear hC
    go_enter Tryz.func143,Tryz.ntmps143
    go_wp2
    refine wp_loop_rounds 4 ?_
    rw [rounds_succ]
    go_wp2
    rw [rounds_succ]
    go_wp2
    rw [rounds_succ]
    go_wp2
    rw [rounds_succ]
    go_wp2
    refine wp_loop_rounds 6 ?_
    rw [rounds_succ]
    go_wp2
    rw [rounds_succ]
    go_wp2
    go_ret
    exact ⟨by rw [HO.out]<;>rfl,by first | exact (Below.refl _ _).alloc (Nat.le_refl _) _ | exact ((Below.refl _ _).alloc (Nat.le_refl _) _).alloc (by simp) _⟩
  have z5:¬ (1:Int) < (n5:Int):=by omega
  by_cases f6:1 < n6
  · have z6:(1:Int) < (n6:Int):=by omega
    have HO:=Lib.hid (hC.trans (by exact decide_eq_false (by omega)):cntOK ns=false)
    clear hC
    go_enter Tryz.func143,Tryz.ntmps143
    go_wp2
    refine wp_loop_rounds 4 ?_
    rw [rounds_succ]
    go_wp2
    rw [rounds_succ]
    go_wp2
    rw [rounds_succ]
    go_wp2
    rw [rounds_succ]
    go_wp2
    refine wp_loop_rounds 6 ?_
    rw [rounds_succ]
    go_wp2
    rw [rounds_succ]
    go_wp2
    rw [rounds_succ]
    go_wp2
    go_ret
    exact ⟨by rw [HO.out]<;>rfl,by first | exact (Below.refl _ _).alloc (Nat.le_refl _) _ | exact ((Below.refl _ _).alloc (Nat.le_refl _) _).alloc (by simp) _⟩
  have z6:¬ (1:Int) < (n6:Int):=by omega
  by_cases f7:1 < n7
  · have z7:(1:Int) < (n7:Int):=by omega
    have HO:=Lib.hid (hC.trans (by exact decide_eq_false (by omega)):cntOK ns=false)
    clear hC
    go_enter Tryz.func143,Tryz.ntmps143
    go_wp2
    refine wp_loop_rounds 4 ?_
    rw [rounds_succ]
    go_wp2
    rw [rounds_succ]
    go_wp2
    rw [rounds_succ]
    go_wp2
    rw [rounds_succ]
    go_wp2
    refine wp_loop_rounds 6 ?_
    rw [rounds_succ]
    go_wp2
    rw [rounds_succ]
    go_wp2
    rw [rounds_succ]
    go_wp2
    rw [rounds_succ]
    go_wp2
    go_ret
    exact ⟨by rw [HO.out]<;>rfl,by first | exact (Below.refl _ _).alloc (Nat.le_refl _) _ | exact ((Below.refl _ _).alloc (Nat.le_refl _) _).alloc (by simp) _⟩
  have z7:¬ (1:Int) < (n7:Int):=by omega
  by_cases f8:1 < n8
  · have z8:(1:Int) < (n8:Int):=by omega
    have HO:=Lib.hid (hC.trans (by exact decide_eq_false (by omega)):cntOK ns=false)
    clear hC
    go_enter Tryz.func143,Tryz.ntmps143
    go_wp2
    refine wp_loop_rounds 4 ?_
    rw [rounds_succ]
    go_wp2
    rw [rounds_succ]
    go_wp2
    rw [rounds_succ]
    go_wp2
    rw [rounds_succ]
    go_wp2
    refine wp_loop_rounds 6 ?_
    rw [rounds_succ]
    go_wp2
    rw [rounds_succ]
    go_wp2
    rw [rounds_succ]
    go_wp2
    rw [rounds_succ]
    go_wp2
    rw [rounds_succ]
    go_wp2
    go_ret
    exact ⟨by rw [HO.out]<;>rfl,by first | exact (Below.refl _ _).alloc (Nat.le_refl _) _ | exact ((Below.refl _ _).alloc (Nat.le_refl _) _).alloc (by simp) _⟩
  have z8:¬ (1:Int) < (n8:Int):=by omega
  by_cases f9:0 < n9
  · have z9:(0:Int) < (n9:Int):=by omega
    have HO:=Lib.hid (hC.trans (by exact decide_eq_true (by omega)):cntOK ns=true)
    clear hC
    go_enter Tryz.func143,Tryz.ntmps143
    go_wp2
    refine wp_loop_rounds 4 ?_
    rw [rounds_succ]
    go_wp2
    rw [rounds_succ]
    go_wp2
    rw [rounds_succ]
    go_wp2
    rw [rounds_succ]
    go_wp2
    refine wp_loop_rounds 6 ?_
    rw [rounds_succ]
    go_wp2
    rw [rounds_succ]
    go_wp2
    rw [rounds_succ]
    go_wp2
    rw [rounds_succ]
    go_wp2
    rw [rounds_succ]
    go_wp2
    rw [rounds_succ]
    go_wp2
    go_ret
    exact ⟨by rw [HO.out]<;>rfl,by first | exact (Below.refl _ _).alloc (Nat.le_refl _) _ | exact ((Below.refl _ _).alloc (Nat.le_refl _) _).alloc (by simp) _⟩
  · have z9:¬ (0:Int) < (n9:Int):=by omega
    have HO:=Lib.hid (hC.trans (by exact decide_eq_false (by omega)):cntOK ns=false)
    clear hC
    go_enter Tryz.func143,Tryz.ntmps143
    go_wp2
    refine wp_loop_rounds 4 ?_
    rw [rounds_succ]
    go_wp2
    rw [rounds_succ]
    go_wp2
    rw [rounds_succ]
    go_wp2
    rw [rounds_succ]
    go_wp2
    refine wp_loop_rounds 6 ?_
    rw [rounds_succ]
    go_wp2
    rw [rounds_succ]
    go_wp2
    rw [rounds_succ]
    go_wp2
    rw [rounds_succ]
    go_wp2
    rw [rounds_succ]
    go_wp2
    rw [rounds_succ]
    go_wp2
    go_ret
    exact ⟨by rw [HO.out]<;>rfl,by first | exact (Below.refl _ _).alloc (Nat.le_refl _) _ | exact ((Below.refl _ _).alloc (Nat.le_refl _) _).alloc (by simp) _⟩
open Li (LD PD sv LineAt PrmsAt)
theorem i64_wf {a:Int} (h1:-9223372036854775808<=a) (h2:a<=9223372036854775807):(Lit.int .i64 a).wf=true:=by
  have:wrap64 a=a:=by unfold wrap64;omega
  rw [<-this];exact wrap64_wf _
theorem CntAt.next {w':World} {b n:Nat} {ns:List Row} {D:DataW Unit} {m:Row} (h1:n<=ns.length) (hD:IsMap D) (h:w'.ownsMap Tryz.prog 9 (plainElem Tryz.prog 3) b (n+1) (D.put (.string m) (.lit (.int .i64 (((ns.count m:Nat):Int)+1)))))
    (h3:∀ m:Row,D.atKey (.string m) (.lit (.int .i64 0))=.lit (.int .i64 ((ns.count m:Nat):Int))):CntAt w' b (ns++[m]):=by
  refine ⟨n+1,_,by simp;omega,h,fun m'=>?_⟩
  by_cases hm:m'=m
  · subst hm
    rw [atKey_put_same hD (by trivial)]
    rw [List.count_append,List.count_singleton_self]
    rfl
  · rw [atKey_put_other (fun e=>hm (by injection e)),h3 m']
    rw [List.count_append]
    have:[m].count m'=0:=List.count_eq_zero.2 (by simpa using hm)
    rw [this];rfl
def rightB (Ls:List LD):Bool:=Ls.all (fun L=>okV (Ch.up L.name) L.value) && cntOK (Ls.map fun L=>Ch.up L.name)
theorem rightB_no {Ls:List LD} {L:LD} (h:L∈Ls) (hk:okV (Ch.up L.name) L.value=false):rightB Ls=false:=by
  unfold rightB
  have:Ls.all (fun L=>okV (Ch.up L.name) L.value)=false:=by
    rw [List.all_eq_false]
    exact ⟨L,h,by simp [hk]⟩
  rw [this];rfl
theorem rightB_all {Ls:List LD} (h:∀ L∈Ls,okV (Ch.up L.name) L.value=true):rightB Ls=cntOK (Ls.map fun L=>Ch.up L.name):=by
  unfold rightB
  have:Ls.all (fun L=>okV (Ch.up L.name) L.value)=true:=List.all_eq_true.2 h
  rw [this];rfl
theorem right_any (v:Value) (Ls:List LD) (w:World) (h:LinesAt w v Ls) (hsm:∀ L∈Ls,L.name.length<=281474976710656/\L.value.length<=268435456) (hlen:Ls.length<=1099511627776) :
    Calls Tryz.prog 115 #[.agg #[v]] w fun e w'=>e=.returned (.bool (rightB Ls))/\Below w.heap.size w w':=by
  obtain ⟨A,b,off,c,rfl,h1,h2,h3,h4⟩:=h
  obtain ⟨n,hn⟩:∃ n,Ls.length=n:=⟨_,rfl⟩
  rw [hn] at h1 h3 hlen ⊢
  unfold maxLen at h2
  have hn':=Lib.hid hn
  have h3':=Lib.hid h3
  have h4':=Lib.hid h4
  have hsm':=Lib.hid hsm
  have hmm:=@run_makeMap Tryz.prog
  have B0:Below w.heap.size w (w.alloc (.cells #[.slice A n c] 143)):=(Below.refl _ _).alloc (Nat.le_refl _) _
  clear hn h3 h4 hsm
  go_enter Tryz.func115,Tryz.ntmps115
  go_wp2
  go_loopw [11] (fun s11 wr=>∃ k:Nat,s11=.int .i64 (k:Int)/\k<=n/\CntAt wr (w.heap.size+1) ((Ls.take k).map fun L=>Ch.up L.name)/\(∀ L∈Ls.take k,okV (Ch.up L.name) L.value=true)/\Below w.heap.size w wr) (fun s11 wr=>n - (RowKit.intOf s11).toNat)
  case atStart =>
    refine ⟨0,rfl,Nat.zero_le _,?_,fun L hL=>by simp at hL,(B0.alloc (by simp) _)⟩
    have:=CntAt.start (w.alloc (.cells #[.slice A n c] 143))
    simpa using this
  case round =>
    obtain ⟨k,rfl,hk,hC,hall,hbw⟩:=hrel
    by_cases hlt:k < n
    · have hl:Ls[k]?=some (Ls[k]'(by have:=hn'.out;omega)):=List.getElem?_eq_getElem _
      obtain ⟨L,hle⟩:∃ L,Ls[k]'(by have:=hn'.out;omega)=L:=⟨_,rfl⟩
      have hmem:L∈Ls:=by rw [<-hle];exact List.getElem_mem _
      rw [hle] at hl
      obtain ⟨rfl,hg⟩:=h3'.out (by omega)
      obtain ⟨a1,a2,a4,pA,pn,pc,e1,e2,e4,hpn,hpp,g0,g1,g2,g3⟩:=LinesAt.line h4'.out hg hbw hl
      have hbx:Below wr.heap.size wr (wr.alloc (.cells #[.string a1,.string a2,.slice pA pn pc,.string a4] 203)):=(Below.refl _ _).alloc (Nat.le_refl _) _
      have d2:a2.data.toList=L.name:=by unfold sv at e2;injection e2 with e2;rw [<-e2]
      have d4:a4.data.toList=L.value:=by unfold sv at e4;injection e4 with e4;rw [<-e4]
      have hs:=hsm'.out L hmem
      have s2:a2.size<=281474976710656:=by rw [Lib.size_eq,d2];exact hs.1
      have s4:a4.size<=268435456:=by rw [Lib.size_eq,d4];exact hs.2
      have cU:=fun W=>Ch.upper_any a2 W (by omega)
      rw [d2] at cU
      obtain ⟨t,ht⟩:∃ t:ByteArray,(⟨(Ch.up L.name).toArray⟩:ByteArray)=t:=⟨_,rfl⟩
      have htd:t.data.toList=Ch.up L.name:=by rw [<-ht]
      have htl:t.size<=281474976710656:=by rw [Lib.size_eq,htd,Ch.up_length,<-d2,<-Lib.size_eq];exact s2
      rw [ht] at cU
      have cR:=fun W=>rightValue_any t a4 W s4
      rw [htd,d4] at cR
      cases hok:okV (Ch.up L.name) L.value with
      | false =>
        have HO:=Lib.hid (rightB_no hmem hok)
        rw [hok] at cR
        clear hle hl hmem e1 e2 e4 hpn hpp hs hok hall hC htd ht
        go_wp2_with fail
        go_at_call 141
        refine (cU _).mono ?_
        rintro e w3 ⟨rfl,hb3⟩
        have hB3:=belowThen (belowThen hbw hbx) hb3
        have hbc:w3.cell? ⟨wr.heap.size,3,none⟩=some (.string a4):=(hb3.cell (p:=⟨wr.heap.size,3,none⟩) (by simp)).trans (by simp)
        go_wp2_with fail
        go_at_call 142
        refine (cR _).mono ?_
        rintro e w4 ⟨rfl,hb4⟩
        have hB4:=belowThen hB3 hb4
        go_wp2
        go_ret
        exact ⟨by rw [HO.out]<;>rfl,hB4⟩
      | true =>
        rw [hok] at cR
        have hall2:∀ L∈Ls.take (k+1),okV (Ch.up L.name) L.value=true:=fun M hM=>by
          have hlk:k < Ls.length:=(List.getElem?_eq_some_iff.1 hl).1
          rw [List.take_succ_eq_append_getElem hlk] at hM
          rcases List.mem_append.1 hM with hM | hM
          · exact hall M hM
          · rw [List.mem_singleton.1 hM,hle];exact hok
        have htk:(Ls.take (k+1)).map (fun L=>Ch.up L.name)=(Ls.take k).map (fun L=>Ch.up L.name)++[Ch.up L.name]:=by
          have hlk:k < Ls.length:=(List.getElem?_eq_some_iff.1 hl).1
          rw [List.take_succ_eq_append_getElem hlk,hle,List.map_append];rfl
        obtain ⟨ns,hns⟩:∃ ns,(Ls.take k).map (fun L=>Ch.up L.name)=ns:=⟨_,rfl⟩
        have hnl:ns.length<=1099511627776:=by rw [<-hns];simp;omega
        rw [hns] at hC htk
        have hcl:ns.count (Ch.up L.name)<=1099511627776:=Nat.le_trans List.count_le_length hnl
        have hall2':=Lib.hid hall2
        have htk':=Lib.hid htk
        have htd':=Lib.hid htd
        clear hle hl hmem e1 e2 e4 hpn hpp hs hok hall htd ht hall2 htk hns
        go_wp2_with fail
        go_at_call 141
        refine (cU _).mono ?_
        rintro e w3 ⟨rfl,hb3⟩
        have hB3:=belowThen (belowThen hbw hbx) hb3
        have hC3:=(hC.alloc (.cells #[.string a1,.string a2,.slice pA pn pc,.string a4] 203)).kept hb3
        have hbc:w3.cell? ⟨wr.heap.size,3,none⟩=some (.string a4):=(hb3.cell (p:=⟨wr.heap.size,3,none⟩) (by simp)).trans (by simp)
        go_wp2_with fail
        go_at_call 142
        refine (cR _).mono ?_
        rintro e w4 ⟨rfl,hb4⟩
        have hB4:=belowThen hB3 hb4
        have hC4:=hC3.kept hb4
        have hrun:=hC4.look t (by unfold maxLen;omega)
        rw [htd'.out] at hrun
        obtain ⟨mn,D,q1,hown,q3⟩:=hC4
        have hkey:keyOf Tryz.prog 9 (.string t)=some (.string t.data.toList):=keyOf_string_mk Tryz.underlying9 (by unfold maxLen;omega)
        rw [htd'.out] at hkey
        have hB4':=Lib.hid hB4
        have q3':=Lib.hid q3
        obtain ⟨cn,hcn⟩:∃ cn,ns.count (Ch.up L.name)=cn:=⟨_,rfl⟩
        rw [hcn] at hrun hcl
        have hcn':=Lib.hid hcn
        have hnx:=hB4.size
        have hlts:w.heap.size < w.heap.size+1:=by omega
        clear hC3 hB3 hbc hb3 hb4 hC g0 g1 g2 g3 cU cR hbx hbw hB4 q3 hcn
        go_wp2_with (first
          | (at_mapUpdate;refine wpList_mapUpdate_own _ rfl _ _ _ 206 rfl 9 3 strKey Tryz.underlying206 _ (w.heap.size+1) mn D rfl hown (by unfold maxLen;omega) _ _ _ rfl rfl hkey _ [] (plainElem_int Tryz.underlying3 (i64_wf (by omega) (by omega))) ?_)
          | go_in)
        intro w5 hown5 hgrow5
        have hIs:IsMap D:=by obtain ⟨es,cl,_,_,_,hD⟩:=hown;rw [hD];exact ⟨_,rfl⟩
        have hC5:CntAt w5 (w.heap.size+1) (ns++[Ch.up L.name]):=CntAt.next q1 hIs (by rw [hcn'.out];exact hown5) q3'.out
        have hB5:Below w.heap.size w w5:=hB4'.out.grown hgrow5 hnx (fun j hj=>by cases hj;omega)
        have hC5':=Lib.hid hC5
        have hB5':=Lib.hid hB5
        clear hown5 hgrow5 hown hrun hkey hIs hC5 hB5 q1 hB4'
        go_wp2
        go_roundw
        case rel=>exact ⟨k+1,by go_num,by omega,by rw [htk'.out];exact hC5'.out,hall2'.out,hB5'.out⟩
        case measure=>simp [RowKit.intOf];omega
    · obtain rfl:k=n:=by omega
      have htk:Ls.take k=Ls:=List.take_of_length_le (by have:=hn'.out;omega)
      rw [htk] at hC hall
      have HO:=Lib.hid (rightB_all hall)
      have cC:=rightCount_any _ _ wr hC
      have hbw':=Lib.hid hbw
      clear htk hC hall hbw
      go_wp2_with (go_at_call 143;refine cC.mono ?_;rintro e w3 ⟨rfl,hb3⟩)
      go_ret
      exact ⟨by rw [HO.out]<;>rfl,belowThen hbw'.out hb3⟩
end Ca
namespace Li
open Go.Lib Go.RowKit Bu
def PredS (g:Nat) (lb:Array Value) (q:Row->Bool) (vs:List Row) (w:World):Prop :=
  ∀ (W:World) (v:Row),v∈vs->Below w.heap.size w W->Calls Tryz.prog g (#[sv v]++lb) W fun e w'=>e=.returned (.bool (q v))/\Below W.heap.size W w'
def PredP (g:Nat) (lb:Array Value) (q:PD->Bool) (ps:List PD) (w:World):Prop :=
  ∀ (W:World) (p:PD) (u:Value),p∈ps->StrsAt W u p.vals->Below w.heap.size w W->Calls Tryz.prog g (#[.agg #[sv p.name,u]]++lb) W fun e w'=>e=.returned (.bool (q p))/\Below W.heap.size W w'
def FoundP {α:Type} (q:α->Bool) (xs:List α) (e:Ending):Prop:=∃ i:Int,e=.returned (.int .i64 i)/\xs.any q=decide (0<=i)
theorem any_none {α:Type} {q:α->Bool} {xs:List α} (h:∀ x∈xs,q x=false):xs.any q=false:=by
  rw [List.any_eq_false]
  intro x hx
  rw [h x hx];decide
theorem any_some {α:Type} {q:α->Bool} {xs:List α} {k:Nat} {x:α} (h:xs[k]?=some x) (hx:q x=true):xs.any q=true:=by
  rw [List.any_eq_true]
  exact ⟨x,List.mem_of_getElem? h,hx⟩
theorem mem_take_succ {α:Type} {q:α->Bool} {xs:List α} {k:Nat} {x:α} (h:xs[k]?=some x) (hall:∀ y∈xs.take k,q y=false) (hx:q x=false):∀ y∈xs.take (k+1),q y=false:=by
  obtain ⟨hl,hv⟩:=List.getElem?_eq_some_iff.1 h
  intro y hy
  rw [List.take_succ_eq_append_getElem hl,List.mem_append,List.mem_singleton,hv] at hy
  rcases hy with hy | rfl
  · exact hall y hy
  · exact hx
theorem indexFuncS (g:Nat) (lb:Array Value) (q:Row->Bool) (vs:List Row) (vv:Value) (w:World) (eg:∀ args w,(callFunc g args).run Tryz.prog w=.ok (.enter g args) w) (hs:StrsAt w vv vs) (hp:PredS g lb q vs w) :
    Calls Tryz.prog 242 #[vv,.func (.func g) #[] lb] w fun e w'=>FoundP q vs e/\Below w.heap.size w w':=by
  obtain ⟨A,b,o,c,rfl,h1,h2,h3,h4⟩:=hs
  obtain ⟨n,hn⟩:∃ n,vs.length=n:=⟨_,rfl⟩
  rw [hn] at h1 h3 ⊢
  have hn':=Lib.hid hn
  have h3':=Lib.hid h3
  have h4':=Lib.hid h4
  have hp':=Lib.hid hp
  unfold maxLen at h2
  clear hn h3 h4 hp
  go_enter Tryz.func242,Tryz.ntmps242
  go_wp2
  go_loopw [8] (fun s8 wr=>∃ k:Nat,s8=.int .i64 (k:Int)/\k<=n/\Below w.heap.size w wr/\∀ y∈vs.take k,q y=false) (fun s8 wr=>n - (RowKit.intOf s8).toNat)
  case atStart=>exact ⟨0,rfl,Nat.zero_le _,Below.refl _ _,fun y hy=>by simp at hy⟩
  case round =>
    obtain ⟨k,rfl,hk,hbw,hall⟩:=hrel
    have hall':=Lib.hid hall
    clear hall
    by_cases hlt:k < n
    · have hv:vs[k]?=some (vs[k]'(by have:=hn'.out;omega)):=List.getElem?_eq_getElem _
      obtain ⟨V,hV⟩:∃ V,vs[k]'(by have:=hn'.out;omega)=V:=⟨_,rfl⟩
      rw [hV] at hv
      have hVm:V∈vs:=by rw [<-hV];exact List.getElem_mem _
      obtain ⟨rfl,hg⟩:=h3'.out (by omega)
      have hc:=h4'.out k V hv
      rw [<-hbw.cell (p:=⟨b,o+k,none⟩) hg] at hc
      have hcall:=hp'.out wr V hVm hbw
      unfold sv at hc hcall
      generalize (⟨V.toArray⟩:ByteArray)=x at hc hcall
      have hv':=Lib.hid hv
      clear hv hV hVm
      cases hq:q V
      · rw [hq] at hcall
        have hnx:=Lib.hid (mem_take_succ hv'.out hall'.out hq)
        clear hq
        go_wp2_with (go_at_fn g;refine hcall.mono ?_;rintro e w3 ⟨rfl,hb3⟩)
        go_roundw
        case rel=>exact ⟨k+1,by go_num,by omega,hbw.trans (hb3.mono hbw.size),hnx.out⟩
        case measure=>simp [RowKit.intOf];omega
      · rw [hq] at hcall
        have hf:FoundP q vs (.returned (.int .i64 (k:Int))):=⟨k,rfl,by rw [any_some hv'.out hq,decide_eq_true (by omega)]⟩
        have hf':=Lib.hid hf
        clear hq hf
        go_wp2_with (go_at_fn g;refine hcall.mono ?_;rintro e w3 ⟨rfl,hb3⟩)
        go_ret
        exact ⟨hf'.out,hbw.trans (hb3.mono hbw.size)⟩
    · have hf:FoundP q vs (.returned (.int .i64 (-1))):=⟨-1,rfl,by
        have:=hall'.out
        rw [List.take_of_length_le (by have:=hn'.out;omega)] at this
        rw [any_none this];rfl⟩
      have hf':=Lib.hid hf
      clear hf
      go_wp2
      go_ret
      exact ⟨hf'.out,hbw⟩
theorem containsFuncS (g:Nat) (lb:Array Value) (q:Row->Bool) (vs:List Row) (vv:Value) (w:World) (eg:∀ args w,(callFunc g args).run Tryz.prog w=.ok (.enter g args) w) (hs:StrsAt w vv vs) (hp:PredS g lb q vs w) :
    Calls Tryz.prog 226 #[vv,.func (.func g) #[] lb] w fun e w'=>e=.returned (.bool (vs.any q))/\Below w.heap.size w w':=by
  have cI:=indexFuncS g lb q vs vv w eg hs hp
  unfold FoundP at cI
  generalize vs.any q=R at cI ⊢
  clear hs hp
  go_enter Tryz.func226,Tryz.ntmps226
  go_wp2_with (go_at_call 242;refine cI.mono ?_;rintro e w' ⟨⟨i,rfl,hi⟩,hb⟩;subst hi)
  go_ret
  exact ⟨rfl,hb⟩
theorem indexFuncP (g:Nat) (lb:Array Value) (q:PD->Bool) (ps:List PD) (vv:Value) (w:World) (eg:∀ args w,(callFunc g args).run Tryz.prog w=.ok (.enter g args) w) (hs:PrmsAt w vv ps) (hp:PredP g lb q ps w) :
    Calls Tryz.prog 243 #[vv,.func (.func g) #[] lb] w fun e w'=>FoundP q ps e/\Below w.heap.size w w':=by
  obtain ⟨A,b,o,c,rfl,h1,h2,h3,h4⟩:=hs
  obtain ⟨n,hn⟩:∃ n,ps.length=n:=⟨_,rfl⟩
  rw [hn] at h1 h3 ⊢
  have hn':=Lib.hid hn
  have h3':=Lib.hid h3
  have h4':=Lib.hid h4
  have hp':=Lib.hid hp
  unfold maxLen at h2
  clear hn h3 h4 hp
  go_enter Tryz.func243,Tryz.ntmps243
  go_wp2
  go_loopw [8] (fun s8 wr=>∃ k:Nat,s8=.int .i64 (k:Int)/\k<=n/\Below w.heap.size w wr/\∀ y∈ps.take k,q y=false) (fun s8 wr=>n - (RowKit.intOf s8).toNat)
  case atStart=>exact ⟨0,rfl,Nat.zero_le _,Below.refl _ _,fun y hy=>by simp at hy⟩
  case round =>
    obtain ⟨k,rfl,hk,hbw,hall⟩:=hrel
    have hall':=Lib.hid hall
    clear hall
    by_cases hlt:k < n
    · have hv:ps[k]?=some (ps[k]'(by have:=hn'.out;omega)):=List.getElem?_eq_getElem _
      obtain ⟨V,hV⟩:∃ V,ps[k]'(by have:=hn'.out;omega)=V:=⟨_,rfl⟩
      rw [hV] at hv
      have hVm:V∈ps:=by rw [<-hV];exact List.getElem_mem _
      obtain ⟨rfl,hg⟩:=h3'.out (by omega)
      obtain ⟨hc,u,hu,hsu⟩:=h4'.out k V hv
      rw [<-hbw.cell (p:=⟨b,o+k*2,none⟩) hg] at hc
      rw [<-hbw.cell (p:=⟨b,o+k*2+1,none⟩) hg] at hu
      have hcall:=hp'.out wr V u hVm (hsu.kept hbw) hbw
      unfold sv at hc hcall
      generalize (⟨V.name.toArray⟩:ByteArray)=x at hc hcall
      have hv':=Lib.hid hv
      clear hv hV hVm hsu
      cases hq:q V
      · rw [hq] at hcall
        have hnx:=Lib.hid (mem_take_succ hv'.out hall'.out hq)
        clear hq
        go_wp2_with (go_at_fn g;refine hcall.mono ?_;rintro e w3 ⟨rfl,hb3⟩)
        go_roundw
        case rel=>exact ⟨k+1,by go_num,by omega,hbw.trans (hb3.mono hbw.size),hnx.out⟩
        case measure=>simp [RowKit.intOf];omega
      · rw [hq] at hcall
        have hf:FoundP q ps (.returned (.int .i64 (k:Int))):=⟨k,rfl,by rw [any_some hv'.out hq,decide_eq_true (by omega)]⟩
        have hf':=Lib.hid hf
        clear hq hf
        go_wp2_with (go_at_fn g;refine hcall.mono ?_;rintro e w3 ⟨rfl,hb3⟩)
        go_ret
        exact ⟨hf'.out,hbw.trans (hb3.mono hbw.size)⟩
    · have hf:FoundP q ps (.returned (.int .i64 (-1))):=⟨-1,rfl,by
        have:=hall'.out
        rw [List.take_of_length_le (by have:=hn'.out;omega)] at this
        rw [any_none this];rfl⟩
      have hf':=Lib.hid hf
      clear hf
      go_wp2
      go_ret
      exact ⟨hf'.out,hbw⟩
theorem containsFuncP (g:Nat) (lb:Array Value) (q:PD->Bool) (ps:List PD) (vv:Value) (w:World) (eg:∀ args w,(callFunc g args).run Tryz.prog w=.ok (.enter g args) w) (hs:PrmsAt w vv ps) (hp:PredP g lb q ps w) :
    Calls Tryz.prog 227 #[vv,.func (.func g) #[] lb] w fun e w'=>e=.returned (.bool (ps.any q))/\Below w.heap.size w w':=by
  have cI:=indexFuncP g lb q ps vv w eg hs hp
  unfold FoundP at cI
  generalize ps.any q=R at cI ⊢
  clear hs hp
  go_enter Tryz.func227,Tryz.ntmps227
  go_wp2_with (go_at_call 243;refine cI.mono ?_;rintro e w' ⟨⟨i,rfl,hi⟩,hb⟩;subst hi)
  go_ret
  exact ⟨rfl,hb⟩
def Small (ps:List PD):Prop:=∀ p∈ps,p.name.length<=9223372036854775807/\∀ v∈p.vals,v.length<=9223372036854775807
theorem unnamed_is (ps:List PD) (hs:Small ps) (w:World):PredP 221 #[] (fun p=>!nameB p.name) ps w:=fun W p u hp hu hb=>by
  have hl:=(hs p hp).1
  obtain ⟨x,hx⟩:∃ x:ByteArray,(⟨p.name.toArray⟩:ByteArray)=x:=⟨_,rfl⟩
  have hxd:x.data.toList=p.name:=by rw [<-hx]
  have cN:=fun W=>name_any x W (by rw [Lib.size_eq,hxd];exact hl)
  rw [hxd] at cN
  unfold sv
  rw [hx]
  obtain ⟨A,b,o,c,rfl,_⟩:=hu
  dsimp only
  generalize nameB p.name=R at cN ⊢
  have hal:Below W.heap.size W (W.alloc (.cells #[.string x,.slice A p.vals.length c] 246)):=(Below.refl _ _).alloc (Nat.le_refl _) _
  clear hl hx hxd hb
  go_enter Tryz.func221,Tryz.ntmps221
  go_wp2_with (go_at_call 222;refine (cN _).mono ?_;rintro e w1 ⟨rfl,hb1⟩)
  go_ret
  exact ⟨rfl,below_then hal hb1⟩
theorem unvalued_is (ps:List PD) (w:World):PredP 223 #[] (fun p=>p.vals.isEmpty) ps w:=fun W p u hp hu hb=>by
  obtain ⟨A,b,o,c,rfl,_⟩:=hu
  unfold sv
  generalize (⟨p.name.toArray⟩:ByteArray)=x
  have hal:Below W.heap.size W (W.alloc (.cells #[.string x,.slice A p.vals.length c] 246)):=(Below.refl _ _).alloc (Nat.le_refl _) _
  have hE:p.vals.isEmpty=((p.vals.length:Int)==0):=by
    cases p.vals with
    | nil=>rfl
    | cons v vs=>simp;omega
  dsimp only
  rw [hE]
  clear hE
  generalize p.vals.length=n at hal ⊢
  go_enter Tryz.func223,Tryz.ntmps223
  go_wp2
  go_ret
  exact ⟨rfl,hal⟩
theorem odd_is (vs:List Row) (hs:∀ v∈vs,v.length<=9223372036854775807) (w:World) (hT:Ch.Tabs w):PredS 224 #[] (fun v=>!okV v) vs w:=fun W v hv hb=>by
  have hl:=hs v hv
  obtain ⟨x,hx⟩:∃ x:ByteArray,(⟨v.toArray⟩:ByteArray)=x:=⟨_,rfl⟩
  have hxd:x.data.toList=v:=by rw [<-hx]
  have cV:=plainV_any x W (Ch.tabs_below hT hb) (by rw [Lib.size_eq,hxd];exact hl)
  rw [hxd] at cV
  unfold sv
  rw [hx]
  dsimp only
  generalize okV v=R at cV ⊢
  clear hl hx hxd hb hT
  go_enter Tryz.func224,Tryz.ntmps224
  go_wp2_with (go_at_call 157;refine cV.mono ?_;rintro e w1 ⟨rfl,hb1⟩)
  go_ret
  exact ⟨rfl,hb1⟩
theorem oddly_is (ps:List PD) (hs:Small ps) (g:Nat) (w:World) (hg:g < w.heap.size) (hc:w.cell? ⟨g,0,none⟩=some (.func (.func 224) #[] #[])) (hT:Ch.Tabs w):PredP 225 #[.pointer (some ⟨g,0,none⟩)] (fun p=>p.vals.any fun v=>!okV v) ps w:=fun W p u hp hu hb=>by
  have hal:∀ x,Below W.heap.size W (W.alloc (.cells #[x,u] 246)):=fun x=>(Below.refl _ _).alloc (Nat.le_refl _) _
  have cC:=fun x=>containsFuncS 224 #[] (fun v=>!okV v) p.vals u (W.alloc (.cells #[x,u] 246)) (enters_of Tryz.func224 (by kernel_rfl) rfl) (hu.kept (hal x)) (odd_is _ (hs p hp).2 _ (Ch.tabs_below (Ch.tabs_below hT hb) (hal x)))
  rw [<-hb.cell (p:=⟨g,0,none⟩) hg] at hc
  have hgW:g < W.heap.size:=Nat.lt_of_lt_of_le hg hb.size
  obtain ⟨A,b,o,c,rfl,_⟩:=hu
  unfold sv
  generalize (⟨p.name.toArray⟩:ByteArray)=x
  have cX:=cC (.string x)
  have halx:=hal (.string x)
  dsimp only at cX ⊢
  generalize (p.vals.any fun v=>!okV v)=R at cX ⊢
  generalize p.vals.length=n at cX halx ⊢
  clear cC hal hT hb hs hp hg
  go_enter Tryz.func225,Tryz.ntmps225
  go_wp2_with (go_at_call 226;refine cX.mono ?_;rintro e w1 ⟨rfl,hb1⟩)
  go_ret
  exact ⟨rfl,below_then halx hb1⟩
end Li
end Go.Proofs.YtobfaibofhmpgaaGreatDoor
