import Derived.Laws.IdiomRangeMap
import Derived.Laws.Rows
import Derived.Lib.ValidLaws
import Derived.Lib.ItoaNum
import Derived.Maps.AppendAt
import Derived.Laws.AppendOwn
import Derived.Laws.OwnMore
import Derived.Below
import Derived.Lib.Hide
import Derived.Lib.IndexLaws
import Derived.WalkKit
import Derived.OwnWalk
set_option linter.unusedVariables false
namespace Go.Proofs.YtobfaibofhmpgaaGreatDoor
namespace Ch
open Go.Lib
def lowB (x:UInt8):UInt8:=if 65<=x.toNat/\x.toNat<=90 then x+32 else x
def upB (x:UInt8):UInt8:=if 97<=x.toNat/\x.toNat<=122 then x - 32 else x
def low (l:List UInt8):List UInt8:=l.map lowB
def up (l:List UInt8):List UInt8:=l.map upB
theorem byte_all {P:UInt8->Prop} (h:∀ n:Fin 256,P (UInt8.ofNat n.val)) (x:UInt8):P x:=by
  have:=h ⟨x.toNat,x.toNat_lt⟩
  simpa using this
theorem lowB_upB (x:UInt8):lowB (upB x)=lowB x:=byte_all (P:=fun x=>lowB (upB x)=lowB x) (by decide +kernel) x
theorem upB_lowB (x:UInt8):upB (lowB x)=upB x:=byte_all (P:=fun x=>upB (lowB x)=upB x) (by decide +kernel) x
theorem low_up (l:List UInt8):low (up l)=low l:=by simp [low,up,lowB_upB]
theorem up_low (l:List UInt8):up (low l)=up l:=by simp [low,up,upB_lowB]
theorem low_append (a b:List UInt8):low (a++b)=low a++low b:=by simp [low]
theorem up_length (a:List UInt8):(up a).length=a.length:=by simp [up]
theorem lowB_no (x:UInt8) (h:¬ (65<=x.toNat/\x.toNat<=90)):lowB x=x:=if_neg h
theorem upB_no (x:UInt8) (h:¬ (97<=x.toNat/\x.toNat<=122)):upB x=x:=if_neg h
theorem lowB_yes (x:UInt8) (h1:65<=x.toNat) (h2:x.toNat<=90):(lowB x).toNat=x.toNat+32:=by
  unfold lowB;rw [if_pos ⟨h1,h2⟩,UInt8.toNat_add];simp;omega
theorem upB_yes (x:UInt8) (h1:97<=x.toNat) (h2:x.toNat<=122):(upB x).toNat=x.toNat - 32:=by
  unfold upB
  rw [if_pos ⟨h1,h2⟩,UInt8.toNat_sub_of_le _ _ (by rw [UInt8.le_iff_toNat_le];simp;omega)]
  rfl
def ctl (x:UInt8):Bool:=if x.toNat=9\/x.toNat=10\/x.toNat=13 then false else if x.toNat=127 then true else decide (x.toNat < 32)
def clean (l:List UInt8):Bool:=l.all fun x=>!ctl x
def valid (l:List UInt8):Bool:=validD l && clean l
def runeN (n b0 b1 b2 b3:Nat):Nat × Nat:=if decodeN n b0 b1 b2 b3=(65533,1) then (0,0) else decodeN n b0 b1 b2 b3
def rune (l:List UInt8):Nat × Nat:=if l=[] then (0,0) else runeN l.length (l.getD 0 0).toNat (l.getD 1 0).toNat (l.getD 2 0).toNat (l.getD 3 0).toNat
theorem runeN_one (n b0 b1 b2 b3:Nat) (h:b0 < 128):runeN n b0 b1 b2 b3=(b0,1):=by
  have:decodeN n b0 b1 b2 b3=(b0,1):=by unfold decodeN;rw [if_pos h]
  unfold runeN
  rw [this,if_neg]
  intro h'
  simp only [Prod.mk.injEq] at h'
  omega
theorem runeN_none (n b0 b1 b2 b3:Nat) (h:(128<=b0/\b0 < 192)\/(248<=b0/\b0 < 256)):runeN n b0 b1 b2 b3=(0,0):=by
  have:decodeN n b0 b1 b2 b3=(65533,1):=decodeN_bad _ _ _ _ _ (by omega)
  unfold runeN
  rw [this,if_pos rfl]
theorem runeN_bad {n b0 b1 b2 b3:Nat} (h:decodeN n b0 b1 b2 b3=(65533,1)):runeN n b0 b1 b2 b3=(0,0):=by unfold runeN;rw [if_pos h]
theorem runeN_good {n b0 b1 b2 b3 v k:Nat} (h:decodeN n b0 b1 b2 b3=(v,k)) (hk:k≠1):runeN n b0 b1 b2 b3=(v,k):=by
  unfold runeN
  rw [if_neg (fun hh=>hk (by rw [h] at hh;exact (Prod.mk.inj hh).2)),h]
theorem decodeN_two {n b0 b1 b2 b3:Nat} (h:192<=b0) (h':b0 < 224):decodeN n b0 b1 b2 b3=if 1 < n/\b1 / 64=2 then (if (b0 - 192)*64+b1 % 64≥128 then ((b0 - 192)*64+b1 % 64,2) else (65533,1)) else (65533,1):=by
  have e0:¬ b0 < 128:=by omega
  have e1:b0 / 32=6:=by omega
  have e2:¬ b0 / 16=14:=by omega
  have e3:¬ b0 / 8=30:=by omega
  have e4:b0 % 32=b0 - 192:=by omega
  unfold decodeN
  rw [if_neg e0]
  simp only [e1,e2,e3,e4,true_and,false_and,if_false]
theorem decodeN_three {n b0 b1 b2 b3:Nat} (h:224<=b0) (h':b0 < 240):decodeN n b0 b1 b2 b3=if (1 < n/\b1 / 64=2)/\(2 < n/\b2 / 64=2) then (if (b0 - 224)*4096+b1 % 64*64+b2 % 64≥2048/\((b0 - 224)*4096+b1 % 64*64+b2 % 64 < 55296\/(57344<=(b0 - 224)*4096+b1 % 64*64+b2 % 64/\(b0 - 224)*4096+b1 % 64*64+b2 % 64<=1114111)) then ((b0 - 224)*4096+b1 % 64*64+b2 % 64,3) else (65533,1)) else (65533,1):=by
  have e0:¬ b0 < 128:=by omega
  have e1:¬ b0 / 32=6:=by omega
  have e2:b0 / 16=14:=by omega
  have e3:¬ b0 / 8=30:=by omega
  have e4:b0 % 16=b0 - 224:=by omega
  unfold decodeN
  rw [if_neg e0]
  simp only [e1,e2,e3,e4,true_and,false_and,if_false]
theorem decodeN_four {n b0 b1 b2 b3:Nat} (h:240<=b0) (h':b0 < 248):decodeN n b0 b1 b2 b3=if (1 < n/\b1 / 64=2)/\(2 < n/\b2 / 64=2)/\(3 < n/\b3 / 64=2) then (if (b0 - 240)*262144+b1 % 64*4096+b2 % 64*64+b3 % 64≥65536/\((b0 - 240)*262144+b1 % 64*4096+b2 % 64*64+b3 % 64 < 55296\/(57344<=(b0 - 240)*262144+b1 % 64*4096+b2 % 64*64+b3 % 64/\(b0 - 240)*262144+b1 % 64*4096+b2 % 64*64+b3 % 64<=1114111)) then ((b0 - 240)*262144+b1 % 64*4096+b2 % 64*64+b3 % 64,4) else (65533,1)) else (65533,1):=by
  have e0:¬ b0 < 128:=by omega
  have e1:¬ b0 / 32=6:=by omega
  have e2:¬ b0 / 16=14:=by omega
  have e3:b0 / 8=30:=by omega
  have e4:b0 % 8=b0 - 240:=by omega
  unfold decodeN
  rw [if_neg e0]
  simp only [e1,e2,e3,e4,true_and,false_and,if_false]
def v2 (b0 b1:Nat):Nat:=(b0 - 192)*64+(b1 - 128)
def v3 (b0 b1 b2:Nat):Nat:=((b0 - 224)*64+(b1 - 128))*64+(b2 - 128)
def v4 (b0 b1 b2 b3:Nat):Nat:=(((b0 - 240)*64+(b1 - 128))*64+(b2 - 128))*64+(b3 - 128)
def cont (b:Nat):Prop:=128<=b/\b<=191
theorem runeN_two (n b0 b1 b2 b3:Nat) (h:192<=b0) (h':b0 < 224) :
    (2<=n/\cont b1/\128<=v2 b0 b1/\v2 b0 b1<=2047/\runeN n b0 b1 b2 b3=(v2 b0 b1,2))\/(¬ (2<=n/\cont b1/\128<=v2 b0 b1)/\runeN n b0 b1 b2 b3=(0,0)):=by
  unfold cont
  have hd:=decodeN_two (n:=n) (b1:=b1) (b2:=b2) (b3:=b3) h h'
  by_cases c:1 < n/\b1 / 64=2
  · rw [if_pos c] at hd
    obtain ⟨c1,c2⟩:=c
    have e5:(b0 - 192)*64+b1 % 64=v2 b0 b1:=by unfold v2;omega
    have e6:v2 b0 b1 < 2048:=by unfold v2;omega
    rw [e5] at hd
    by_cases d:128<=v2 b0 b1
    · rw [if_pos d] at hd
      exact .inl ⟨by omega,⟨by omega,by omega⟩,d,by omega,runeN_good hd (by omega)⟩
    · rw [if_neg d] at hd
      exact .inr ⟨fun hh=>d hh.2.2,runeN_bad hd⟩
  · rw [if_neg c] at hd
    exact .inr ⟨fun hh=>c ⟨by omega,by omega⟩,runeN_bad hd⟩
theorem runeN_three (n b0 b1 b2 b3:Nat) (h:224<=b0) (h':b0 < 240) :
    (3<=n/\cont b1/\cont b2/\2048<=v3 b0 b1 b2/\v3 b0 b1 b2<=65535/\¬ (55296<=v3 b0 b1 b2/\v3 b0 b1 b2<=57343)/\runeN n b0 b1 b2 b3=(v3 b0 b1 b2,3))\/
    (¬ (3<=n/\cont b1/\cont b2/\2048<=v3 b0 b1 b2/\¬ (55296<=v3 b0 b1 b2/\v3 b0 b1 b2<=57343))/\runeN n b0 b1 b2 b3=(0,0)):=by
  unfold cont
  have hd:=decodeN_three (n:=n) (b1:=b1) (b2:=b2) (b3:=b3) h h'
  by_cases c:(1 < n/\b1 / 64=2)/\(2 < n/\b2 / 64=2)
  · rw [if_pos c] at hd
    obtain ⟨⟨c1,c2⟩,c3,c4⟩:=c
    have e5:(b0 - 224)*4096+b1 % 64*64+b2 % 64=v3 b0 b1 b2:=by unfold v3;omega
    have e6:v3 b0 b1 b2 < 65536:=by unfold v3;omega
    rw [e5] at hd
    generalize v3 b0 b1 b2=v at hd e6 ⊢
    by_cases d:2048<=v/\¬ (55296<=v/\v<=57343)
    · rw [if_pos ⟨d.1,by omega⟩] at hd
      exact .inl ⟨by omega,⟨by omega,by omega⟩,⟨by omega,by omega⟩,d.1,by omega,d.2,runeN_good hd (by omega)⟩
    · rw [if_neg (by omega)] at hd
      exact .inr ⟨fun hh=>d hh.2.2.2,runeN_bad hd⟩
  · rw [if_neg c] at hd
    exact .inr ⟨fun hh=>c ⟨⟨by omega,by omega⟩,by omega,by omega⟩,runeN_bad hd⟩
theorem runeN_four (n b0 b1 b2 b3:Nat) (h:240<=b0) (h':b0 < 248) :
    (4<=n/\cont b1/\cont b2/\cont b3/\65536<=v4 b0 b1 b2 b3/\v4 b0 b1 b2 b3<=1114111/\runeN n b0 b1 b2 b3=(v4 b0 b1 b2 b3,4))\/
    (¬ (4<=n/\cont b1/\cont b2/\cont b3/\65536<=v4 b0 b1 b2 b3/\v4 b0 b1 b2 b3<=1114111)/\runeN n b0 b1 b2 b3=(0,0)):=by
  unfold cont
  have hd:=decodeN_four (n:=n) (b1:=b1) (b2:=b2) (b3:=b3) h h'
  by_cases c:(1 < n/\b1 / 64=2)/\(2 < n/\b2 / 64=2)/\(3 < n/\b3 / 64=2)
  · rw [if_pos c] at hd
    obtain ⟨⟨c1,c2⟩,⟨c3,c4⟩,c5,c6⟩:=c
    have e5:(b0 - 240)*262144+b1 % 64*4096+b2 % 64*64+b3 % 64=v4 b0 b1 b2 b3:=by unfold v4;omega
    rw [e5] at hd
    generalize v4 b0 b1 b2 b3=v at hd ⊢
    by_cases d:65536<=v/\v<=1114111
    · rw [if_pos ⟨d.1,.inr ⟨by omega,d.2⟩⟩] at hd
      exact .inl ⟨by omega,⟨by omega,by omega⟩,⟨by omega,by omega⟩,⟨by omega,by omega⟩,d.1,d.2,runeN_good hd (by omega)⟩
    · rw [if_neg (by omega)] at hd
      exact .inr ⟨fun hh=>d hh.2.2.2.2,runeN_bad hd⟩
  · rw [if_neg c] at hd
    exact .inr ⟨fun hh=>c ⟨⟨by omega,by omega⟩,⟨by omega,by omega⟩,by omega,by omega⟩,runeN_bad hd⟩
theorem rune_eq (l:List UInt8) (hne:l≠[]):rune l=runeN l.length (l.getD 0 0).toNat (l.getD 1 0).toNat (l.getD 2 0).toNat (l.getD 3 0).toNat:=if_neg hne
theorem validD_rune (l:List UInt8) (hne:l≠[]):validD l=if (rune l).2=0 then false else validD (l.drop (rune l).2):=by
  rw [validD_step l hne,rune_eq l hne,decodeL_N]
  have hw:=decodeL_width l
  rw [decodeL_N] at hw
  unfold runeN
  generalize decodeN l.length (l.getD 0 0).toNat (l.getD 1 0).toNat (l.getD 2 0).toNat (l.getD 3 0).toNat=d at hw ⊢
  by_cases h:d=(65533,1)
  · rw [if_pos h,h];simp
  · rw [if_neg h,if_neg (fun hh=>h (Prod.ext hh.1 hh.2)),if_neg (by omega)]
theorem runeN_keep {n n' b0 b1 b2 b3 b1' b2' b3':Nat} (hb:b0 < 256) (hk0:(runeN n b0 b1 b2 b3).2≠0) (hn:(runeN n b0 b1 b2 b3).2<=n')
    (h1:1 < (runeN n b0 b1 b2 b3).2->b1'=b1) (h2:2 < (runeN n b0 b1 b2 b3).2->b2'=b2) (h3:3 < (runeN n b0 b1 b2 b3).2->b3'=b3):runeN n' b0 b1' b2' b3'=runeN n b0 b1 b2 b3:=by
  by_cases c1:b0 < 128
  · rw [runeN_one _ _ _ _ _ c1,runeN_one _ _ _ _ _ c1]
  by_cases c2:b0 < 192\/248<=b0
  · exact absurd (by rw [runeN_none _ _ _ _ _ (by omega)]) hk0
  by_cases c3:b0 < 224
  · rcases runeN_two n b0 b1 b2 b3 (by omega) c3 with ⟨a1,a2,a3,a4,a5⟩ | ⟨_,a5⟩
    · rw [a5] at hn h1 ⊢
      obtain rfl:=h1 (by simp)
      rcases runeN_two n' b0 b1' b2' b3' (by omega) c3 with ⟨_,_,_,_,d5⟩ | ⟨d,_⟩
      · exact d5
      · exact absurd ⟨hn,a2,a3⟩ d
    · exact absurd (by rw [a5]) hk0
  by_cases c4:b0 < 240
  · rcases runeN_three n b0 b1 b2 b3 (by omega) c4 with ⟨a1,a2,a3,a4,_,a6,a5⟩ | ⟨_,a5⟩
    · rw [a5] at hn h1 h2 ⊢
      obtain rfl:=h1 (by simp)
      obtain rfl:=h2 (by simp)
      rcases runeN_three n' b0 b1' b2' b3' (by omega) c4 with ⟨_,_,_,_,_,_,d5⟩ | ⟨d,_⟩
      · exact d5
      · exact absurd ⟨hn,a2,a3,a4,a6⟩ d
    · exact absurd (by rw [a5]) hk0
  · rcases runeN_four n b0 b1 b2 b3 (by omega) (by omega) with ⟨a1,a2,a3,a4,a6,a7,a5⟩ | ⟨_,a5⟩
    · rw [a5] at hn h1 h2 h3 ⊢
      obtain rfl:=h1 (by simp)
      obtain rfl:=h2 (by simp)
      obtain rfl:=h3 (by simp)
      rcases runeN_four n' b0 b1' b2' b3' (by omega) (by omega) with ⟨_,_,_,_,_,_,d5⟩ | ⟨d,_⟩
      · exact d5
      · exact absurd ⟨hn,a2,a3,a4,a6,a7⟩ d
    · exact absurd (by rw [a5]) hk0
theorem runeN_tells {n b0 b1 b2 b3:Nat} (hn:1<=n) (hb:b0 < 256) (hk0:(runeN n b0 b1 b2 b3).2≠0) :
    (runeN n b0 b1 b2 b3).2<=n/\(1 < (runeN n b0 b1 b2 b3).2->cont b1/\128<=(runeN n b0 b1 b2 b3).1)/\(2 < (runeN n b0 b1 b2 b3).2->cont b2)/\(3 < (runeN n b0 b1 b2 b3).2->cont b3)/\(runeN n b0 b1 b2 b3).2<=4/\
    (b0 < 128/\runeN n b0 b1 b2 b3=(b0,1)\/192<=b0/\1 < (runeN n b0 b1 b2 b3).2)/\
    ∀ k b1' b2' b3',1<=k->k < (runeN n b0 b1 b2 b3).2->runeN k b0 b1' b2' b3'=(0,0):=by
  by_cases c1:b0 < 128
  · rw [runeN_one _ _ _ _ _ c1]
    exact ⟨hn,fun h=>absurd h (by simp),fun h=>absurd h (by simp),fun h=>absurd h (by simp),by simp,.inl ⟨c1,rfl⟩,fun k _ _ _ h1 h2=>by simp at h2;omega⟩
  by_cases c2:b0 < 192\/248<=b0
  · exact absurd (by rw [runeN_none _ _ _ _ _ (by omega)]) hk0
  by_cases c3:b0 < 224
  · rcases runeN_two n b0 b1 b2 b3 (by omega) c3 with ⟨a1,a2,a3,a4,a5⟩ | ⟨_,a5⟩
    · rw [a5]
      refine ⟨a1,fun _=>⟨a2,a3⟩,fun h=>absurd h (by simp),fun h=>absurd h (by simp),by simp,.inr ⟨by omega,by simp⟩,fun k b1' b2' b3' h1 h2=>?_⟩
      rcases runeN_two k b0 b1' b2' b3' (by omega) c3 with ⟨d1,_⟩ | ⟨_,d⟩
      · simp at h2;omega
      · exact d
    · exact absurd (by rw [a5]) hk0
  by_cases c4:b0 < 240
  · rcases runeN_three n b0 b1 b2 b3 (by omega) c4 with ⟨a1,a2,a3,a4,_,a6,a5⟩ | ⟨_,a5⟩
    · rw [a5]
      refine ⟨a1,fun _=>⟨a2,by simp;omega⟩,fun _=>a3,fun h=>absurd h (by simp),by simp,.inr ⟨by omega,by simp⟩,fun k b1' b2' b3' h1 h2=>?_⟩
      rcases runeN_three k b0 b1' b2' b3' (by omega) c4 with ⟨d1,_⟩ | ⟨_,d⟩
      · simp at h2;omega
      · exact d
    · exact absurd (by rw [a5]) hk0
  · rcases runeN_four n b0 b1 b2 b3 (by omega) (by omega) with ⟨a1,a2,a3,a4,a6,a7,a5⟩ | ⟨_,a5⟩
    · rw [a5]
      refine ⟨a1,fun _=>⟨a2,by simp;omega⟩,fun _=>a3,fun _=>a4,by simp,.inr ⟨by omega,by simp⟩,fun k b1' b2' b3' h1 h2=>?_⟩
      rcases runeN_four k b0 b1' b2' b3' (by omega) (by omega) with ⟨d1,_⟩ | ⟨_,d⟩
      · simp at h2;omega
      · exact d
    · exact absurd (by rw [a5]) hk0
theorem pos_of_ne {l:List UInt8} (h:l≠[]):1<=l.length:=List.length_pos_iff.2 h
theorem getD_append (a b:List UInt8) (j:Nat) (h:j < a.length):(a++b).getD j 0=a.getD j 0:=by
  simp [List.getD_eq_getElem?_getD,List.getElem?_append_left h]
theorem getD_take (a:List UInt8) (k j:Nat) (h:j < k):(a.take k).getD j 0=a.getD j 0:=by
  simp [List.getD_eq_getElem?_getD,h]
theorem getD_drop (a:List UInt8) (k j:Nat):(a.drop k).getD j 0=a.getD (k+j) 0:=by
  simp [List.getD_eq_getElem?_getD,List.getElem?_drop]
theorem rune_tells {l:List UInt8} (hne:l≠[]) (h0:(rune l).2≠0) :
    (rune l).2<=l.length/\(∀ j,1<=j->j < (rune l).2->cont (l.getD j 0).toNat)/\(1 < (rune l).2->128<=(rune l).1)/\
    ((l.getD 0 0).toNat < 128/\rune l=((l.getD 0 0).toNat,1)\/192<=(l.getD 0 0).toNat/\1 < (rune l).2):=by
  rw [rune_eq l hne] at h0 ⊢
  obtain ⟨h1,h2,h3,h4,h5,h6,_⟩:=runeN_tells (pos_of_ne hne) (l.getD 0 0).toNat_lt h0
  refine ⟨h1,fun j hj1 hj2=>?_,fun h=>(h2 h).2,h6⟩
  have hj:j=1\/j=2\/j=3:=by omega
  rcases hj with rfl | rfl | rfl
  · exact (h2 hj2).1
  · exact h3 hj2
  · exact h4 hj2
theorem rune_append {a:List UInt8} (b:List UInt8) (hne:a≠[]) (h0:(rune a).2≠0):rune (a++b)=rune a:=by
  have hw:=(rune_tells hne h0).1
  have hne':a++b≠[]:=by simp [hne]
  rw [rune_eq _ hne] at h0 hw ⊢
  rw [rune_eq _ hne',getD_append a b 0 (pos_of_ne hne)]
  exact runeN_keep (a.getD 0 0).toNat_lt h0 (by rw [List.length_append];omega) (fun h=>by rw [getD_append a b 1 (by omega)]) (fun h=>by rw [getD_append a b 2 (by omega)]) (fun h=>by rw [getD_append a b 3 (by omega)])
theorem rune_take {a:List UInt8} {k:Nat} (hne:a≠[]) (h0:(rune a).2≠0) (hk:(rune a).2<=k):rune (a.take k)=rune a:=by
  have hw:=(rune_tells hne h0).1
  have hl:=pos_of_ne hne
  have hne':a.take k≠[]:=by
    intro h
    rcases List.take_eq_nil_iff.1 h with h | h
    · omega
    · exact hne h
  rw [rune_eq _ hne] at h0 hw hk ⊢
  rw [rune_eq _ hne',getD_take a k 0 (by omega)]
  exact runeN_keep (a.getD 0 0).toNat_lt h0 (by rw [List.length_take];omega) (fun h=>by rw [getD_take a k 1 (by omega)]) (fun h=>by rw [getD_take a k 2 (by omega)]) (fun h=>by rw [getD_take a k 3 (by omega)])
theorem rune_short {a:List UInt8} {k:Nat} (hne:a≠[]) (h0:(rune a).2≠0) (hk1:1<=k) (hk:k < (rune a).2):(rune (a.take k)).2=0:=by
  have hw:=(rune_tells hne h0).1
  have hl:=pos_of_ne hne
  have hne':a.take k≠[]:=by
    intro h
    rcases List.take_eq_nil_iff.1 h with h | h
    · omega
    · exact hne h
  rw [rune_eq _ hne] at h0 hw hk
  obtain ⟨_,_,_,_,_,_,h7⟩:=runeN_tells hl (a.getD 0 0).toNat_lt h0
  rw [rune_eq _ hne',getD_take a k 0 (by omega),show (a.take k).length=k by rw [List.length_take];omega,h7 _ _ _ _ hk1 hk]
theorem rune_within {a:List UInt8} {k:Nat} (hne:a≠[]) (h0:(rune a).2≠0) (hk1:1<=k) (hk:k < (rune a).2):(rune (a.drop k)).2=0:=by
  obtain ⟨hw,hc,_⟩:=rune_tells hne h0
  have hne':a.drop k≠[]:=by
    intro h
    have:=List.drop_eq_nil_iff.1 h
    omega
  have:=hc k hk1 hk
  rw [rune_eq _ hne',getD_drop,Nat.add_zero,runeN_none _ _ _ _ _ (.inl ⟨this.1,by have:=this.2;omega⟩)]
theorem validD_join:∀ (n:Nat) (a b:List UInt8),a.length<=n->validD a=true->validD (a++b)=validD b
  | 0,a,b,hn,_=>by
    obtain rfl:a=[]:=List.eq_nil_of_length_eq_zero (by omega)
    rfl
  | n + 1,a,b,hn,hv=>by
    by_cases hne:a=[]
    · subst hne;rfl
    · have hv':=hv
      rw [validD_rune a hne] at hv'
      by_cases h0:(rune a).2=0
      · rw [if_pos h0] at hv';exact absurd hv' (by decide)
      · rw [if_neg h0] at hv'
        have hw:=(rune_tells hne h0).1
        rw [validD_rune (a++b) (by simp [hne]),rune_append b hne h0,if_neg h0,List.drop_append_of_le_length hw]
        exact validD_join n _ b (by rw [List.length_drop];omega) hv'
def between (l:List UInt8) (k:Nat):Bool:=decide (k=l.length\/(l.getD k 0).toNat < 128\/192<=(l.getD k 0).toNat)
theorem validD_cut:∀ (n:Nat) (l:List UInt8),l.length<=n->validD l=true->∀ k,k<=l.length->validD (l.take k)=between l k/\validD (l.drop k)=between l k
  | 0,l,hn,_,k,hk=>by
    obtain rfl:l=[]:=List.eq_nil_of_length_eq_zero (by omega)
    obtain rfl:k=0:=by simpa using hk
    exact ⟨rfl,rfl⟩
  | n + 1,l,hn,hv,k,hk=>by
    by_cases hne:l=[]
    · subst hne
      obtain rfl:k=0:=by simpa using hk
      exact ⟨rfl,rfl⟩
    have hv':=hv
    rw [validD_rune l hne] at hv'
    by_cases h0:(rune l).2=0
    · rw [if_pos h0] at hv';exact absurd hv' (by decide)
    rw [if_neg h0] at hv'
    obtain ⟨hw,hc,_,h6⟩:=rune_tells hne h0
    by_cases hk0:k=0
    · subst hk0
      have hb:between l 0=true:=decide_eq_true (.inr (by rcases h6 with h | h;exact .inl h.1;exact .inr h.1))
      rw [hb]
      exact ⟨rfl,hv⟩
    by_cases hkw:k < (rune l).2
    · have hb:between l k=false:=by
        have:=hc k (by omega) hkw
        unfold cont at this
        exact decide_eq_false (by omega)
      have hn1:l.take k≠[]:=by
        intro h
        rcases List.take_eq_nil_iff.1 h with h | h
        · omega
        · exact hne h
      have hn2:l.drop k≠[]:=by
        intro h
        have:=List.drop_eq_nil_iff.1 h
        omega
      rw [hb,validD_rune _ hn1,if_pos (rune_short hne h0 (by omega) hkw),validD_rune _ hn2,if_pos (rune_within hne h0 (by omega) hkw)]
      exact ⟨rfl,rfl⟩
    · have hn1:l.take k≠[]:=by
        intro h
        rcases List.take_eq_nil_iff.1 h with h | h
        · omega
        · exact hne h
      obtain ⟨i1,i2⟩:=validD_cut n (l.drop (rune l).2) (by rw [List.length_drop];omega) hv' (k - (rune l).2) (by rw [List.length_drop];omega)
      have hb:between (l.drop (rune l).2) (k - (rune l).2)=between l k:=by
        unfold between
        rw [getD_drop,List.length_drop,show (rune l).2+(k - (rune l).2)=k by omega]
        exact decide_eq_decide.2 (by omega)
      rw [hb] at i1 i2
      rw [List.drop_drop,show (rune l).2+(k - (rune l).2)=k by omega] at i2
      refine ⟨?_,i2⟩
      rw [validD_rune _ hn1,rune_take hne h0 (by omega),if_neg h0,List.drop_take]
      exact i1
theorem clean_append (a b:List UInt8):clean (a++b)=(clean a && clean b):=by simp [clean]
theorem valid_join (a b:List UInt8) (h:valid a=true):valid (a++b)=valid b:=by
  unfold valid at h ⊢
  obtain ⟨h1,h2⟩:=Bool.and_eq_true_iff.1 h
  rw [validD_join _ a b (Nat.le_refl _) h1,clean_append,h2,Bool.true_and]
theorem valid_cut (l:List UInt8) (h:valid l=true) (k:Nat) (hk:k<=l.length):valid (l.take k)=between l k/\valid (l.drop k)=between l k:=by
  unfold valid at h ⊢
  obtain ⟨h1,h2⟩:=Bool.and_eq_true_iff.1 h
  obtain ⟨i1,i2⟩:=validD_cut _ l (Nat.le_refl _) h1 k hk
  have hc:(clean (l.take k) && clean (l.drop k))=true:=by rw [<-clean_append,List.take_append_drop];exact h2
  obtain ⟨c1,c2⟩:=Bool.and_eq_true_iff.1 hc
  rw [i1,i2,c1,c2,Bool.and_true]
  exact ⟨rfl,rfl⟩
def isD (c:UInt8):Bool:=decide (48<=c.toNat/\c.toNat<=57)
def numF (n:Nat) (c:UInt8):Nat:=10*n+(c.toNat - 48)
def numV (l:List UInt8):Nat:=l.foldl numF 0
def lead0 (l:List UInt8):Bool:=decide (1 < l.length/\(l.getD 0 0).toNat=48)
def numOk (l:List UInt8):Bool:=!l.isEmpty && !lead0 l && l.all isD
def numS (l:List UInt8) (most:Nat):Nat × Bool:=if numOk l=true/\numV l<=most then (numV l,true) else (0,false)
theorem numV_snoc (l:List UInt8) (c:UInt8):numV (l++[c])=10*numV l+(c.toNat - 48):=by simp [numV,numF]
theorem foldl_ge:∀ (l:List UInt8) (n:Nat),n<=l.foldl numF n
  | [],n=>Nat.le_refl _
  | c :: l,n=>by
    have:=foldl_ge l (numF n c)
    simp only [List.foldl_cons]
    unfold numF at this ⊢
    omega
theorem numV_mono (a b:List UInt8):numV a<=numV (a++b):=by unfold numV;rw [List.foldl_append];exact foldl_ge b _
theorem numV_take (l:List UInt8) (k:Nat):numV (l.take k)<=numV l:=by
  have:=numV_mono (l.take k) (l.drop k)
  rwa [List.take_append_drop] at this
theorem numV_step (l:List UInt8) (k:Nat) (hk:k < l.length):numV (l.take (k+1))=10*numV (l.take k)+(l[k].toNat - 48):=by
  rw [List.take_succ_eq_append_getElem hk,numV_snoc]
theorem all_take_step (l:List UInt8) (k:Nat) (hk:k < l.length) (h:(l.take k).all isD=true) (hc:isD l[k]=true):(l.take (k+1)).all isD=true:=by
  rw [List.take_succ_eq_append_getElem hk,List.all_append,h]
  simp [hc]
theorem numS_lead {l:List UInt8} {most:Nat} (h:lead0 l=true):numS l most=(0,false):=by
  unfold numS numOk
  rw [h,if_neg]
  intro hh
  simp at hh
theorem numS_digit {l:List UInt8} {most k:Nat} (hk:k < l.length) (hc:isD l[k]=false):numS l most=(0,false):=by
  have:l.all isD=false:=by
    rw [Bool.eq_false_iff]
    intro h
    rw [List.all_eq_true] at h
    have:=h _ (List.getElem_mem hk)
    rw [hc] at this
    exact absurd this (by decide)
  unfold numS numOk
  rw [this,if_neg]
  intro hh
  simp at hh
theorem numS_over {l:List UInt8} {most k:Nat} (hk:k < l.length) (hc:most < 10*numV (l.take k)+(l[k].toNat - 48)):numS l most=(0,false):=by
  have h1:=numV_take l (k+1)
  rw [numV_step l k hk] at h1
  unfold numS
  rw [if_neg]
  intro hh
  have:=hh.2
  omega
theorem numS_yes {l:List UInt8} {most:Nat} (h0:l≠[]) (h1:lead0 l=false) (h2:l.all isD=true) (h3:numV l<=most):numS l most=(numV l,true):=by
  have hn:numOk l=true:=by
    unfold numOk
    rw [h1,h2]
    cases l
    · exact absurd rfl h0
    · rfl
  unfold numS
  rw [if_pos ⟨hn,h3⟩]
theorem numS_le (l:List UInt8) (most:Nat):(numS l most).1<=most:=by
  unfold numS
  split
  · rename_i h;exact h.2
  · exact Nat.zero_le _
end Ch
namespace Bo
open Go.Lib Go.RowKit
abbrev Row:=List UInt8
def sv (l:Row):Value:=.string ⟨l.toArray⟩
theorem sv_data (s:ByteArray):sv s.data.toList=.string s:=by unfold sv;rw [Lib.mk_data]
structure Kp (F:List Nat) (w w':World):Prop where
  os:w'.os=w.os
  tape:w'.tape=w.tape
  output:w'.output=w.output
  size:w.heap.size<=w'.heap.size
  block:∀ k,k < w.heap.size->k∉F->w'.heap[k]?=w.heap[k]?
theorem Kp.refl (F:List Nat) (w:World):Kp F w w:=⟨rfl,rfl,rfl,Nat.le_refl _,fun _ _ _=>rfl⟩
theorem Kp.of_below {F:List Nat} {w w':World} (h:Below w.heap.size w w'):Kp F w w':=⟨h.os,h.tape,h.output,h.size,fun k hk _=>h.block k hk⟩
theorem Kp.trans {F:List Nat} {a w w':World} (h:Kp F a w) (k:Kp F w w'):Kp F a w' :=
  ⟨k.os.trans h.os,k.tape.trans h.tape,k.output.trans h.output,Nat.le_trans h.size k.size,fun i hi hn=>by rw [k.block i (Nat.lt_of_lt_of_le hi h.size) hn,h.block i hi hn]⟩
theorem Kp.mono {F G:List Nat} {w w':World} (h:Kp F w w') (hs:∀ k∈F,k∈G):Kp G w w':=⟨h.os,h.tape,h.output,h.size,fun k hk hn=>h.block k hk fun hf=>hn (hs k hf)⟩
theorem Kp.then {F G:List Nat} {a w w':World} (h:Kp F a w) (k:Kp G w w') (hG:∀ x∈G,x∈F\/a.heap.size<=x):Kp F a w' :=
  ⟨k.os.trans h.os,k.tape.trans h.tape,k.output.trans h.output,Nat.le_trans h.size k.size,fun i hi hn=>by
    rw [k.block i (Nat.lt_of_lt_of_le hi h.size) (fun hg=>by
      rcases hG i hg with h1 | h1
      · exact hn h1
      · omega),h.block i hi hn]⟩
theorem Kp.below {F:List Nat} {B:Nat} {a w w':World} (h:Kp F w w') (ha:Below B a w) (hF:∀ k∈F,B<=k) (hB:B<=w.heap.size):Below B a w' :=
  ⟨h.os.trans ha.os,h.tape.trans ha.tape,h.output.trans ha.output,Nat.le_trans ha.size h.size,fun k hk=>by rw [h.block k (by omega) (fun hf=>by have:=hF k hf;omega),ha.block k hk]⟩
theorem Kp.setCell {F:List Nat} {a w:World} (h:Kp F a w) {ad:Addr} (hF:ad.block∈F\/a.heap.size<=ad.block) (v:Value):Kp F a (w.setCell ad v) :=
  ⟨h.os,h.tape,h.output,Nat.le_trans h.size (by simp),fun k hk hn=>by
    rw [Below.heap_setCell w ad v k (fun e=>by
      subst e
      rcases hF with hF | hF
      · exact hn hF
      · omega)]
    exact h.block k hk hn⟩
theorem Kp.grown {F:List Nat} {a w w':World} {row:Option Nat} (h:Kp F a w) (hg:w.grownBy w' row) (hF:∀ k,row=some k->k∈F\/a.heap.size<=k):Kp F a w' :=
  ⟨hg.os.trans h.os,hg.tape.trans h.tape,hg.output.trans h.output,Nat.le_trans h.size hg.size,fun k hk hn=>by
    rw [hg.block k (Nat.lt_of_lt_of_le hk h.size) (fun e=>by
      rcases hF k e.symm with h1 | h1
      · exact hn h1
      · omega)]
    exact h.block k hk hn⟩
theorem Kp.belowThen {F:List Nat} {a w w':World} (h:Kp F a w) (hb:Below w.heap.size w w'):Kp F a w':=h.trans (Kp.of_below hb)
theorem ownsRow_heap {w w':World} {B:Nat} {e:TypeId} {size:Nat} {v:Value} {n:Nat} {xs:List Value} (h:w.ownsRow B e size v n xs) (hk:∀ g,v.ownBlock=some g->w'.heap[g]?=w.heap[g]?):w'.ownsRow B e size v n xs:=by
  refine ⟨h.1,?_⟩
  rcases h.2 with h | ⟨g,cap,cur,e1,e2,e3,e4⟩
  · exact .inl h
  · exact .inr ⟨g,cap,cur,e1,e2,by rw [hk g (by rw [e1];rfl)];exact e3,e4⟩
theorem heap_alloc_old (w:World) (o:Obj) (i:Nat) (h:i < w.heap.size):(w.alloc o).heap[i]?=w.heap[i]?:=by
  unfold World.alloc
  simp only
  rw [Array.getElem?_push]
  rw [if_neg (by omega)]
end Bo
namespace Bo
structure Leaf where
  name:Row
  tag:Nat
  text:Row
structure Note where
  chg:Nat
  name:Row
  was:Bool
structure Bk where
  name:Row
  made:Nat
  hor:Nat
  cards:List Leaf
  notes:List Note
structure Sh where
  chg:Nat
  books:List Bk
structure Cmd where
  op:Int
  book:Row
  name:Row
  data:Row
  mat:Row
  non:Row
  tok:Row
  names:List Row
  pos:Int
structure Ent where
  name:Row
  tag:Nat
  data:Row
  gone:Bool
structure Rep where
  st:Nat
  tag:Nat:=0
  data:Row:=[]
  ents:List Ent:=[]
  tok:Row:=[]
structure Env where
  fits:Row->Bool
  norm:Row->Except Nat Row
  hol:Row->Row->Nat->Option Bool
  prT:Nat->Nat->Row
  paT:Row->Option (Nat × Nat)
def less (a b:Row):Bool:=Op.bytesLess a b
def insBy {α:Type} (key:α->Row) (n:α):List α->List α
  | []=>[n]
  | x :: r=>if less (key n) (key x)=true then n :: x :: r else x :: insBy key n r
theorem insBy_perm {α:Type} (key:α->Row) (n:α):∀ l:List α,(insBy key n l).Perm (n :: l)
  | []=>List.Perm.refl _
  | x :: r=>by
    unfold insBy
    split
    · exact List.Perm.refl _
    · exact ((insBy_perm key n r).cons x).trans (List.Perm.swap n x r)
def bkAt (s:Sh) (n:Row):Option Bk:=s.books.find? fun b=>decide (b.name=n)
def lfAt (b:Bk) (n:Row):Option Leaf:=b.cards.find? fun l=>decide (l.name=n)
def setBk (s:Sh) (b:Bk):List Bk:=s.books.map fun x=>if x.name=b.name then b else x
def trimB (b:Bk) (k:Nat):Bk:={ b with hor:=max b.hor k,notes:=b.notes.filter fun n=>decide (max b.hor k < n.chg) }
def noteB (b:Bk) (n:Note):Bk:=if b.notes.length < 64 then { b with notes:=b.notes++[n] } else trimB { b with notes:=b.notes++[n] } ((b.notes++[n]).head?.map (·.chg) |>.getD 0)
def firsts (k:Nat):List Row->List Note->List Note
  | _,[]=>[]
  | seen,n :: r=>if k < n.chg then (if n.name∈seen then firsts k seen r else n :: firsts k (n.name :: seen) r) else firsts k seen r
def entOf (b:Bk) (n:Note):Option Ent:=match lfAt b n.name with
  | some l=>some ⟨n.name,l.tag,[],false⟩
  | none=>if n.was=true then some ⟨n.name,0,[],true⟩ else none
def since (b:Bk) (k:Nat):List Ent:=((firsts k [] b.notes).filterMap (entOf b)).foldl (fun l e=>insBy (fun x=>x.name) e l) []
theorem foldl_perm:∀ (es l:List Ent),(es.foldl (fun l e=>insBy (fun x=>x.name) e l) l).Perm (es++l)
  | [],l=>List.Perm.refl _
  | e :: es,l=>by
    refine (foldl_perm es _).trans ?_
    refine ((insBy_perm (fun x:Ent=>x.name) e l).append_left es).trans ?_
    exact List.perm_middle
theorem since_perm (b:Bk) (k:Nat):(since b k).Perm ((firsts k [] b.notes).filterMap (entOf b)):=by
  have:=foldl_perm ((firsts k [] b.notes).filterMap (entOf b)) []
  rwa [List.append_nil] at this
section
variable (E:Env)
def tokNow (s:Sh) (b:Bk):Row:=E.prT b.made s.chg
def listB (s:Sh) (b:Bk):Rep:={ st:=207,ents:=b.cards.map fun l=>⟨l.name,l.tag,[],false⟩,tok:=tokNow E s b }
def makeC (s:Sh) (n:Row):Sh × Rep :=
  if E.fits n=false then (s,{ st:=403 })
  else if (bkAt s n).isSome=true then (s,{ st:=405 })
  else if 16<=s.books.length then (s,{ st:=507 })
  else ({ chg:=s.chg+1,books:=insBy (fun b=>b.name) ⟨n,s.chg+1,s.chg+1,[],[]⟩ s.books },{ st:=201,tag:=s.chg+1 })
def dropC (s:Sh) (b:Bk):Sh × Rep:=({ chg:=s.chg+1,books:=s.books.filter fun x=>decide (x.name≠b.name) },{ st:=204 })
def putB (chg:Nat) (b:Bk) (c:Cmd):Option Bk × Rep :=
  if E.fits c.name=false then (none,{ st:=403 })
  else match E.hol c.mat c.non ((lfAt b c.name).map (·.tag) |>.getD 0) with
  | none=>(none,{ st:=400 })
  | some h=>match E.norm c.data with
    | .error st=>(none,{ st:=st })
    | .ok t =>
      if h=false then (none,{ st:=412 })
      else match lfAt b c.name with
        | some l=>(some { noteB b ⟨chg+1,c.name,true⟩ with cards:=b.cards.map fun x=>if x.name=c.name then ⟨c.name,chg+1,t⟩ else x },{ st:=204,tag:=chg+1 })
        | none=>if 256<=b.cards.length then (none,{ st:=507 })
          else (some { noteB b ⟨chg+1,c.name,false⟩ with cards:=insBy (fun x=>x.name) ⟨c.name,chg+1,t⟩ b.cards },{ st:=201,tag:=chg+1 })
def deleteB (chg:Nat) (b:Bk) (c:Cmd):Option Bk × Rep:=match lfAt b c.name with
  | none=>(none,{ st:=404 })
  | some l=>match E.hol c.mat c.non l.tag with
    | none=>(none,{ st:=400 })
    | some h=>if h=false then (none,{ st:=412 })
      else (some { noteB b ⟨chg+1,c.name,true⟩ with cards:=b.cards.filter fun x=>decide (x.name≠c.name) },{ st:=204 })
def syncB (s:Sh) (b:Bk) (c:Cmd):Rep:=if c.tok=[] then listB E s b else match E.paT c.tok with
  | none=>{ st:=403 }
  | some (m,k)=>if m=b.made/\b.hor<=k/\k<=s.chg then { st:=207,ents:=since b k,tok:=tokNow E s b } else { st:=403 }
def multiB (b:Bk) (c:Cmd):Rep:={ st:=207,ents:=c.names.map fun n=>match lfAt b n with
  | some l=>⟨n,l.tag,l.text,false⟩
  | none=>⟨n,0,[],true⟩ }
def onB (s:Sh) (b:Bk) (c:Cmd):Option Bk × Rep :=
  if c.op=3 then putB E s.chg b c
  else if c.op=4 then deleteB E s.chg b c
  else if c.op=5 then (none,match lfAt b c.name with
    | some l=>{ st:=200,tag:=l.tag,data:=l.text }
    | none=>{ st:=404 })
  else if c.op=6 then (none,listB E s b)
  else if c.op=7 then (none,syncB E s b c)
  else (none,multiB b c)
def doC (s:Sh) (c:Cmd):Sh × Rep :=
  if c.op=1 then makeC E s c.book
  else if c.op < 2\/9 < c.op then (s,{ st:=400 })
  else if c.op=6/\c.book=[] then (s,{ st:=207,ents:=s.books.map fun b=>⟨b.name,b.made,[],false⟩ })
  else match bkAt s c.book with
  | none=>(s,{ st:=if c.op=3 then 409 else 404 })
  | some b =>
    if c.op=2 then dropC s b
    else if c.op=9 then ({ s with books:=setBk s (trimB b (min c.pos s.chg).toNat) },{ st:=204 })
    else match onB E s b c with
      | (none,r)=>(s,r)
      | (some b',r)=>({ chg:=s.chg+1,books:=setBk s b' },r)
end
structure Well (chg:Nat) (b:Bk):Prop where
  names:(b.cards.map (·.name)).Nodup
  tags:∀ l∈b.cards,1<=l.tag/\l.tag<=chg
  notes:∀ n∈b.notes,n.chg<=chg
theorem lfAt_some {b:Bk} {n:Row} {l:Leaf} (h:lfAt b n=some l):l∈b.cards/\l.name=n :=
  ⟨List.mem_of_find?_eq_some h,by have:=List.find?_some h;simpa using this⟩
theorem lfAt_none {b:Bk} {n:Row} (h:lfAt b n=none):∀ l∈b.cards,l.name≠n:=fun l hl e=>by
  have:=List.find?_eq_none.1 h l hl
  simp [e] at this
theorem find_of_nodup {ls:List Leaf} (hn:(ls.map (·.name)).Nodup) {l:Leaf} (hl:l∈ls):ls.find? (fun x=>decide (x.name=l.name))=some l:=by
  induction ls with
  | nil=>simp at hl
  | cons x r ih =>
    rw [List.map_cons,List.nodup_cons] at hn
    rcases List.mem_cons.1 hl with rfl | hl
    · simp
    · have hx:x.name≠l.name:=fun e=>hn.1 (by rw [e];exact List.mem_map_of_mem hl)
      rw [List.find?_cons_of_neg (by simpa using hx)]
      exact ih hn.2 hl
theorem lfAt_mem {chg:Nat} {b:Bk} (hw:Well chg b) {l:Leaf} (hl:l∈b.cards):lfAt b l.name=some l:=find_of_nodup hw.names hl
end Bo
namespace Bo
def fst (k:Nat) (x:Row) (ns:List Note):Option Note:=ns.find? fun n=>decide (k < n.chg/\n.name=x)
theorem noteB_cards (b:Bk) (n:Note):(noteB b n).cards=b.cards:=by
  unfold noteB;split<;>rfl
theorem firsts_mem (k:Nat) (n:Note):∀ (seen:List Row) (ns:List Note),n∈firsts k seen ns↔n.name∉seen/\fst k n.name ns=some n
  | seen,[]=>by simp [firsts,fst]
  | seen, m :: r=>by
    unfold firsts
    by_cases hm:k < m.chg
    · rw [if_pos hm]
      by_cases hs:m.name∈seen
      · rw [if_pos hs,firsts_mem k n seen r]
        refine and_congr_right fun hns=>?_
        unfold fst
        rw [List.find?_cons_of_neg]
        simp
        intro _ e
        rw [e] at hs;exact hns hs
      · rw [if_neg hs,List.mem_cons,firsts_mem k n (m.name :: seen) r]
        by_cases e:m.name=n.name
        · have h1:fst k n.name (m :: r)=some m:=by
            unfold fst
            rw [List.find?_cons_of_pos]
            simp [hm,e]
          rw [h1]
          constructor
          · rintro (rfl | ⟨h2,_⟩)
            · exact ⟨hs,rfl⟩
            · exact absurd (by simp [e]) h2
          · rintro ⟨h2,h3⟩
            exact .inl (Option.some.inj h3).symm
        · have h1:fst k n.name (m :: r)=fst k n.name r:=by
            unfold fst
            rw [List.find?_cons_of_neg]
            simp [e]
          rw [h1]
          constructor
          · rintro (rfl | ⟨h2,h3⟩)
            · exact absurd rfl e
            · exact ⟨fun h=>h2 (by simp [h]),h3⟩
          · rintro ⟨h2,h3⟩
            refine .inr ⟨?_,h3⟩
            simp only [List.mem_cons,not_or]
            exact ⟨fun h=>e h.symm,h2⟩
    · rw [if_neg hm,firsts_mem k n seen r]
      have h1:fst k n.name (m :: r)=fst k n.name r:=by
        unfold fst
        rw [List.find?_cons_of_neg]
        simp [hm]
      rw [h1]
theorem firsts_nodup (k:Nat):∀ (seen:List Row) (ns:List Note),((firsts k seen ns).map (·.name)).Nodup
  | seen,[]=>by simp [firsts]
  | seen,m :: r=>by
    unfold firsts
    split
    · split
      · exact firsts_nodup k seen r
      · rw [List.map_cons,List.nodup_cons]
        refine ⟨fun h=>?_,firsts_nodup k _ r⟩
        obtain ⟨n,hn,e⟩:=List.mem_map.1 h
        have:=((firsts_mem k n _ r).1 hn).1
        exact this (by simp [e])
    · exact firsts_nodup k seen r
theorem entOf_name {b:Bk} {n:Note} {e:Ent} (h:entOf b n=some e):e.name=n.name:=by
  unfold entOf at h
  split at h
  · cases h;rfl
  · split at h
    · cases h;rfl
    · cases h
theorem since_names (b:Bk) (k:Nat):(((firsts k [] b.notes).filterMap (entOf b)).map (·.name)).Nodup:=by
  have h:=firsts_nodup k [] b.notes
  generalize firsts k [] b.notes=ns at h
  induction ns with
  | nil=>simp
  | cons n r ih =>
    rw [List.map_cons,List.nodup_cons] at h
    rw [List.filterMap_cons]
    cases he:entOf b n with
    | none=>exact ih h.2
    | some e =>
      show ((e :: r.filterMap (entOf b)).map (·.name)).Nodup
      rw [List.map_cons,List.nodup_cons]
      refine ⟨fun hm=>?_,ih h.2⟩
      obtain ⟨e',he',hn'⟩:=List.mem_map.1 hm
      obtain ⟨n',hn1,hn2⟩:=List.mem_filterMap.1 he'
      apply h.1
      rw [<-entOf_name he,<-hn',entOf_name hn2]
      exact List.mem_map_of_mem hn1
section
variable (E:Env)
theorem find_ins_other {bs:List Bk} {b:Bk} {n:Row} (hn:b.name≠n):(insBy (fun x=>x.name) b bs).find? (fun x=>decide (x.name=n))=bs.find? fun x=>decide (x.name=n):=by
  induction bs with
  | nil =>
    show [b].find? _=none
    rw [List.find?_cons_of_neg (by simpa using hn)];rfl
  | cons y r ih =>
    unfold insBy
    split
    · rw [List.find?_cons_of_neg (by simpa using hn)]
    · rw [List.find?_cons,List.find?_cons,ih]
theorem find_set_other {s:Sh} {b:Bk} {n:Row} (hn:b.name≠n):(setBk s b).find? (fun x=>decide (x.name=n))=s.books.find? fun x=>decide (x.name=n):=by
  unfold setBk
  induction s.books with
  | nil=>rfl
  | cons y r ih =>
    rw [List.map_cons,List.find?_cons,List.find?_cons,ih]
    by_cases e:y.name=b.name
    · rw [if_pos e,decide_eq_false hn,decide_eq_false (by rw [e];exact hn)]
    · rw [if_neg e]
theorem find_drop_other {bs:List Bk} {m n:Row} (hn:m≠n):(bs.filter fun x=>decide (x.name≠m)).find? (fun x=>decide (x.name=n))=bs.find? fun x=>decide (x.name=n):=by
  induction bs with
  | nil=>rfl
  | cons y r ih =>
    by_cases e:y.name=m
    · rw [List.filter_cons_of_neg (by simpa using e),ih,List.find?_cons_of_neg]
      simp [e,hn]
    · rw [List.filter_cons_of_pos (by simpa using e),List.find?_cons,List.find?_cons,ih]
theorem noteB_name (b:Bk) (n:Note):(noteB b n).name=b.name:=by
  unfold noteB;split<;>rfl
theorem putB_name {chg:Nat} {b b':Bk} {c:Cmd} {r:Rep} (h:putB E chg b c=(some b',r)):b'.name=b.name:=by
  unfold putB at h
  split at h
  · cases h
  · split at h
    · cases h
    · split at h
      · cases h
      · split at h
        · cases h
        · split at h
          · cases h;exact noteB_name _ _
          · split at h
            · cases h
            · cases h;exact noteB_name _ _
theorem deleteB_name {chg:Nat} {b b':Bk} {c:Cmd} {r:Rep} (h:deleteB E chg b c=(some b',r)):b'.name=b.name:=by
  unfold deleteB at h
  split at h
  · cases h
  · split at h
    · cases h
    · split at h
      · cases h
      · cases h;exact noteB_name _ _
theorem onB_name {s:Sh} {b b':Bk} {c:Cmd} {r:Rep} (h:onB E s b c=(some b',r)):b'.name=b.name:=by
  unfold onB at h
  split at h
  · exact putB_name E h
  · split at h
    · exact deleteB_name E h
    · split at h
      · cases h
      · split at h
        · cases h
        · split at h<;>cases h
theorem bkAt_name {s:Sh} {n:Row} {b:Bk} (h:bkAt s n=some b):b.name=n:=by have:=List.find?_some h;simpa using this
theorem doC_other (s:Sh) (c:Cmd) {n:Row} (hn:c.book≠n):bkAt (doC E s c).1 n=bkAt s n:=by
  unfold doC
  split
  · unfold makeC
    split
    · rfl
    · split
      · rfl
      · split
        · rfl
        · exact find_ins_other hn
  · split
    · rfl
    · split
      · rfl
      · cases hb:bkAt s c.book with
        | none=>rfl
        | some b =>
          have hbn:=bkAt_name hb
          simp only
          split
          · exact find_drop_other (by rw [hbn];exact hn)
          · split
            · exact find_set_other (b:=trimB b _) (by show b.name≠n;rw [hbn];exact hn)
            · split
              · rfl
              · rename_i b' r heq
                exact find_set_other (by rw [onB_name E heq,hbn];exact hn)
theorem doC_chg (s:Sh) (c:Cmd):s.chg<=(doC E s c).1.chg/\(doC E s c).1.chg<=s.chg+1:=by
  unfold doC
  split
  · unfold makeC
    split
    · exact ⟨Nat.le_refl _,Nat.le_succ _⟩
    · split
      · exact ⟨Nat.le_refl _,Nat.le_succ _⟩
      · split
        · exact ⟨Nat.le_refl _,Nat.le_succ _⟩
        · exact ⟨Nat.le_succ _,Nat.le_refl _⟩
  · split
    · exact ⟨Nat.le_refl _,Nat.le_succ _⟩
    · split
      · exact ⟨Nat.le_refl _,Nat.le_succ _⟩
      · split
        · exact ⟨Nat.le_refl _,Nat.le_succ _⟩
        · split
          · exact ⟨Nat.le_succ _,Nat.le_refl _⟩
          · split
            · exact ⟨Nat.le_refl _,Nat.le_succ _⟩
            · split
              · exact ⟨Nat.le_refl _,Nat.le_succ _⟩
              · exact ⟨Nat.le_succ _,Nat.le_refl _⟩
end
end Bo
end Go.Proofs.YtobfaibofhmpgaaGreatDoor
