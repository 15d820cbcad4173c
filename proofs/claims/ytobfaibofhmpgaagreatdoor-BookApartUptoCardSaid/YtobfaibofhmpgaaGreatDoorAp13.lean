import Derived.Test.YtobfaibofhmpgaaGreatDoorAp12
set_option linter.unusedVariables false
set_option maxHeartbeats 8000000
set_option maxRecDepth 100000
namespace Go.Proofs.YtobfaibofhmpgaaGreatDoor
namespace Ca
open Go.Lib Go.RowKit Bu Va
def AnewQ (n v:Row) (e:Ending):Prop:=(anewV n v=none/\∃ x:ByteArray,e=.returned (.tuple #[.string x,.int .i64 31]))\/∃ x:ByteArray,anewV n v=some x.data.toList/\e=.returned (.tuple #[.string x,.int .i64 0])
theorem notName {name:ByteArray} {c:List UInt8} (h:¬ name=⟨c.toArray⟩):¬ name.toList=c:=fun e=>h (by rw [<-Lib.mk_data name,<-Lib.toList_data,e])
theorem notName' {name:ByteArray} {c:List UInt8} (h:¬ name=⟨c.toArray⟩):(name.toList==c)=false:=beq_eq_false_iff_ne.2 (notName h)
theorem notRow {name:ByteArray} {c:List UInt8} (h:¬ name=⟨c.toArray⟩):name.data.toList≠c:=fun e=>h (by rw [<-Lib.mk_data name,e])
theorem strsNil (w:World):StrsAt w (.slice none 0 0) []:=rowAt_nil _ _
theorem listsNil (w:World):ListsAt w (.slice none 0 0) []:=rowAt_nil _ _
theorem cAnew_any (name v:ByteArray) (w:World) (hs:v.size<=268435456) :
    Calls Tryz.prog 161 #[.string name,.string v] w fun e w'=>AnewQ name.data.toList v.data.toList e/\Below w.heap.size w w':=by
  by_cases f1:name=⟨#[70,78]⟩
  · subst f1
    cases htx:text v.data.toList with
    | none =>
      have c1:=fun W=>text_no v W (by omega) htx
      have c2:=fun W=>putText_any ⟨#[]⟩ W (by decide)
      have HF:=Lib.hid (fun x:ByteArray=>(Or.inl ⟨by rw [anewV_text (by decide),htx];rfl,x,rfl⟩:AnewQ (⟨#[70,78]⟩:ByteArray).data.toList v.data.toList (.returned (.tuple #[.string x,.int .i64 31]))))
      clear htx
      go_enter Tryz.func161,Tryz.ntmps161
      go_wp2_with fail
      go_at_call 163
      refine (c1 _).mono ?_
      rintro e w1 ⟨rfl,hb1⟩
      go_wp2_with fail
      go_at_call 192
      refine (c2 _).mono ?_
      rintro e w2 ⟨⟨x,_,rfl⟩,hb2⟩
      go_wp2
      go_ret2
      exact ⟨HF.out x,below_then hb1 hb2⟩
    | some t =>
      obtain ⟨y,rfl⟩:∃ y:ByteArray,t=y.data.toList:=⟨⟨t.toArray⟩,by simp⟩
      have hyl:=text_len htx
      rw [<-Lib.size_eq,<-Lib.size_eq] at hyl
      have c1:=fun W=>text_is v y W (by omega) htx
      have c2:=fun W=>putText_any y W (by have:=put_len y.data.toList;rw [<-Lib.size_eq] at this;omega)
      have HF:=Lib.hid (fun (x:ByteArray) (hx:x.data.toList=put y.data.toList)=>(Or.inr ⟨x,by rw [anewV_text (by decide),htx,hx];rfl,rfl⟩:AnewQ (⟨#[70,78]⟩:ByteArray).data.toList v.data.toList (.returned (.tuple #[.string x,.int .i64 0]))))
      clear htx hyl
      go_enter Tryz.func161,Tryz.ntmps161
      go_wp2_with fail
      go_at_call 163
      refine (c1 _).mono ?_
      rintro e w1 ⟨rfl,hb1⟩
      go_wp2_with fail
      go_at_call 192
      refine (c2 _).mono ?_
      rintro e w2 ⟨⟨x,hx,rfl⟩,hb2⟩
      have HF2:=Lib.hid (HF.out x hx)
      clear hx
      go_wp2
      go_ret2
      exact ⟨HF2.out,below_then hb1 hb2⟩
  have g1:=notName (c:=[70,78]) f1
  have e1:=notName' (c:=[70,78]) f1
  have r1:=notRow (c:=[70,78]) f1
  by_cases f2:name=⟨#[78,79,84,69]⟩
  · subst f2
    cases htx:text v.data.toList with
    | none =>
      have c1:=fun W=>text_no v W (by omega) htx
      have c2:=fun W=>putText_any ⟨#[]⟩ W (by decide)
      have HF:=Lib.hid (fun x:ByteArray=>(Or.inl ⟨by rw [anewV_text (by decide),htx];rfl,x,rfl⟩:AnewQ (⟨#[78,79,84,69]⟩:ByteArray).data.toList v.data.toList (.returned (.tuple #[.string x,.int .i64 31]))))
      clear htx
      go_enter Tryz.func161,Tryz.ntmps161
      go_wp2_with fail
      go_at_call 163
      refine (c1 _).mono ?_
      rintro e w1 ⟨rfl,hb1⟩
      go_wp2_with fail
      go_at_call 192
      refine (c2 _).mono ?_
      rintro e w2 ⟨⟨x,_,rfl⟩,hb2⟩
      go_wp2
      go_ret2
      exact ⟨HF.out x,below_then hb1 hb2⟩
    | some t =>
      obtain ⟨y,rfl⟩:∃ y:ByteArray,t=y.data.toList:=⟨⟨t.toArray⟩,by simp⟩
      have hyl:=text_len htx
      rw [<-Lib.size_eq,<-Lib.size_eq] at hyl
      have c1:=fun W=>text_is v y W (by omega) htx
      have c2:=fun W=>putText_any y W (by have:=put_len y.data.toList;rw [<-Lib.size_eq] at this;omega)
      have HF:=Lib.hid (fun (x:ByteArray) (hx:x.data.toList=put y.data.toList)=>(Or.inr ⟨x,by rw [anewV_text (by decide),htx,hx];rfl,rfl⟩:AnewQ (⟨#[78,79,84,69]⟩:ByteArray).data.toList v.data.toList (.returned (.tuple #[.string x,.int .i64 0]))))
      clear htx hyl
      go_enter Tryz.func161,Tryz.ntmps161
      go_wp2_with fail
      go_at_call 163
      refine (c1 _).mono ?_
      rintro e w1 ⟨rfl,hb1⟩
      go_wp2_with fail
      go_at_call 192
      refine (c2 _).mono ?_
      rintro e w2 ⟨⟨x,hx,rfl⟩,hb2⟩
      have HF2:=Lib.hid (HF.out x hx)
      clear hx
      go_wp2
      go_ret2
      exact ⟨HF2.out,below_then hb1 hb2⟩
  have g2:=notName (c:=[78,79,84,69]) f2
  have e2:=notName' (c:=[78,79,84,69]) f2
  have r2:=notRow (c:=[78,79,84,69]) f2
  by_cases f3:name=⟨#[85,73,68]⟩
  · subst f3
    cases htx:text v.data.toList with
    | none =>
      have c1:=fun W=>text_no v W (by omega) htx
      have c2:=fun W=>putText_any ⟨#[]⟩ W (by decide)
      have HF:=Lib.hid (fun x:ByteArray=>(Or.inl ⟨by rw [anewV_text (by decide),htx];rfl,x,rfl⟩:AnewQ (⟨#[85,73,68]⟩:ByteArray).data.toList v.data.toList (.returned (.tuple #[.string x,.int .i64 31]))))
      clear htx
      go_enter Tryz.func161,Tryz.ntmps161
      go_wp2_with fail
      go_at_call 163
      refine (c1 _).mono ?_
      rintro e w1 ⟨rfl,hb1⟩
      go_wp2_with fail
      go_at_call 192
      refine (c2 _).mono ?_
      rintro e w2 ⟨⟨x,_,rfl⟩,hb2⟩
      go_wp2
      go_ret2
      exact ⟨HF.out x,below_then hb1 hb2⟩
    | some t =>
      obtain ⟨y,rfl⟩:∃ y:ByteArray,t=y.data.toList:=⟨⟨t.toArray⟩,by simp⟩
      have hyl:=text_len htx
      rw [<-Lib.size_eq,<-Lib.size_eq] at hyl
      have c1:=fun W=>text_is v y W (by omega) htx
      have c2:=fun W=>putText_any y W (by have:=put_len y.data.toList;rw [<-Lib.size_eq] at this;omega)
      have HF:=Lib.hid (fun (x:ByteArray) (hx:x.data.toList=put y.data.toList)=>(Or.inr ⟨x,by rw [anewV_text (by decide),htx,hx];rfl,rfl⟩:AnewQ (⟨#[85,73,68]⟩:ByteArray).data.toList v.data.toList (.returned (.tuple #[.string x,.int .i64 0]))))
      clear htx hyl
      go_enter Tryz.func161,Tryz.ntmps161
      go_wp2_with fail
      go_at_call 163
      refine (c1 _).mono ?_
      rintro e w1 ⟨rfl,hb1⟩
      go_wp2_with fail
      go_at_call 192
      refine (c2 _).mono ?_
      rintro e w2 ⟨⟨x,hx,rfl⟩,hb2⟩
      have HF2:=Lib.hid (HF.out x hx)
      clear hx
      go_wp2
      go_ret2
      exact ⟨HF2.out,below_then hb1 hb2⟩
  have g3:=notName (c:=[85,73,68]) f3
  have e3:=notName' (c:=[85,73,68]) f3
  have r3:=notRow (c:=[85,73,68]) f3
  by_cases f4:name=⟨#[67,65,84,69,71,79,82,73,69,83]⟩
  · subst f4
    cases hsg:signs v.data.toList with
    | none =>
      have htx:list v.data.toList=none:=list_iff.2 hsg
      have c1:=fun W=>list_no v W (by omega) htx
      have c2:=fun W=>putList_any [] (.slice none 0 0) W (strsNil W) (by decide)
      have HF:=Lib.hid (fun x:ByteArray=>(Or.inl ⟨by rw [anewV_list (by decide),htx];rfl,x,rfl⟩:AnewQ (⟨#[67,65,84,69,71,79,82,73,69,83]⟩:ByteArray).data.toList v.data.toList (.returned (.tuple #[.string x,.int .i64 31]))))
      clear htx hsg
      go_enter Tryz.func161,Tryz.ntmps161
      go_wp2_with fail
      go_at_call 193
      refine (c1 _).mono ?_
      rintro e w1 ⟨rfl,hb1⟩
      go_wp2_with fail
      go_at_call 194
      refine (c2 _).mono ?_
      rintro e w2 ⟨⟨x,_,rfl⟩,hb2⟩
      go_wp2
      go_ret2
      exact ⟨HF.out x,below_then hb1 hb2⟩
    | some l =>
      have htx:list v.data.toList=some (listS l):=by unfold list;rw [hsg];rfl
      have hyl:=signs_len _ _ l (Nat.le_refl _) hsg
      rw [<-Lib.size_eq] at hyl
      have hz:=(putL_listS l)
      generalize listS l=fs at htx hz
      have c1:=fun W=>list_is v fs W (by omega) htx
      have c2:=fun W u (h:StrsAt W u fs)=>putList_any fs u W h (by omega)
      have HF:=Lib.hid (fun (x:ByteArray) (hx:x.data.toList=putL fs)=>(Or.inr ⟨x,by rw [anewV_list (by decide),htx,hx];rfl,rfl⟩:AnewQ (⟨#[67,65,84,69,71,79,82,73,69,83]⟩:ByteArray).data.toList v.data.toList (.returned (.tuple #[.string x,.int .i64 0]))))
      clear htx hyl hsg
      go_enter Tryz.func161,Tryz.ntmps161
      go_wp2_with fail
      go_at_call 193
      refine (c1 _).mono ?_
      rintro e w1 ⟨⟨u,rfl,hu⟩,hb1⟩
      have c3:=Lib.hid (c2 w1 u ((Own.at hu)))
      clear c2 hu c1
      go_wp2_with fail
      go_at_call 194
      refine c3.out.mono ?_
      rintro e w2 ⟨⟨x,hx,rfl⟩,hb2⟩
      have HF2:=Lib.hid (HF.out x hx)
      clear hx
      go_wp2
      go_ret2
      exact ⟨HF2.out,below_then hb1 hb2⟩
  have g4:=notName (c:=[67,65,84,69,71,79,82,73,69,83]) f4
  have e4:=notName' (c:=[67,65,84,69,71,79,82,73,69,83]) f4
  have r4:=notRow (c:=[67,65,84,69,71,79,82,73,69,83]) f4
  by_cases f5:name=⟨#[78,73,67,75,78,65,77,69]⟩
  · subst f5
    cases hsg:signs v.data.toList with
    | none =>
      have htx:list v.data.toList=none:=list_iff.2 hsg
      have c1:=fun W=>list_no v W (by omega) htx
      have c2:=fun W=>putList_any [] (.slice none 0 0) W (strsNil W) (by decide)
      have HF:=Lib.hid (fun x:ByteArray=>(Or.inl ⟨by rw [anewV_list (by decide),htx];rfl,x,rfl⟩:AnewQ (⟨#[78,73,67,75,78,65,77,69]⟩:ByteArray).data.toList v.data.toList (.returned (.tuple #[.string x,.int .i64 31]))))
      clear htx hsg
      go_enter Tryz.func161,Tryz.ntmps161
      go_wp2_with fail
      go_at_call 193
      refine (c1 _).mono ?_
      rintro e w1 ⟨rfl,hb1⟩
      go_wp2_with fail
      go_at_call 194
      refine (c2 _).mono ?_
      rintro e w2 ⟨⟨x,_,rfl⟩,hb2⟩
      go_wp2
      go_ret2
      exact ⟨HF.out x,below_then hb1 hb2⟩
    | some l =>
      have htx:list v.data.toList=some (listS l):=by unfold list;rw [hsg];rfl
      have hyl:=signs_len _ _ l (Nat.le_refl _) hsg
      rw [<-Lib.size_eq] at hyl
      have hz:=(putL_listS l)
      generalize listS l=fs at htx hz
      have c1:=fun W=>list_is v fs W (by omega) htx
      have c2:=fun W u (h:StrsAt W u fs)=>putList_any fs u W h (by omega)
      have HF:=Lib.hid (fun (x:ByteArray) (hx:x.data.toList=putL fs)=>(Or.inr ⟨x,by rw [anewV_list (by decide),htx,hx];rfl,rfl⟩:AnewQ (⟨#[78,73,67,75,78,65,77,69]⟩:ByteArray).data.toList v.data.toList (.returned (.tuple #[.string x,.int .i64 0]))))
      clear htx hyl hsg
      go_enter Tryz.func161,Tryz.ntmps161
      go_wp2_with fail
      go_at_call 193
      refine (c1 _).mono ?_
      rintro e w1 ⟨⟨u,rfl,hu⟩,hb1⟩
      have c3:=Lib.hid (c2 w1 u ((Own.at hu)))
      clear c2 hu c1
      go_wp2_with fail
      go_at_call 194
      refine c3.out.mono ?_
      rintro e w2 ⟨⟨x,hx,rfl⟩,hb2⟩
      have HF2:=Lib.hid (HF.out x hx)
      clear hx
      go_wp2
      go_ret2
      exact ⟨HF2.out,below_then hb1 hb2⟩
  have g5:=notName (c:=[78,73,67,75,78,65,77,69]) f5
  have e5:=notName' (c:=[78,73,67,75,78,65,77,69]) f5
  have r5:=notRow (c:=[78,73,67,75,78,65,77,69]) f5
  by_cases f6:name=⟨#[78]⟩
  · subst f6
    cases hsg:signs v.data.toList with
    | none =>
      have htx:Va.fields v.data.toList=none:=fields_iff.2 hsg
      have c1:=fun W=>fields_no v W (by omega) htx
      have c2:=fun W=>putFields_any [] (.slice none 0 0) W (listsNil W) (by decide)
      have HF:=Lib.hid (fun x:ByteArray=>(Or.inl ⟨by rw [anewV_fields (by decide),htx];rfl,x,rfl⟩:AnewQ (⟨#[78]⟩:ByteArray).data.toList v.data.toList (.returned (.tuple #[.string x,.int .i64 31]))))
      clear htx hsg
      go_enter Tryz.func161,Tryz.ntmps161
      go_wp2_with fail
      go_at_call 162
      refine (c1 _).mono ?_
      rintro e w1 ⟨rfl,hb1⟩
      go_wp2_with fail
      go_at_call 195
      refine (c2 _).mono ?_
      rintro e w2 ⟨⟨x,_,rfl⟩,hb2⟩
      go_wp2
      go_ret2
      exact ⟨HF.out x,below_then hb1 hb2⟩
    | some l =>
      have htx:Va.fields v.data.toList=some (fldS l):=by unfold Va.fields;rw [hsg];rfl
      have hyl:=signs_len _ _ l (Nat.le_refl _) hsg
      rw [<-Lib.size_eq] at hyl
      have hz:=(putF_fldS l)
      generalize fldS l=fs at htx hz
      have c1:=fun W=>fields_is v fs W (by omega) htx
      have c2:=fun W u (h:ListsAt W u fs)=>putFields_any fs u W h (by omega)
      have HF:=Lib.hid (fun (x:ByteArray) (hx:x.data.toList=putF fs)=>(Or.inr ⟨x,by rw [anewV_fields (by decide),htx,hx];rfl,rfl⟩:AnewQ (⟨#[78]⟩:ByteArray).data.toList v.data.toList (.returned (.tuple #[.string x,.int .i64 0]))))
      clear htx hyl hsg
      go_enter Tryz.func161,Tryz.ntmps161
      go_wp2_with fail
      go_at_call 162
      refine (c1 _).mono ?_
      rintro e w1 ⟨⟨u,rfl,hu⟩,hb1⟩
      have c3:=Lib.hid (c2 w1 u ((LOwn.at hu)))
      clear c2 hu c1
      go_wp2_with fail
      go_at_call 195
      refine c3.out.mono ?_
      rintro e w2 ⟨⟨x,hx,rfl⟩,hb2⟩
      have HF2:=Lib.hid (HF.out x hx)
      clear hx
      go_wp2
      go_ret2
      exact ⟨HF2.out,below_then hb1 hb2⟩
  have g6:=notName (c:=[78]) f6
  have e6:=notName' (c:=[78]) f6
  have r6:=notRow (c:=[78]) f6
  by_cases f7:name=⟨#[79,82,71]⟩
  · subst f7
    cases hsg:signs v.data.toList with
    | none =>
      have htx:Va.fields v.data.toList=none:=fields_iff.2 hsg
      have c1:=fun W=>fields_no v W (by omega) htx
      have c2:=fun W=>putFields_any [] (.slice none 0 0) W (listsNil W) (by decide)
      have HF:=Lib.hid (fun x:ByteArray=>(Or.inl ⟨by rw [anewV_fields (by decide),htx];rfl,x,rfl⟩:AnewQ (⟨#[79,82,71]⟩:ByteArray).data.toList v.data.toList (.returned (.tuple #[.string x,.int .i64 31]))))
      clear htx hsg
      go_enter Tryz.func161,Tryz.ntmps161
      go_wp2_with fail
      go_at_call 162
      refine (c1 _).mono ?_
      rintro e w1 ⟨rfl,hb1⟩
      go_wp2_with fail
      go_at_call 195
      refine (c2 _).mono ?_
      rintro e w2 ⟨⟨x,_,rfl⟩,hb2⟩
      go_wp2
      go_ret2
      exact ⟨HF.out x,below_then hb1 hb2⟩
    | some l =>
      have htx:Va.fields v.data.toList=some (fldS l):=by unfold Va.fields;rw [hsg];rfl
      have hyl:=signs_len _ _ l (Nat.le_refl _) hsg
      rw [<-Lib.size_eq] at hyl
      have hz:=(putF_fldS l)
      generalize fldS l=fs at htx hz
      have c1:=fun W=>fields_is v fs W (by omega) htx
      have c2:=fun W u (h:ListsAt W u fs)=>putFields_any fs u W h (by omega)
      have HF:=Lib.hid (fun (x:ByteArray) (hx:x.data.toList=putF fs)=>(Or.inr ⟨x,by rw [anewV_fields (by decide),htx,hx];rfl,rfl⟩:AnewQ (⟨#[79,82,71]⟩:ByteArray).data.toList v.data.toList (.returned (.tuple #[.string x,.int .i64 0]))))
      clear htx hyl hsg
      go_enter Tryz.func161,Tryz.ntmps161
      go_wp2_with fail
      go_at_call 162
      refine (c1 _).mono ?_
      rintro e w1 ⟨⟨u,rfl,hu⟩,hb1⟩
      have c3:=Lib.hid (c2 w1 u ((LOwn.at hu)))
      clear c2 hu c1
      go_wp2_with fail
      go_at_call 195
      refine c3.out.mono ?_
      rintro e w2 ⟨⟨x,hx,rfl⟩,hb2⟩
      have HF2:=Lib.hid (HF.out x hx)
      clear hx
      go_wp2
      go_ret2
      exact ⟨HF2.out,below_then hb1 hb2⟩
  have g7:=notName (c:=[79,82,71]) f7
  have e7:=notName' (c:=[79,82,71]) f7
  have r7:=notRow (c:=[79,82,71]) f7
  by_cases f8:name=⟨#[65,68,82]⟩
  · subst f8
    cases hsg:signs v.data.toList with
    | none =>
      have htx:Va.fields v.data.toList=none:=fields_iff.2 hsg
      have c1:=fun W=>fields_no v W (by omega) htx
      have c2:=fun W=>putFields_any [] (.slice none 0 0) W (listsNil W) (by decide)
      have HF:=Lib.hid (fun x:ByteArray=>(Or.inl ⟨by rw [anewV_fields (by decide),htx];rfl,x,rfl⟩:AnewQ (⟨#[65,68,82]⟩:ByteArray).data.toList v.data.toList (.returned (.tuple #[.string x,.int .i64 31]))))
      clear htx hsg
      go_enter Tryz.func161,Tryz.ntmps161
      go_wp2_with fail
      go_at_call 162
      refine (c1 _).mono ?_
      rintro e w1 ⟨rfl,hb1⟩
      go_wp2_with fail
      go_at_call 195
      refine (c2 _).mono ?_
      rintro e w2 ⟨⟨x,_,rfl⟩,hb2⟩
      go_wp2
      go_ret2
      exact ⟨HF.out x,below_then hb1 hb2⟩
    | some l =>
      have htx:Va.fields v.data.toList=some (fldS l):=by unfold Va.fields;rw [hsg];rfl
      have hyl:=signs_len _ _ l (Nat.le_refl _) hsg
      rw [<-Lib.size_eq] at hyl
      have hz:=(putF_fldS l)
      generalize fldS l=fs at htx hz
      have c1:=fun W=>fields_is v fs W (by omega) htx
      have c2:=fun W u (h:ListsAt W u fs)=>putFields_any fs u W h (by omega)
      have HF:=Lib.hid (fun (x:ByteArray) (hx:x.data.toList=putF fs)=>(Or.inr ⟨x,by rw [anewV_fields (by decide),htx,hx];rfl,rfl⟩:AnewQ (⟨#[65,68,82]⟩:ByteArray).data.toList v.data.toList (.returned (.tuple #[.string x,.int .i64 0]))))
      clear htx hyl hsg
      go_enter Tryz.func161,Tryz.ntmps161
      go_wp2_with fail
      go_at_call 162
      refine (c1 _).mono ?_
      rintro e w1 ⟨⟨u,rfl,hu⟩,hb1⟩
      have c3:=Lib.hid (c2 w1 u ((LOwn.at hu)))
      clear c2 hu c1
      go_wp2_with fail
      go_at_call 195
      refine c3.out.mono ?_
      rintro e w2 ⟨⟨x,hx,rfl⟩,hb2⟩
      have HF2:=Lib.hid (HF.out x hx)
      clear hx
      go_wp2
      go_ret2
      exact ⟨HF2.out,below_then hb1 hb2⟩
  have g8:=notName (c:=[65,68,82]) f8
  have e8:=notName' (c:=[65,68,82]) f8
  have r8:=notRow (c:=[65,68,82]) f8
  have HF:=Lib.hid ((Or.inr ⟨v,anewV_own (by rintro (h | h | h);exact r1 h;exact r2 h;exact r3 h) (by rintro (h | h);exact r4 h;exact r5 h) (by rintro (h | h | h);exact r6 h;exact r7 h;exact r8 h) _,rfl⟩):AnewQ name.data.toList v.data.toList (.returned (.tuple #[.string v,.int .i64 0])))
  clear r1 r2 r3 r4 r5 r6 r7 r8 f1 f2 f3 f4 f5 f6 f7 f8
  go_enter Tryz.func161,Tryz.ntmps161
  go_wp2
  go_ret2
  exact ⟨HF.out,Below.refl _ _⟩
theorem cKind_any (v:ByteArray) (w:World) (hs:v.size<=268435456) :
    Calls Tryz.prog 164 #[.string v] w fun e w'=>e=.returned (.bool (kindB v.data.toList))/\Below w.heap.size w w':=by
  have c1:=fun W=>Ch.lower_any v W (by omega)
  obtain ⟨t,ht⟩:∃ t:ByteArray,(⟨(Ch.low v.data.toList).toArray⟩:ByteArray)=t:=⟨_,rfl⟩
  have htd:Ch.low v.data.toList=t.data.toList:=by rw [<-ht]
  have hk:kindB v.data.toList=decide (t.data.toList=k1\/t.data.toList=k2\/t.data.toList=k3\/t.data.toList=k4):=by unfold kindB;rw [htd]
  rw [ht] at c1
  clear ht htd
  by_cases f1:t=⟨#[105,110,100,105,118,105,100,117,97,108]⟩
  · subst f1
    have HK:=Lib.hid (hk.trans (by decide):kindB v.data.toList=true)
    clear hk
    go_enter Tryz.func164,Tryz.ntmps164
    go_wp2_with (go_at_call 160;refine (c1 _).mono ?_;rintro e w1 ⟨rfl,hb1⟩)
    go_ret
    exact ⟨by rw [HK.out]<;>rfl,hb1⟩
  have g1:=notName (c:=[105,110,100,105,118,105,100,117,97,108]) f1
  have e1:=notName' (c:=[105,110,100,105,118,105,100,117,97,108]) f1
  have r1:=notRow (c:=[105,110,100,105,118,105,100,117,97,108]) f1
  by_cases f2:t=⟨#[103,114,111,117,112]⟩
  · subst f2
    have HK:=Lib.hid (hk.trans (by decide):kindB v.data.toList=true)
    clear hk r1 f1
    go_enter Tryz.func164,Tryz.ntmps164
    go_wp2_with (go_at_call 160;refine (c1 _).mono ?_;rintro e w1 ⟨rfl,hb1⟩)
    go_ret
    exact ⟨by rw [HK.out]<;>rfl,hb1⟩
  have g2:=notName (c:=[103,114,111,117,112]) f2
  have e2:=notName' (c:=[103,114,111,117,112]) f2
  have r2:=notRow (c:=[103,114,111,117,112]) f2
  by_cases f3:t=⟨#[111,114,103]⟩
  · subst f3
    have HK:=Lib.hid (hk.trans (by decide):kindB v.data.toList=true)
    clear hk r1 f1 r2 f2
    go_enter Tryz.func164,Tryz.ntmps164
    go_wp2_with (go_at_call 160;refine (c1 _).mono ?_;rintro e w1 ⟨rfl,hb1⟩)
    go_ret
    exact ⟨by rw [HK.out]<;>rfl,hb1⟩
  have g3:=notName (c:=[111,114,103]) f3
  have e3:=notName' (c:=[111,114,103]) f3
  have r3:=notRow (c:=[111,114,103]) f3
  by_cases f4:t=⟨#[108,111,99,97,116,105,111,110]⟩
  · subst f4
    have HK:=Lib.hid (hk.trans (by decide):kindB v.data.toList=true)
    clear hk r1 f1 r2 f2 r3 f3
    go_enter Tryz.func164,Tryz.ntmps164
    go_wp2_with (go_at_call 160;refine (c1 _).mono ?_;rintro e w1 ⟨rfl,hb1⟩)
    go_ret
    exact ⟨by rw [HK.out]<;>rfl,hb1⟩
  have g4:=notName (c:=[108,111,99,97,116,105,111,110]) f4
  have e4:=notName' (c:=[108,111,99,97,116,105,111,110]) f4
  have r4:=notRow (c:=[108,111,99,97,116,105,111,110]) f4
  have HK:=Lib.hid (hk.trans (decide_eq_false (by rintro (h | h | h | h);exact r1 h;exact r2 h;exact r3 h;exact r4 h)):kindB v.data.toList=false)
  clear hk r1 f1 r2 f2 r3 f3 r4 f4
  go_enter Tryz.func164,Tryz.ntmps164
  go_wp2_with (go_at_call 160;refine (c1 _).mono ?_;rintro e w1 ⟨rfl,hb1⟩)
  go_ret
  exact ⟨by rw [HK.out]<;>rfl,hb1⟩
theorem okV_none {n v:Row} (h:anewV n v=none):okV n v=false:=by unfold okV;rw [h];rfl
theorem okV_some {n v x:Row} (h:anewV n v=some x):okV n v=(if n=kN then decide (((Va.fields v).getD []).length=5) else if n=kUID then !decide ((text v).getD []=[]) else if n=kKIND then kindB v else true):=by unfold okV;rw [h];rfl
theorem rightValue_any (name v:ByteArray) (w:World) (hs:v.size<=268435456) :
    Calls Tryz.prog 142 #[.string name,.string v] w fun e w'=>e=.returned (.bool (okV name.data.toList v.data.toList))/\Below w.heap.size w w':=by
  have cA:=fun W=>cAnew_any name v W hs
  cases han:anewV name.data.toList v.data.toList with
  | none =>
    have HO:=Lib.hid (okV_none han)
    have cA2:∀ W,Calls Tryz.prog 161 #[.string name,.string v] W fun e w'=>(∃ x:ByteArray,e=.returned (.tuple #[.string x,.int .i64 31]))/\Below W.heap.size W w':=fun W=>(cA W).mono fun e w' ⟨h1,h2⟩=>⟨(by
      rcases h1 with ⟨_,h⟩ | ⟨x,h,_⟩
      · exact h
      · rw [han] at h;cases h),h2⟩
    clear cA han
    go_enter Tryz.func142,Tryz.ntmps142
    go_wp2_with (go_at_call 161;refine (cA2 _).mono ?_;rintro e w1 ⟨⟨x,rfl⟩,hb1⟩)
    go_ret
    exact ⟨by rw [HO.out]<;>rfl,hb1⟩
  | some y =>
    have ho:=okV_some han
    have cA2:∀ W,Calls Tryz.prog 161 #[.string name,.string v] W fun e w'=>(∃ x:ByteArray,e=.returned (.tuple #[.string x,.int .i64 0]))/\Below W.heap.size W w':=fun W=>(cA W).mono fun e w' ⟨h1,h2⟩=>⟨(by
      rcases h1 with ⟨h,_⟩ | ⟨x,_,h⟩
      · rw [han] at h;cases h
      · exact ⟨x,h⟩),h2⟩
    clear cA
    by_cases f1:name=⟨#[78]⟩
    · subst f1
      have hf:(Va.fields v.data.toList).isSome=true:=by
        have:anewV (⟨#[78]⟩:ByteArray).data.toList v.data.toList=(Va.fields v.data.toList).map putF:=anewV_fields (by decide) _
        rw [this] at han
        cases h:Va.fields v.data.toList with
        | none=>rw [h] at han;cases han
        | some x=>rfl
      obtain ⟨fs,hfs⟩:=Option.isSome_iff_exists.1 hf
      have hv:okV (⟨#[78]⟩:ByteArray).data.toList v.data.toList=decide (fs.length=5):=by rw [ho,if_pos (by decide),hfs];rfl
      have c1:=fun W=>fields_is v fs W (by omega) hfs
      obtain ⟨fl,hfl⟩:∃ n,fs.length=n:=⟨_,rfl⟩
      by_cases h5:fl=5
      · have HO:=Lib.hid (hv.trans (decide_eq_true (by rw [hfl];exact h5)))
        have d5:(fl:Int)=5:=by omega
        have HFL:=Lib.hid hfl
        clear hv ho hf hfs hfl han h5
        go_enter Tryz.func142,Tryz.ntmps142
        go_wp2_with fail
        go_at_call 161
        refine (cA2 _).mono ?_
        rintro e w1 ⟨⟨x,rfl⟩,hb1⟩
        go_wp2_with fail
        go_at_call 162
        refine (c1 _).mono ?_
        rintro e w2 ⟨⟨u,rfl,hu⟩,hb2⟩
        obtain ⟨A,b,off,c,rfl,_,_,_,_⟩:=LOwn.at hu
        rw [HFL.out]
        clear hu
        go_wp2
        go_ret
        exact ⟨by rw [HO.out]<;>rfl,below_then hb1 hb2⟩
      · have HO:=Lib.hid (hv.trans (decide_eq_false (by rw [hfl];exact h5)))
        have d5:¬ (fl:Int)=5:=by omega
        have d5':((fl:Int)==5)=false:=beq_eq_false_iff_ne.2 d5
        have HFL:=Lib.hid hfl
        clear hv ho hf hfs hfl han h5
        go_enter Tryz.func142,Tryz.ntmps142
        go_wp2_with fail
        go_at_call 161
        refine (cA2 _).mono ?_
        rintro e w1 ⟨⟨x,rfl⟩,hb1⟩
        go_wp2_with fail
        go_at_call 162
        refine (c1 _).mono ?_
        rintro e w2 ⟨⟨u,rfl,hu⟩,hb2⟩
        obtain ⟨A,b,off,c,rfl,_,_,_,_⟩:=LOwn.at hu
        rw [HFL.out]
        clear hu
        go_wp2
        go_ret
        exact ⟨by rw [HO.out]<;>rfl,below_then hb1 hb2⟩
    have g1:=notName (c:=[78]) f1
    have e1:=notName' (c:=[78]) f1
    have r1:=notRow (c:=[78]) f1
    by_cases f2:name=⟨#[85,73,68]⟩
    · subst f2
      have hf:(text v.data.toList).isSome=true:=by
        have:anewV (⟨#[85,73,68]⟩:ByteArray).data.toList v.data.toList=(text v.data.toList).map put:=anewV_text (by decide) _
        rw [this] at han
        cases h:text v.data.toList with
        | none=>rw [h] at han;cases han
        | some x=>rfl
      obtain ⟨t,hfs⟩:=Option.isSome_iff_exists.1 hf
      obtain ⟨z,rfl⟩:∃ z:ByteArray,t=z.data.toList:=⟨⟨t.toArray⟩,by simp⟩
      have hv:okV (⟨#[85,73,68]⟩:ByteArray).data.toList v.data.toList=!decide (z.data.toList=[]):=by rw [ho,if_neg (by decide),if_pos (by decide),hfs];rfl
      have c1:=fun W=>text_is v z W (by omega) hfs
      by_cases hz:z=⟨#[]⟩
      · subst hz
        have HO:=Lib.hid (hv.trans (by decide):okV (⟨#[85,73,68]⟩:ByteArray).data.toList v.data.toList=false)
        clear hv ho hf hfs han g1 e1 r1 f1
        go_enter Tryz.func142,Tryz.ntmps142
        go_wp2_with fail
        go_at_call 161
        refine (cA2 _).mono ?_
        rintro e w1 ⟨⟨x,rfl⟩,hb1⟩
        go_wp2_with fail
        go_at_call 163
        refine (c1 _).mono ?_
        rintro e w2 ⟨rfl,hb2⟩
        go_wp2
        go_ret
        exact ⟨by rw [HO.out]<;>rfl,below_then hb1 hb2⟩
      · have HO:=Lib.hid (hv.trans (by rw [decide_eq_false (notRow (c:=[]) hz)];rfl):okV (⟨#[85,73,68]⟩:ByteArray).data.toList v.data.toList=true)
        have gz:=notName (c:=[]) hz
        have ez:=notName' (c:=[]) hz
        clear hv ho hf hfs han g1 e1 r1 f1 hz
        go_enter Tryz.func142,Tryz.ntmps142
        go_wp2_with fail
        go_at_call 161
        refine (cA2 _).mono ?_
        rintro e w1 ⟨⟨x,rfl⟩,hb1⟩
        go_wp2_with fail
        go_at_call 163
        refine (c1 _).mono ?_
        rintro e w2 ⟨rfl,hb2⟩
        go_wp2
        go_ret
        exact ⟨by rw [HO.out]<;>rfl,below_then hb1 hb2⟩
    have g2:=notName (c:=[85,73,68]) f2
    have e2:=notName' (c:=[85,73,68]) f2
    have r2:=notRow (c:=[85,73,68]) f2
    by_cases f3:name=⟨#[75,73,78,68]⟩
    · subst f3
      have HO:=Lib.hid (ho.trans (by rw [if_neg (by decide),if_neg (by decide),if_pos (by decide)]))
      have c1:=fun W=>cKind_any v W hs
      generalize kindB v.data.toList=kb at HO c1
      clear ho han g1 e1 r1 f1 g2 e2 r2 f2
      go_enter Tryz.func142,Tryz.ntmps142
      go_wp2_with fail
      go_at_call 161
      refine (cA2 _).mono ?_
      rintro e w1 ⟨⟨x,rfl⟩,hb1⟩
      go_wp2_with fail
      go_at_call 164
      refine (c1 _).mono ?_
      rintro e w2 ⟨rfl,hb2⟩
      go_wp2
      go_ret
      exact ⟨by rw [HO.out]<;>rfl,below_then hb1 hb2⟩
    have g3:=notName (c:=[75,73,78,68]) f3
    have e3:=notName' (c:=[75,73,78,68]) f3
    have r3:=notRow (c:=[75,73,78,68]) f3
    have q1:¬ name.data.toList=kN:=r1
    have q2:¬ name.data.toList=kUID:=r2
    have q3:¬ name.data.toList=kKIND:=r3
    have HO:=Lib.hid (ho.trans (by rw [if_neg q1,if_neg q2,if_neg q3]):okV name.data.toList v.data.toList=true)
    clear q1 q2 q3
    clear ho han f1 f2 f3 r1 r2 r3
    go_enter Tryz.func142,Tryz.ntmps142
    go_wp2_with fail
    go_at_call 161
    refine (cA2 _).mono ?_
    rintro e w1 ⟨⟨x,rfl⟩,hb1⟩
    go_wp2
    go_ret
    exact ⟨by rw [HO.out]<;>rfl,hb1⟩
end Ca
namespace Ca
open Go.Lib Go.RowKit Li
theorem belowThen {a b c:World} (h1:Below a.heap.size a b) (h2:Below b.heap.size b c):Below a.heap.size a c:=h1.trans (h2.mono h1.size)
theorem linePrm_ne:(246:TypeId)≠203:=by decide
theorem lineStr_ne:(9:TypeId)≠203:=by decide
theorem infoLine:(Tryz.prog.info? 203).map (fun i=>(i.zero,i.size,i.bytes))=some (some (.agg #[.string ⟨#[]⟩,.string ⟨#[]⟩,.slice none 0 0,.string ⟨#[]⟩]),4,72):=by kernel_rfl
def lcells:List LD->List Value->List Value
  | L :: Ls,v :: vs=>sv L.group :: sv L.name :: v :: sv L.value :: lcells Ls vs
  | _,_=>[]
theorem lcells_snoc:∀ (Ls:List LD) (vs:List Value) (L:LD) (v:Value),Ls.length=vs.length->lcells (Ls++[L]) (vs++[v])=lcells Ls vs++[sv L.group,sv L.name,v,sv L.value]
  | [],[],_,_,_=>rfl
  | q :: Ls,u :: vs,p,v,h=>by
    have:=lcells_snoc Ls vs p v (by simpa using h)
    simp only [List.cons_append,lcells,this]
  | [],_ :: _,_,_,h=>by simp at h
  | _ :: _,[],_,_,h=>by simp at h
theorem lcells_at:∀ (Ls:List LD) (vs:List Value) (j:Nat) (L:LD) (v:Value),Ls.length=vs.length->Ls[j]?=some L->vs[j]?=some v->
    (lcells Ls vs)[j*4]?=some (sv L.group)/\(lcells Ls vs)[j*4+1]?=some (sv L.name)/\(lcells Ls vs)[j*4+2]?=some v/\(lcells Ls vs)[j*4+3]?=some (sv L.value)
  | q :: Ls,u :: vs,0,L,v,h,h1,h2=>by
    simp at h1 h2;subst h1;subst h2
    exact ⟨rfl,rfl,rfl,rfl⟩
  | q :: Ls,u :: vs,j+1,L,v,h,h1,h2=>by
    have:=lcells_at Ls vs j L v (by simpa using h) (by simpa using h1) (by simpa using h2)
    rw [show (j+1)*4=j*4+1+1+1+1 by omega]
    simpa [lcells] using this
  | [],[],j,L,v,_,h1,_=>by simp at h1
  | [],_ :: _,_,_,_,h,_,_=>by simp at h
  | _ :: _,[],_,_,_,h,_,_=>by simp at h
theorem pBeside {w w':World} {B B' size n:Nat} {v v':Value} {ps:List PD} {xs:List Value} (h:POwn B v ps w) (k:w.ownsRow B' 203 size v' n xs) (hg:w.grownBy w' v'.ownBlock):POwn B v ps w':=by
  obtain ⟨vs,h1,h2,h3⟩:=h
  exact ⟨vs,h1,ownsRow_beside h2 k linePrm_ne hg,fun j p u hp hu=>ownsRow_beside (h3 j p u hp hu) k lineStr_ne hg⟩
def LsOwn (B:Nat) (v:Value) (Ls:List LD) (w:World):Prop :=
  ∃ vs:List Value,Ls.length=vs.length/\w.ownsRow B 203 4 v Ls.length (lcells Ls vs)/\∀ (j:Nat) (L:LD) (u:Value),Ls[j]?=some L->vs[j]?=some u->POwn B u L.params w
theorem LsOwn.nil (B:Nat) (w:World):LsOwn B (.slice none 0 0) [] w:=⟨[],rfl,World.ownsRow_nil w B _ 4,fun j p u h=>by simp at h⟩
theorem LsOwn.kept {w w':World} {B:Nat} {v:Value} {Ls:List LD} (h:LsOwn B v Ls w) (hb:Below w.heap.size w w'):LsOwn B v Ls w':=by
  obtain ⟨vs,h1,h2,h3⟩:=h
  exact ⟨vs,h1,ownsRow_kept h2 hb,fun j p u hp hu=>(h3 j p u hp hu).kept hb⟩
theorem LsOwn.less {w:World} {B B':Nat} {v:Value} {Ls:List LD} (h:LsOwn B v Ls w) (hb:B'<=B):LsOwn B' v Ls w:=by
  obtain ⟨vs,h1,h2,h3⟩:=h
  exact ⟨vs,h1,ownsRow_less h2 hb,fun j p u hp hu=>(h3 j p u hp hu).less hb⟩
theorem LsOwn.form {B:Nat} {v:Value} {Ls:List LD} {w:World} (h:LsOwn B v Ls w):∃ ao c,v=.slice ao Ls.length c:=by
  obtain ⟨vs,_,h2,_⟩:=h
  rcases h2.2 with ⟨hv,hn⟩ | ⟨g,cap,cur,e1,_⟩
  · exact ⟨none,0,by rw [hv,hn]⟩
  · exact ⟨_,_,e1⟩
def LinesAt (w:World) (v:Value) (Ls:List LD):Prop :=
  ∃ (A:Option Addr) (b off c:Nat),v=.slice A Ls.length c/\Ls.length<=c/\c<=maxLen/\(0 < Ls.length->A=some ⟨b,off,none⟩/\b < w.heap.size)/\
    ∀ (j:Nat) (L:LD),Ls[j]?=some L->w.cell? ⟨b,off+j*4,none⟩=some (sv L.group)/\w.cell? ⟨b,off+j*4+1,none⟩=some (sv L.name)/\
      (∃ u,w.cell? ⟨b,off+j*4+2,none⟩=some u/\PrmsAt w u L.params)/\w.cell? ⟨b,off+j*4+3,none⟩=some (sv L.value)
theorem LinesAt.kept {w w':World} {v:Value} {Ls:List LD} (h:LinesAt w v Ls) (hb:Below w.heap.size w w'):LinesAt w' v Ls:=by
  obtain ⟨A,b,off,c,h1,h2,h3,h4,h5⟩:=h
  refine ⟨A,b,off,c,h1,h2,h3,fun hl=>⟨(h4 hl).1,Nat.lt_of_lt_of_le (h4 hl).2 hb.size⟩,fun j L hj=>?_⟩
  have hlt:=(h4 (by have:=(List.getElem?_eq_some_iff.1 hj).1;omega)).2
  obtain ⟨g0,g1,⟨u,g2,g3⟩,g4⟩:=h5 j L hj
  rw [hb.cell (p:=⟨b,off+j*4,none⟩) hlt,hb.cell (p:=⟨b,off+j*4+1,none⟩) hlt,hb.cell (p:=⟨b,off+j*4+2,none⟩) hlt,hb.cell (p:=⟨b,off+j*4+3,none⟩) hlt]
  exact ⟨g0,g1,⟨u,g2,g3.kept hb⟩,g4⟩
theorem LsOwn.at {B:Nat} {v:Value} {Ls:List LD} {w:World} (h:LsOwn B v Ls w):LinesAt w v Ls:=by
  obtain ⟨vs,hl,⟨h1,h2 | ⟨g,cap,cur,e1,e2,e3,e4,e5,e6,e7⟩⟩,hv⟩:=h
  · obtain rfl:Ls=[]:=List.eq_nil_of_length_eq_zero h2.2
    exact ⟨none,0,0,0,h2.1,by simp,by unfold maxLen;omega,fun h=>absurd h (by simp),fun j l hj=>by simp at hj⟩
  · refine ⟨_,g,0,cap,e1,e4,e5,fun _=>⟨rfl,(Array.getElem?_eq_some_iff.1 e3).1⟩,fun j L hj=>?_⟩
    have hlt:=(List.getElem?_eq_some_iff.1 hj).1
    have hu:vs[j]?=some (vs[j]'(by omega)):=List.getElem?_eq_getElem (by omega)
    obtain ⟨c0,c1,c2,c3⟩:=lcells_at Ls vs j L _ hl hj hu
    have key:∀ i x,i < Ls.length*4->(lcells Ls vs)[i]?=some x->w.cell? ⟨g,0+i,none⟩=some x:=fun i x hi hx=>by
      rw [Lib.cell_of_heap e3,Nat.zero_add]
      have:(cur.toList.take (Ls.length*4))[i]?=(lcells Ls vs)[i]?:=by rw [e7]
      rw [List.getElem?_take,if_pos hi,hx] at this
      rw [<-Array.getElem?_toList,this]
    have k1:=key (j*4+1) _ (by omega) c1
    have k2:=key (j*4+2) _ (by omega) c2
    have k3:=key (j*4+3) _ (by omega) c3
    rw [<-Nat.add_assoc] at k1 k2 k3
    exact ⟨key _ _ (by omega) c0,k1,⟨_,k2,(hv j L _ hj hu).at⟩,k3⟩
def Left (w0:World) (base:Nat) (w':World):Prop:=∀ (B:Nat) (A:World),Below B A w0->B<=base->B<=w0.heap.size->Below B A w'
theorem left_of {w0 w':World} {base:Nat} {e:TypeId} {size n:Nat} {v:Value} {xs:List Value} {o:Obj} (hown:w0.ownsRow base e size v n xs) (hg:(w0.alloc o).grownBy w' v.ownBlock):Left w0 base w' :=
  fun B A hb h1 h2=>(hb.alloc h2 o).grown hg (by simp;omega) (fun k hk=>Nat.le_trans h1 (hown.lt k hk).1)
theorem append_line {w0:World} {ops:Array Oper} {rest:List Oper} {o:Oper} {a:Act} {Q:Exit->Act->World->Prop} (L:LD) (a1 a2 a4:ByteArray) (pv:Value) (h1:sv L.group=.string a1) (h2:sv L.name=.string a2) (h4:sv L.value=.string a4) (hpv:∃ ao n c,pv=.slice ao n c)
    (hgd:o.guard=none) (s xo:Operand) (ho:o.op=.call { callee:=.builtin .append,args:=#[s,xo],argTypes:=#[141,141] }) (base:Nat) (v:Value) (Ls:List LD) (g:Nat) (hgz:g=w0.heap.size) (hs:a.eval s=v) (hx:a.eval xo=.slice (some ⟨g,0,none⟩) 1 1)
    (hown:LsOwn base v Ls w0) (hp:POwn base pv L.params w0) (hl:Ls.length<=1099511627776) (hbase:base<=w0.heap.size)
    (h:∀ v' w',LsOwn base v' (Ls++[L]) w'->Left w0 base w'->wpList Tryz.prog ops Q rest (a.put o.dst v') w') :
    wpList Tryz.prog ops Q (o :: rest) a (w0.alloc (.cells #[.string a1,.string a2,pv,.string a4] 203)):=by
  obtain ⟨i0,hi,hz0,hz1,hz2⟩:=info_parts infoLine
  obtain ⟨ao,pn,pc,rfl⟩:=hpv
  subst hgz
  obtain ⟨vs,hus,hrow,hvals⟩:=hown
  have hal:Below w0.heap.size w0 (w0.alloc (.cells #[.string a1,.string a2,.slice ao pn pc,.string a4] 203)):=(Below.refl _ _).alloc (Nat.le_refl _) _
  refine wpList_append_own _ hgd s xo 141 ho base 203 i0 (.agg #[.string ⟨#[]⟩,.string ⟨#[]⟩,.slice none 0 0,.string ⟨#[]⟩]) 4 72 Tryz.underlying141 hi hz0 hz1 hz2 rfl (by decide) v Ls.length (lcells Ls vs) hs (World.ownsRow.alloc hrow _) ⟨w0.heap.size,0,none⟩ 1 1 [.string a1,.string a2,.slice ao pn pc,.string a4] hx rfl (fun j u hj=>?_) (fun u hu=>?_) (by unfold maxLen;omega) (by omega) (by simp;omega)
    (fun v' w' h5 h6 _=>h v' w' ?_ (left_of hrow h6))
  · match j,hj with
    | 0,hj=>simp at hj;subst hj;simp [Addr.add]
    | 1,hj=>simp at hj;subst hj;simp [Addr.add]
    | 2,hj=>simp at hj;subst hj;simp [Addr.add]
    | 3,hj=>simp at hj;subst hj;simp [Addr.add]
  · simp at hu
    rcases hu with rfl | rfl | rfl | rfl<;>rfl
  · refine ⟨vs++[.slice ao pn pc],by simp [hus],?_,fun j q x hq hx=>?_⟩
    · rw [lcells_snoc _ _ _ _ hus,List.length_append,h1,h2,h4]
      exact h5
    · have hrow2:=ownsRow_kept hrow hal
      by_cases hj:j < Ls.length
      · rw [List.getElem?_append_left hj] at hq
        rw [List.getElem?_append_left (by omega)] at hx
        exact pBeside ((hvals j q x hq hx).kept hal) hrow2 h6
      · rw [List.getElem?_append_right (by omega)] at hq
        rw [List.getElem?_append_right (by omega)] at hx
        have hj0:j=Ls.length:=by
          have:=(List.getElem?_eq_some_iff.1 hq).1
          simp at this;omega
        subst hj0
        rw [Nat.sub_self] at hq
        rw [hus,Nat.sub_self] at hx
        simp at hq hx
        subst hq;subst hx
        exact pBeside (hp.kept hal) hrow2 h6
theorem LinesAt.line {w:World} {b off:Nat} {Ls:List LD} (h:∀ (j:Nat) (L:LD),Ls[j]?=some L->w.cell? ⟨b,off+j*4,none⟩=some (sv L.group)/\w.cell? ⟨b,off+j*4+1,none⟩=some (sv L.name)/\
      (∃ u,w.cell? ⟨b,off+j*4+2,none⟩=some u/\PrmsAt w u L.params)/\w.cell? ⟨b,off+j*4+3,none⟩=some (sv L.value)) (hlt:b < w.heap.size) {wr:World} (hb:Below w.heap.size w wr) {j:Nat} {L:LD} (hj:Ls[j]?=some L) :
    ∃ (a1 a2 a4:ByteArray) (A:Option Addr) (n c:Nat),sv L.group=.string a1/\sv L.name=.string a2/\sv L.value=.string a4/\n=L.params.length/\PrmsAt wr (.slice A n c) L.params/\
      wr.cell? ⟨b,off+j*4,none⟩=some (.string a1)/\wr.cell? ⟨b,off+j*4+1,none⟩=some (.string a2)/\wr.cell? ⟨b,off+j*4+2,none⟩=some (.slice A n c)/\wr.cell? ⟨b,off+j*4+3,none⟩=some (.string a4):=by
  obtain ⟨g0,g1,⟨u,g2,g3⟩,g4⟩:=h j L hj
  have g3':=g3.kept hb
  obtain ⟨A,_,_,c,hu,_⟩:=g3
  rw [<-hb.cell (p:=⟨b,off+j*4,none⟩) hlt] at g0
  rw [<-hb.cell (p:=⟨b,off+j*4+1,none⟩) hlt] at g1
  rw [<-hb.cell (p:=⟨b,off+j*4+2,none⟩) hlt] at g2
  rw [<-hb.cell (p:=⟨b,off+j*4+3,none⟩) hlt] at g4
  subst hu
  exact ⟨_,_,_,A,_,c,rfl,rfl,rfl,rfl,g3',g0,g1,g2,g4⟩
end Ca
end Go.Proofs.YtobfaibofhmpgaaGreatDoor
