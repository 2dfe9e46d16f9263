import Derived.Test.YtgkkdpegcieakaaGreatDoorCv06
set_option linter.all false
set_option maxRecDepth 100000
set_option maxHeartbeats 0
namespace Go.Proofs.YtgkkdpegcieakaaGreatDoor
open Go.Proofs.Tryz
open Value renaming int→Z
open List renaming length→Wn
open IntKind renaming i64→Y
open Go renaming World→V5,Value→V6,Calls→V7
namespace Sp
open Go
theorem PI(c:UInt8):∀(p r:List UInt8),c∉p->uh c (p++c::r)=p::uh c r:=by
 intro p
 induction p with
 |nil=>intro r h;simp[uh]
 |cons b p j =>
  intro r h;have l:¬b=c:=λe=>h (by rw[e];exact TV ..)
  simp only[TZ,uh,Tf l];rw[j r (λm=>h (Ug _ m))]
theorem Lf(c:UInt8):∀(l p:List UInt8) (t:List (List UInt8)),uh c l=p::t->t≠[]->∃r,l=p++c::r/\uh c r=t:=by
 intro l
 induction l with
 |nil=>intro p t h j;simp[uh] at h;exact absurd h.2 (λe=>j (by first | exact e | exact e.symm))
 |cons b l y =>
  intro p t h j;simp only[uh] at h;split at h
  .rename_i z;injection h with m u;subst m z;exact⟨l,O,u⟩
  .obtain⟨A,B,e⟩:=ze c l;rw[e] at h;injection h with m u;subst m u;obtain⟨r,C,F⟩:=y A B e j;exact⟨r,by rw[C];rfl,F⟩
theorem QN:∀i,i<7->(32:UInt8)∉hd i:=by decide
theorem D5(x:V8):(ws x).map (·.data.toList)=uh 32 x.data.toList:=ph x 32
theorem head_map{X:List V8}:(X.headD ⟨#[]⟩).data.toList=(X.map (·.data.toList)).headD []:=by cases X <;> rfl
theorem Bp{X:List V8}:X.tail.map (·.data.toList)=(X.map (·.data.toList)).tail:=by cases X <;> rfl
variable {x:V8}{i:Nat}
theorem xg(hi:i<7)(h:¬(hd i++[32]) <+: x.data.toList): dQ i x=false:=by
 apply VR.2;intro u;unfold dQ at u;rw[Vl] at u;obtain⟨e,l⟩:=u;have e:=Vm e;rw[head_map,D5] at e;have m:(uh 32 x.data.toList).tail≠[]:=by
  rw[<-D5,<-Bp];intro z;have y:(ws x).tail=[]:=by cases j:(ws x).tail with
   |nil=>rfl
   |cons a b=>rw[j] at z;cases z
  rw[y] at l;split at l
  .simp at l
  .simp at l
 cases j:uh 32 x.data.toList with
 |nil=>rw[j] at m;exact m O
 |cons a b =>
  rw[j] at e m;simp only[List.headD_cons] at e;subst e;obtain⟨r,A,_⟩:=Lf 32 _ _ _ j m;exact h ⟨r,by rw[A];simp⟩
variable {rest:V8}
theorem ue(hi:i<7)(h:x.data.toList=hd i++32::rest.data.toList): (ws x).tail=split rest 32/\((ws x).headD ⟨#[]⟩).data.toList=hd i:=by
 have e:=D5 x;rw[h,PI 32 _ _ (QN i hi)] at e;constructor
 .apply uN;rw[Bp,e,List.tail_cons];exact(ph rest 32).symm
 .rw[head_map,e,List.headD_cons]
theorem zY(hi:i<5)(h:x.data.toList=hd i++32::rest.data.toList): dQ i x=kI (i == 2) ((split rest 32).map (·.data.toList)) 0:=by
 obtain⟨j,l⟩:=ue (by omega) h;unfold dQ;rw[j,l,Tf (by omega)];have e:(split rest 32).isEmpty=false:=by
  have:=(jo rest 32).1;cases m:split rest 32 with
  |nil=>rw[m] at this;simp at this
  |cons a b=>rfl
 rw[e];simp
theorem B1(hi:5<=i)(b:i<7)(h:x.data.toList=hd i++32::rest.data.toList): dQ i x=(decide ((split rest 32).length=1)&&decide (((split rest 32).headD ⟨#[]⟩).data.toList∈fp)):=by
 obtain⟨e,j⟩:=ue b h;unfold dQ;rw[e,j,Tg hi];simp
variable {p:List UInt8}
theorem Lr(h:p <+: x.data.toList): x.data.toList=p++(x.extract (Wn p) x.size).data.toList:=by
 obtain⟨r,b⟩:=h;have:(x.extract (Wn p) x.size).data.toList=x.data.toList.drop (Wn p):=by
  rw[ByteArray.data_extract,Array.toList_extract,List.extract_eq_take_drop];have:x.size=Wn x.data.toList:=Uv.symm;rw[this,Ur (by simp)]
 rw[this,<-b];simp
theorem BR(h:Wn p<=x.size): (x.extract 0 (Wn p)).toList=p↔p <+: x.data.toList:=by
 have b:x.size=Wn x.data.toList:=Uv.symm;have:(x.extract 0 (Wn p)).toList=x.data.toList.take (Wn p):=by
  rw[UK,ByteArray.data_extract,Array.toList_extract,List.extract_eq_take_drop];simp
 rw[this,List.prefix_iff_eq_take];exact⟨λh=>h.symm,λh=>h.symm⟩
theorem Me(h:p <+: x.data.toList): Wn p<=x.size:=by
 have b:x.size=Wn x.data.toList:=Uv.symm;rw[b];exact h.length_le
theorem tA(s:V8):Lib.splitB ⟨#[32]⟩ 0 (Lib.countB s ⟨#[32]⟩) s=split s 32:=by
 apply uN;rw[Lib.splitB_data];have:=ph s 32;rw[show (32:UInt8).toNat=32 from rfl] at this;rw[this];exact uX 32 s.data.toList
theorem xe(s:V8):Lib.countB s ⟨#[32]⟩+1=(split s 32).length:=by
 rw[<-tA,Lib.splitB_all ⟨#[32]⟩ (by decide) 0 _ s rfl]
end Sp
end Go.Proofs.YtgkkdpegcieakaaGreatDoor
