import Derived.Test.YtgkkdpegcieakaaGreatDoorCw07
set_option linter.all false
set_option maxRecDepth 100000
set_option maxHeartbeats 16000000
namespace Go.Proofs.YtgkkdpegcieakaaGreatDoor
open Go.Proofs.Tryz
open Value renaming int→Z
open List renaming length→Xg
open IntKind renaming i64→Y
open Go renaming World→WR,Value→WS,Calls→WT
namespace Sp
open Go
theorem Pf(c:UInt8):∀(p r:List UInt8),c∉p->um c (p++c::r)=p::um c r:=by
 intro p
 induction p with
 |nil=>intro r h;simp[um]
 |cons b p j =>
  intro r h;have l:¬b=c:=λe=>h (by rw[e];exact UI ..)
  simp only[UM,um,TZ l];rw[j r (λm=>h (UZ _ m))]
theorem Ll(c:UInt8):∀(l p:List UInt8) (t:List (List UInt8)),um c l=p::t->t≠[]->∃r,l=p++c::r/\um c r=t:=by
 intro l
 induction l with
 |nil=>intro p t h j;simp[um] at h;exact absurd h.2 (λe=>j (by first | exact e | exact e.symm))
 |cons b l y =>
  intro p t h j;simp only[um] at h;split at h
  .rename_i z;injection h with m u;subst m z;exact⟨l,O,u⟩
  .obtain⟨A,B,e⟩:=zY c l;rw[e] at h;injection h with m u;subst m u;obtain⟨r,C,F⟩:=y A B e j;exact⟨r,by rw[C];rfl,F⟩
theorem SL:∀i,i<7->(32:UInt8)∉hd i:=by decide
theorem Ei(x:WU):(ws x).map (·.data.toList)=um 32 x.data.toList:=pD x 32
theorem head_map{X:List WU}:(X.headD ⟨#[]⟩).data.toList=(X.map (·.data.toList)).headD []:=by cases X <;> rfl
theorem A1{X:List WU}:X.tail.map (·.data.toList)=(X.map (·.data.toList)).tail:=by cases X <;> rfl
variable {x:WU}{i:Nat}
theorem xq(hi:i<7)(h:¬(hd i++[32]) <+: x.data.toList): dO i x=false:=by
 apply WC.2;intro u;unfold dO at u;rw[V6] at u;obtain⟨e,l⟩:=u;have e:=VI e;rw[head_map,Ei] at e;have m:(um 32 x.data.toList).tail≠[]:=by
  rw[<-Ei,<-A1];intro z;have y:(ws x).tail=[]:=by cases j:(ws x).tail with
   |nil=>rfl
   |cons a b=>rw[j] at z;cases z
  rw[y] at l;split at l
  .simp at l
  .simp at l
 cases j:um 32 x.data.toList with
 |nil=>rw[j] at m;exact m O
 |cons a b =>
  rw[j] at e m;simp only[List.headD_cons] at e;subst e;obtain⟨r,A,_⟩:=Ll 32 _ _ _ j m;exact h ⟨r,by rw[A];simp⟩
variable {rest:WU}
theorem uH(hi:i<7)(h:x.data.toList=hd i++32::rest.data.toList): (ws x).tail=split rest 32/\((ws x).headD ⟨#[]⟩).data.toList=hd i:=by
 have e:=Ei x;rw[h,Pf 32 _ _ (SL i hi)] at e;constructor
 .apply vP;rw[A1,e,List.tail_cons];exact(pD rest 32).symm
 .rw[head_map,e,List.headD_cons]
theorem AL(hi:i<5)(h:x.data.toList=hd i++32::rest.data.toList): dO i x=kh (i == 2) ((split rest 32).map (·.data.toList)) 0:=by
 obtain⟨j,l⟩:=uH (by omega) h;unfold dO;rw[j,l,TZ (by omega)];have e:(split rest 32).isEmpty=false:=by
  have:=(jq rest 32).1;cases m:split rest 32 with
  |nil=>rw[m] at this;simp at this
  |cons a b=>rfl
 rw[e];simp
theorem An(hi:5<=i)(b:i<7)(h:x.data.toList=hd i++32::rest.data.toList): dO i x=(decide ((split rest 32).length=1)&&decide (((split rest 32).headD ⟨#[]⟩).data.toList∈ft)):=by
 obtain⟨e,j⟩:=uH b h;unfold dO;rw[e,j,T0 hi];simp
variable {p:List UInt8}
theorem Je(h:p <+: x.data.toList): x.data.toList=p++(x.extract (Xg p) x.size).data.toList:=by
 obtain⟨r,b⟩:=h;have:(x.extract (Xg p) x.size).data.toList=x.data.toList.drop (Xg p):=by
  rw[ByteArray.data_extract,Array.toList_extract,List.extract_eq_take_drop];have:x.size=Xg x.data.toList:=Va.symm;rw[this,Vc (by simp)]
 rw[this,<-b];simp
theorem AA(h:Xg p<=x.size): (x.extract 0 (Xg p)).toList=p↔p <+: x.data.toList:=by
 have b:x.size=Xg x.data.toList:=Va.symm;have:(x.extract 0 (Xg p)).toList=x.data.toList.take (Xg p):=by
  rw[Vt,ByteArray.data_extract,Array.toList_extract,List.extract_eq_take_drop];simp
 rw[this,List.prefix_iff_eq_take];exact⟨λh=>h.symm,λh=>h.symm⟩
theorem NM(h:p <+: x.data.toList): Xg p<=x.size:=by
 have b:x.size=Xg x.data.toList:=Va.symm;rw[b];exact h.length_le
theorem tT(s:WU):Lib.splitB ⟨#[32]⟩ 0 (Lib.countB s ⟨#[32]⟩) s=split s 32:=by
 apply vP;rw[Lib.splitB_data];have:=pD s 32;rw[show (32:UInt8).toNat=32 from rfl] at this;rw[this];exact vC 32 s.data.toList
theorem xd(s:WU):Lib.countB s ⟨#[32]⟩+1=(split s 32).length:=by
 rw[<-tT,Lib.splitB_all ⟨#[32]⟩ (by decide) 0 _ s rfl]
end Sp
end Go.Proofs.YtgkkdpegcieakaaGreatDoor
