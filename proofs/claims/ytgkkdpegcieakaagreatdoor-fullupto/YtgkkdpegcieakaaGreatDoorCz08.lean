import Derived.Test.YtgkkdpegcieakaaGreatDoorCz07
set_option linter.unusedVariables false
set_option linter.unusedSimpArgs false
set_option maxRecDepth 100000
set_option maxHeartbeats 16000000
namespace Go.Proofs.YtgkkdpegcieakaaGreatDoor
open Go.Proofs.Tryz
open Value renaming int→Z
open IntKind renaming i64→Y
open Go renaming World→TJ,Value→TK,Calls→TL
namespace Sp
open Go
theorem Nv(c:UInt8):∀(p r:List UInt8),c∉p->tW c (p++c::r)=p::tW c r:=by
 intro p
 induction p with
 |nil=>intro r h;simp[tW]
 |cons b p j =>
  intro r h;have l:¬b=c:=λe=>h (by rw[e];exact mz ..)
  simp only[mf,tW,cd l];rw[j r (λm=>h (ts _ m))]
theorem J6(c:UInt8):∀(l p:List UInt8) (t:List (List UInt8)),tW c l=p::t->t≠[]->∃r,l=p++c::r/\tW c r=t:=by
 intro l
 induction l with
 |nil=>intro p t h j;simp[tW] at h;exact absurd h.2 (λe=>j (by first | exact e | exact e.symm))
 |cons b l y =>
  intro p t h j;simp only[tW] at h;split at h
  .rename_i z;injection h with m u;subst m z;exact⟨l,rfl,u⟩
  .obtain⟨A,B,e⟩:=zw c l;rw[e] at h;injection h with m u;subst m u;obtain⟨r,C,D⟩:=y A B e j;exact⟨r,by rw[C];rfl,D⟩
theorem PX:∀i,i<7->(32:UInt8)∉hd i:=by decide
theorem CG(x:TM):(ws x).map (·.data.toList)=tW 32 x.data.toList:=pj x 32
theorem head_map{X:List TM}:(X.headD ⟨#[]⟩).data.toList=(X.map (·.data.toList)).headD []:=by cases X <;> rfl
theorem A5{X:List TM}:X.tail.map (·.data.toList)=(X.map (·.data.toList)).tail:=by cases X <;> rfl
variable {i:Nat}{x:TM}
theorem xw(hi:i<7)(h:¬(hd i++[32]) <+: x.data.toList): dN i x=false:=by
 apply Tv.2;intro u;unfold dN at u;rw[Ns] at u;obtain⟨e,l⟩:=u;have e:=Oh e;rw[head_map,CG] at e;have m:(tW 32 x.data.toList).tail≠[]:=by
  rw[<-CG,<-A5];intro z;have y:(ws x).tail=[]:=by cases j:(ws x).tail with
   |nil=>rfl
   |cons a b=>rw[j] at z;cases z
  rw[y] at l;split at l
  .simp at l
  .simp at l
 cases j:tW 32 x.data.toList with
 |nil=>rw[j] at m;exact m rfl
 |cons a b =>
  rw[j] at e m;simp only[List.headD_cons] at e;subst e;obtain⟨r,A,_⟩:=J6 32 _ _ _ j m;exact h ⟨r,by rw[A];simp⟩
variable {rest:TM}
theorem ud(hi:i<7)(h:x.data.toList=hd i++32::rest.data.toList): (ws x).tail=split rest 32/\((ws x).headD ⟨#[]⟩).data.toList=hd i:=by
 have e:=CG x;rw[h,Nv 32 _ _ (PX i hi)] at e;constructor
 .apply vY;rw[A5,e,List.tail_cons];exact(pj rest 32).symm
 .rw[head_map,e,List.headD_cons]
theorem BB(hi:i<5)(h:x.data.toList=hd i++32::rest.data.toList): dN i x=kh (i == 2) ((split rest 32).map (·.data.toList)) 0:=by
 obtain⟨j,l⟩:=ud (by omega) h;unfold dN;rw[j,l,cd (by omega)];have e:(split rest 32).isEmpty=false:=by
  have:=(jk rest 32).1;cases m:split rest 32 with
  |nil=>rw[m] at this;simp at this
  |cons a b=>rfl
 rw[e];simp
theorem Ar(hi:5<=i)(b:i<7)(h:x.data.toList=hd i++32::rest.data.toList): dN i x=(decide ((split rest 32).length=1)&&decide (((split rest 32).headD ⟨#[]⟩).data.toList∈fj)):=by
 obtain⟨e,j⟩:=ud b h;unfold dN;rw[e,j,cg hi];simp
variable {p:List UInt8}
theorem GP(h:p <+: x.data.toList): x.data.toList=p++(x.extract p.length x.size).data.toList:=by
 obtain⟨r,b⟩:=h;have:(x.extract p.length x.size).data.toList=x.data.toList.drop p.length:=by
  rw[ByteArray.data_extract,Array.toList_extract,List.extract_eq_take_drop];have:x.size=x.data.toList.length:=zh.symm;rw[this,zS (by simp)]
 rw[this,<-b];simp
theorem AB(h:p.length<=x.size): (x.extract 0 p.length).toList=p↔p <+: x.data.toList:=by
 have b:x.size=x.data.toList.length:=zh.symm;have:(x.extract 0 p.length).toList=x.data.toList.take p.length:=by
  rw[B3,ByteArray.data_extract,Array.toList_extract,List.extract_eq_take_drop];simp
 rw[this,List.prefix_iff_eq_take];exact⟨λh=>h.symm,λh=>h.symm⟩
theorem KU(h:p <+: x.data.toList): p.length<=x.size:=by
 have b:x.size=x.data.toList.length:=zh.symm;rw[b];exact h.length_le
theorem tq(s:TM):Lib.splitB ⟨#[32]⟩ 0 (Lib.countB s ⟨#[32]⟩) s=split s 32:=by
 apply vY;rw[Lib.splitB_data];have:=pj s 32;rw[show (32:UInt8).toNat=32 from rfl] at this;rw[this];exact vg 32 s.data.toList
theorem wE(s:TM):Lib.countB s ⟨#[32]⟩+1=(split s 32).length:=by
 rw[<-tq,Lib.splitB_all ⟨#[32]⟩ (by decide) 0 _ s rfl]
end Sp
end Go.Proofs.YtgkkdpegcieakaaGreatDoor
