import Derived.Test.YtgkkdpegcieakaaGreatDoorCz34
import Derived.Test.YtgkkdpegcieakaaGreatDoorCz35P
set_option linter.unusedVariables false
set_option linter.unusedSimpArgs false
set_option maxRecDepth 100000
set_option maxHeartbeats 16000000
namespace Go.Proofs.YtgkkdpegcieakaaGreatDoor
open Go.Proofs.Tryz
open Value renaming int→Z
open IntKind renaming i64→Y
open Go renaming World→TJ,Value→TK,Calls→TL
namespace Ru
open Go.RowKit
open Rd (Rk e0)
open Pk (jo Sm fy TP cZ cS cY)
open Dk (Kept)
theorem Cd{w:TJ}{D E S cX n cU:Nat}{Q R:Rk}{O:Nat->Prop}{v:TK}{T:Sn.Tb}(h:ow w D E S cX n cU Q R O v T){B e s m:Nat}{u:TK}{r:List TK}(y:w.ownsRow B e s u m r)(he:e∉jd/\e≠113/\e≠181):∀g,u.ownBlock=some g->¬OO O S v g:=λg z A=>by
 obtain⟨C,b,_⟩:=cZ y z;rcases A with e1|e1
 .exact nP h.two b he.1 e1
 .rcases e1 with e1|e1
  .subst e1;exact cY b h.sh.tab.blk he.2.1 rfl
  .obtain⟨l,j,_⟩:=cZ h.sh.tab.row e1;exact cY b j he.2.2 rfl
theorem No{Q:Rk}{n b:Nat}(h:Sm Q n b)(e:Q.Ok){a:TM}(ha:a∈Q.fH):a.size<=12:=by
 unfold Rk.fH at ha;split at ha
 .cases ha
 .obtain⟨p,j,rfl⟩:=xD.1 ha;exact Pk.Sm.N9 h Q.dS.length p ((Rd.fx (e.ez _)).1 j)
def gone(K:List Nat)(L:List TM)(k:Nat):List Oq:=((L.take k).filter λa=>!B5 K a).map m7
variable {k:Nat}{K:List Nat}{L:List TM}
theorem KP(h:k<L.length)(b:B5 K L[k]=true): gone K L (k+1)=gone K L k:=by
 unfold gone;rw[zQ h,Dr,List.filter_cons_of_neg (by simp[b])];simp
theorem Ia(h:k<L.length)(b:B5 K L[k]=false): gone K L (k+1)=gone K L k++[m7 L[k]]:=by
 unfold gone;rw[zQ h,Dr,List.filter_cons_of_pos (by simp[b])];simp
theorem AJ: dO L K=if gone K L L.length=[] then [] else gone K L L.length++[nS]:=by
 unfold gone dO;rw[wI]
theorem Cm(h:k<L.length)(j:B5 K L[k]=false): ∃rest,dO L K=gone K L k++(m7 L[k]::rest):=by
 have e:L=L.take k++L[k]::L.drop (k+1):=by rw[<-kp h,r4]
 have b:gone K L L.length=gone K L k++(m7 L[k]::((L.drop (k+1)).filter λa=>!B5 K a).map m7):=by
  unfold gone;rw[wI]
  conv=>lhs;rw[e]
  rw[Dr,List.filter_cons_of_pos (by simp[j]),Bg,wj]
 rw[AJ,cd (by rw[b];simp),b];exact⟨_,by rw[mR];rfl⟩
theorem Iv{T b:Sn.Tb}{x:Nat × Sn.Ce}{cU:Nat}(h:cU<(x::b).length):(x::b).drop ((x::b).length-cU)=b.drop (b.length-cU):=by
 rw[cD] at h ⊢;rw[show b.length+1-cU=(b.length-cU)+1 by omega,MC]
theorem xl(D E S cX n cU nn b:Nat)(Q R:Rk)(O:Nat->Prop)(v:TK)(T:Sn.Tb)(w:TJ)(h:ow w D E S cX n cU Q R O v T)(hT:∀x∈T,x.1<=9999999999)(hs:Sm Q nn b)(ag:nn<=1000000000)(hm:cU<=1000000000)(av:Q.nh=0):TL prog 51 #[.pointer (some ⟨S,0,none⟩)] w (mK w D E S cX n cU R O v (λT'=>T'=T.drop (T.length-cU)) (eg Q (dO Q.fH ((T.drop (T.length-cU)).map (·.1))))):=by
 generalize hO:mK w D E S cX n cU R O v (λT'=>T'=T.drop (T.length-cU)) (eg Q (dO Q.fH ((T.drop (T.length-cU)).map (·.1))))=P;replace hO:=cP hO;obtain⟨TF,ah⟩:∃x,Hid (T.drop (T.length-cU)=x):=⟨_,rfl⟩
 rw[cO ah] at hO;have aw:∀x∈TF,x.1<=9999999999:=λx hx=>hT x (by rw[<-cO ah] at hx;exact Ep hx)
 have aL:=cP aw;have aM:Hid (∀(W:TJ) (v':TK) (T':Sn.Tb),gF W S D cX n cU v' T'->TL prog 87 #[.pointer (some ⟨S,4,none⟩)] W λe w'=>e=.returned (Z Y T'.length)/\w'=W):=λW v' T' h=>Rt.DN S 4 _ _ v' T' W h.tab
 have hl:=h.sh.tab.len;have ai:Hid (nI w O v w D E S cX n cU Q R O v T):=⟨h,fy.refl _ _⟩
 have HS:=cP hs;have aN:=GJ hs h.two.NR.1;have ax:=cP av;have aO:=cP h.two.NR.1;clear h hT aw hs av;go_enter func51,ntmps51;go_wp2_with fail
 go_loopw [17] (λ_ wr=>∃(j:Sn.Tb) (A:TK),j.length<=1000000000/\ln S wr=j.length/\Hid (nI w O v wr D E S cX n cU Q R O A j/\j.drop (j.length-cU)=TF)) (λ_ wr=>ln S wr)
 case atStart=>exact⟨T,v,hl,(cO ai).sf.sh.ln,cO ai,cO ah⟩
 case round =>
  clear ai;obtain⟨j,A,aP,ay,r⟩:=hrel;have az:=cP ay;clear ay;have c3:=(cO r).1.sf.sh.c3;have N:=cP (cO aM wr.drew A j ((cO r).1.sf.sh.below TH.drew));have u:Hid (nI w O v wr.drew D E S cX n cU Q R O A j):=(cO r).1.below TH.drew;by_cases B:cU<j.length
  .have aA:(cU:Int)<(j.length:Int):=by omega
   go_upto_region 0 with fail
   go_region_held3 (λw'=>w'.cell? ⟨S,3,none⟩=some (Z Y (cU:Int)))
    (first|(assumption)|(go_keep;done))
    (first|(go_at_call 87;refine(cO N).mono ?_;rintro e w1 ⟨rfl,aj⟩;obtain rfl:=aj.symm))
   clear N c3;cases j with
   |nil=>exact absurd B (by simp)
   |cons kx T2 =>
    obtain⟨k,x⟩:=kx;have aB:=cP (vE S D cX n cU A T2 k x wr.drew (cO u).sf.sh);have aQ:Hid (T2.drop (T2.length-cU)=TF):=by show _=_;rw[<-Iv (T:=[]) B];exact(cO r).2
    rw[cD] at B aP aA az;clear r;go_wp2_with fail;refine(cO aB).mono ?_;rintro e w2 ⟨rfl,v2,ae,af,aC⟩;obtain⟨f1,f2⟩:=(cO u).sf.forget ae af aC;have U:Hid (nI w O v w2 D E S cX n cU Q R O v2 T2):=⟨f1,(cO u).st.trans f2⟩
    clear ae af aC f1 f2 aB u;go_wp2;go_roundw
    case rel=>exact⟨T2,v2,by omega,(cO U).sf.sh.ln,cO U,cO aQ⟩
    case measure =>
     have H:=cO az;have V:=(cO U).sf.sh.ln
     show ln S _<ln S _
     omega
  .have aA:¬(cU:Int)<(j.length:Int):=by omega
   have aR:j=TF:=by
    have:=(cO r).2;rw[show j.length-cU=0 by omega,List.drop_zero] at this;exact this
   subst aR;have X:=cP (Pk.Js (cO u).sf.two (cO HS) ag);rw[cO ax] at X;have s0:=(cO u).sf.sh.c0;obtain⟨L,HL⟩:∃L,Hid (Q.fH=L):=⟨_,rfl⟩
   rw[cO HL] at X aN hO;obtain⟨G,aD⟩:∃K,Hid (j.map (·.1)=K):=⟨_,rfl⟩
   rw[cO aD] at hO;clear r ax;go_upto_region 0 with fail
   go_region_held3 (λw'=>w'.cell? ⟨S,3,none⟩=some (Z Y (cU:Int)))
    (first|(assumption)|(go_keep;done))
    (first|(go_at_call 87;refine(cO N).mono ?_;rintro e w1 ⟨rfl,aj⟩;obtain rfl:=aj.symm))
   clear N c3;go_wp2_with fail;refine(cO X).mono ?_;rintro e w3 ⟨vL,rfl,I,aE⟩;have aF:Hid (nI w O v w3 D E S cX n cU Q R O A j):=(cO u).below aE;obtain⟨pl,cl,rfl⟩:=lW I;have aG:=cP I;clear I aE X s0 u;go_wp2_with fail;refine(iY w3).mono ?_;rintro e wm ⟨rfl,m⟩;obtain rfl:=m.symm;go_wp2_with fail;have aH:Hid (nI w O v w3 D E S cX n cU Q R O A j/\eg Q (gone G L 0)=(0,Q)/\Sm Q nn b/\w3.ownsRow 0 9 1 (.slice pl L.length cl) L.length (Rd.strs L)):=⟨cO aF,rfl,cO HS,Dk.rL (cO aG)⟩
   obtain⟨wA,aS⟩:∃wA,wA=wr:=⟨wr,rfl⟩
   subst aS;clear aF aG
   go_loopw [4,30] (λf i wr=>∃(k:Nat) (l:Rk) (Ok:Nat->Prop),k<=L.length/\f=.bool (!(gone G L k).isEmpty)/\i=Z Y k/\Hid (nI w O v wr D E S cX n cU l R Ok A j/\eg Q (gone G L k)=(0,l)/\Sm l nn b/\wr.ownsRow 0 9 1 (.slice pl L.length cl) L.length (Rd.strs L))) (λ_ i _=>L.length-(intOf i).toNat)
   case atStart=>exact⟨0,Q,O,cy _,rfl,rfl,aH⟩
   case round =>
    clear aH;obtain⟨k,l,Ok,hk,rfl,rfl,r⟩:=hrel;by_cases t:k<L.length
    .have aI:(k:Int)<(L.length:Int):=by omega
     obtain⟨a8,ba,aT,aJ⟩:=dd (cO r).2.2.2;injection aT with aU _ aV;subst aU aV;obtain⟨g,rfl,_,_,c0⟩:=aJ k (by omega);obtain⟨a,HA⟩:∃a,Hid (L[k]=a):=⟨L[k],cP rfl⟩
     replace c0:wr.cell? ⟨g,k,none⟩=some (.string a):=by
      rw[c0,<-cO HA];unfold Rd.strs;rw[K1,cH t];rfl
     have F:=cP (pG S D cX n cU A j a wr (cO r).1.sf.sh (cO aL) (cO r).1.sf.pw);rw[cO aD] at F;clear aJ;obtain⟨kb,s⟩:∃x,Hid (B5 G a=x):=⟨_,rfl⟩
     rw[cO s] at F;cases kb with
     |true =>
      have HG:=cP (KP t (by rw[cO HA];exact cO s));go_wp2_with fail;refine(cO F).mono ?_;rintro e w4 ⟨rfl,C⟩;obtain⟨H,V,p,h4⟩:=cO r;have aW:Hid (nI w O v w4 D E S cX n cU l R Ok A j/\eg Q (gone G L (k+1))=(0,l)/\Sm l nn b/\w4.ownsRow 0 9 1 (.slice (some ⟨g,0,none⟩) L.length cl) L.length (Rd.strs L)):=⟨H.below C,by rw[cO HG];exact V,p,cW h4 C⟩
      clear r F c0 C H V p h4;go_wp2;go_roundw
      case rel=>exact⟨k+1,l,Ok,by omega,by rw[cO HG],by go_num,aW⟩
      case measure=>simp[intOf];omega
     |false =>
      have HG:=cP (Ia t (by rw[cO HA];exact cO s));have o:=cP (Cm t (by rw[cO HA];exact cO s));rw[cO HA] at HG o;have za:a.size<=1048576:=by
       have:=No (cO HS) (cO aO) (a:=a) (by rw[cO HL,<-cO HA];exact pY _);omega
      go_wp2_with fail;refine(cO F).mono ?_;rintro e w4 ⟨rfl,C⟩;obtain⟨H,V,p,h4⟩:=cO r;have J:Hid (nI w O v w4 D E S cX n cU l R Ok A j):=H.below C;have ak:=cP (cW h4 C);have s0:=(cO J).sf.sh.c0;have an:=cP (Pk.qY a (cO J).sf.two p ag za);have ao:=cP p;have HE:=cP V;have y:Hid (dz l (m7 a)=l.remove a):=rfl;obtain⟨er,z⟩:∃x,Hid ((l.remove a).1=x):=⟨_,rfl⟩
      rw[cO z] at an;clear r F c0 C H V p h4;go_wp2_with fail;refine(cO an).mono ?_;rintro e w5 ⟨rfl,O5,t5,s5⟩;have M:=cP ((cO J).op t5 s5);have aq:Hid (w5.ownsRow 0 9 1 (.slice (some ⟨g,0,none⟩) L.length cl) L.length (Rd.strs L)):=Dk.du (cO ak) s5.kept (λg' aX aY=>Cd (cO J).sf (cO ak) (by decide) g' aX (Or.inl aY));clear an J ak t5 s5 s0;by_cases hz:er=0
      .subst hz;have aZ:Hid (nI w O v w5 D E S cX n cU (l.remove a).2 R O5 A j/\eg Q (gone G L (k+1))=(0,(l.remove a).2)/\Sm (l.remove a).2 nn b/\w5.ownsRow 0 9 1 (.slice (some ⟨g,0,none⟩) L.length cl) L.length (Rd.strs L)):=by
        refine⟨cO M,?_,(cO ao).remove a,cO aq⟩;rw[cO HG,iE,cO HE,cg rfl,pt,cO y,<-cO z]
       have a1:Hid ((gone G L (k+1)).isEmpty=false):=by show _=_;rw[cO HG];simp
       clear M aq HE y z ao o;go_wp2_with fail;refine(iY w5).mono ?_;rintro e wm ⟨rfl,m⟩;obtain rfl:=m.symm;go_wp2;go_roundw
       case rel=>exact⟨k+1,_,O5,by omega,by rw[cO a1];rfl,by go_num,aZ⟩
       case measure=>simp[intOf];omega
      .have HF:Hid (P (.panicked (gD er)) w5):=by
        show P _ _
        obtain⟨rest,hr⟩:=cO o;have a6:(dz l (m7 a)).1≠0:=by rw[cO y,cO z];exact hz
        rw[<-cO hO,hr,iE,cO HE,cg rfl,qm a6,cO y];exact⟨λh=>absurd ((cO z).symm.trans h) hz,λ_=>by rw[cO z],O5,A,j,λh=>absurd ((cO z).symm.trans h) hz,(cO M).sf,(cO M).st⟩
       clear M aq HE y z ao o;go_wp2_with fail;refine(jD er hz w5).mono ?_;rintro e wm ⟨rfl,m⟩;obtain rfl:=m.symm;exact⟨rfl,cO HF⟩
    .have aI:¬(k:Int)<(L.length:Int):=by omega
     have a7:k=L.length:=by omega
     subst a7;obtain⟨H,V,p,h4⟩:=cO r;have U:=cP H;have HE:=cP V;have s0:=H.sf.sh.c0;have aa:=cP (Pk.sN H.sf.two p ag);have y:Hid (dz l nS=l.eY):=rfl;have ab:=cP (AJ (K:=G) (L:=L));clear r H V p h4;cases ar:(gone G L L.length).isEmpty with
     |true =>
      have HF:Hid (P (.returned (.tuple #[])) wr):=by
       show P _ _
       have hn:gone G L L.length=[]:=List.isEmpty_iff.1 ar;have he:=cO HE;rw[hn] at he;have hq:l=Q:=(congrArg Prod.snd he).symm;rw[<-cO hO,cO ab,cg hn];refine⟨λ_=>rfl,λh=>absurd rfl h,Ok,A,j,λ_=>rfl,?_,(cO U).st⟩;have:=(cO U).sf;rw[hq] at this;exact this
      clear U HE aa y ab s0;go_wp2;exact cw (cu rfl _ _ _) rfl (cO HF)
     |false =>
      have hn:gone G L L.length≠[]:=λe=>by rw[e] at ar;cases ar
      obtain⟨e5,ad⟩:∃x,Hid (l.eY.1=x):=⟨_,rfl⟩
      rw[cO ad] at aa;have aK:Hid (eg Q (dO L G)=l.eY):=by
       show _=_
       rw[cO ab,cd hn,iE,cO HE,cg rfl,pt];rfl
      clear HE y ab hn;go_wp2_with fail;refine(cO aa).mono ?_;rintro e w6 ⟨rfl,O6,t6,s6⟩;have au:=cP ((cO U).op t6 s6);have HF:Hid (∀en,(e5=0->en=.returned (.tuple #[]))->(e5≠0->en=.panicked (gD e5))->P en w6):=by
       show ∀en,_
       intro en k1 k2;rw[<-cO hO,cO aK];exact⟨λh=>k1 ((cO ad).symm.trans h),λh=>by rw[cO ad];exact k2 (λq=>h ((cO ad).trans q)),O6,A,j,λ_=>rfl,(cO au).sf,(cO au).st⟩
      clear aa t6 s6 s0 U aK au;by_cases hz:e5=0
      .subst hz;go_wp2_with fail;refine(iY w6).mono ?_;rintro e wm ⟨rfl,m⟩;obtain rfl:=m.symm;go_wp2;exact cw (cu rfl _ _ _) rfl (cO HF _ (λ_=>rfl) (λh=>absurd rfl h))
      .go_wp2_with fail;refine(jD e5 hz w6).mono ?_;rintro e wm ⟨rfl,m⟩;obtain rfl:=m.symm;exact⟨rfl,cO HF _ (λh=>absurd h hz) (λ_=>rfl)⟩
end Ru
end Go.Proofs.YtgkkdpegcieakaaGreatDoor
