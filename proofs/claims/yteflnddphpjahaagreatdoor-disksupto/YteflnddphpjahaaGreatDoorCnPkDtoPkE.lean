import Derived.Test.YteflnddphpjahaaGreatDoorCnPkC
import Derived.Test.YteflnddphpjahaaGreatDoorCnDtEtoDtG
set_option linter.unusedVariables false
set_option linter.unusedSimpArgs false
set_option maxRecDepth 100000
set_option maxHeartbeats 16000000
namespace Go.Proofs.YteflnddphpjahaaGreatDoor.Pk
open Go.RowKit
open Sd (Tb)
open Dk
def upd {α : Type} (g:Nat→α) (f:Nat) (x : α):Nat→α:=fun k=>if k=f then x else g k
theorem upd_same {α : Type} (g:Nat→α) (f:Nat) (x : α):upd g f x f=x:=if_pos rfl
theorem upd_other {α : Type} (g:Nat→α) {f k:Nat} (x : α) (h:k≠f):upd g f x k=g k:=if_neg h
def Dv.addF (d:Dv) (f:Nat):Dv:={ d with fs:=d.fs++[f],F:=upd d.F f ⟨⟨#[]⟩,0⟩,vb:=upd d.vb f (.slice none 0 0) }
def Dv.chg (d:Dv) (c:Ch) (vn' vc':Value):Dv:={ d with names:=apG d.names c,chs:=d.chs++[c],vn:=vn',vc:=vc' }
theorem cnt_same (d:Dv):d.cnt.names=d.names∧d.cnt.safe=d.safe∧d.cnt.chs=d.chs∧d.cnt.fs=d.fs∧d.cnt.F=d.F∧d.cnt.q=d.q:=by
 unfold Dv.cnt
 split <;> exact⟨rfl,rfl,rfl,rfl,rfl,rfl⟩
theorem DAt.addF {w w1:World} {D:Nat} {d:Dv} (h:DAt w D d) (hb:Below w.heap.size w w1) {f:Nat} (hf:w.heap.size≤f) (hfb:w1.heap[f]? = some (.cells #[.slice none 0 0,.int .i64 0] 364 (0,0))):DTo w w1 D d (d.addF f):=by
 have h1:=h.below hb
 have hne:∀ k,k ∈ d.fs→k≠f:=fun k hk e=>by have:=blk_lt (h.files k hk).blk;omega
 refine⟨⟨h1.blk,h1.rn,h1.rs,h1.rc,h1.sn,h1.ss,h1.apart,fun k hk=>?_,fun k k' hk hk' hkk g hg=>?_,fun p hp=>List.mem_append_left _ (h.inN p hp),fun p hp=>List.mem_append_left _ (h.inS p hp),fun c hc x hx=>List.mem_append_left _ (h.inC c hc x hx)⟩,Kept.below hb _,fun k hk=>?_⟩
 ·show FAt w1 k (upd d.F f ⟨⟨#[]⟩,0⟩ k) (upd d.vb f (.slice none 0 0) k)
  rcases List.mem_append.1 hk with e | e
  ·rw[upd_other _ _ (hne k e),upd_other _ _ (hne k e)];exact h1.files k e
  ·have e:k=f:=List.mem_singleton.1 e
   subst e
   rw[upd_same,upd_same]
   exact⟨hfb,World.ownsRow_nil _ _ _ _⟩
 ·have hg:(upd d.vb f (.slice none 0 0) k).ownBlock=some g:=hg
  show (upd d.vb f (.slice none 0 0) k').ownBlock≠some g
  rcases List.mem_append.1 hk with e | e
  ·rcases List.mem_append.1 hk' with e' | e'
   ·rw[upd_other _ _ (hne k e)] at hg
    rw[upd_other _ _ (hne k' e')]
    exact h.fap k k' e e' hkk g hg
   ·have e':k'=f:=List.mem_singleton.1 e'
    subst e'
    rw[upd_same];simp[Value.ownBlock]
  ·have e:k=f:=List.mem_singleton.1 e
   subst e
   rw[upd_same] at hg;simp[Value.ownBlock] at hg
 ·rcases hk with e | e | e | e | ⟨x,hx,e⟩
  ·exact Or.inl (Or.inl e)
  ·exact Or.inl (Or.inr (Or.inl e))
  ·exact Or.inl (Or.inr (Or.inr (Or.inl e)))
  ·exact Or.inl (Or.inr (Or.inr (Or.inr (Or.inl e))))
  ·rcases List.mem_append.1 hx with hx | hx
   ·refine Or.inl (Or.inr (Or.inr (Or.inr (Or.inr ⟨x,hx,?_⟩))))
    rcases e with e | e
    ·exact Or.inl e
    ·have e:(upd d.vb f (.slice none 0 0) x).ownBlock=some k:=e
     rw[upd_other _ _ (hne x hx)] at e
     exact Or.inr e
   ·have hx:x=f:=List.mem_singleton.1 hx
    subst hx
    rcases e with e | e
    ·exact Or.inr (by omega)
    ·have e:(upd d.vb x (.slice none 0 0) x).ownBlock=some k:=e
     rw[upd_same] at e;simp[Value.ownBlock] at e
def Dv.onF (d:Dv) (y:ByteArray):Option Nat:=if d.up=true then Sd.tget d.names y else none
def Dv.onE (d:Dv) (y:ByteArray):Int:=if d.up=true then (if Sd.thas d.names y=true then 0 else 11) else 9
theorem operatesOn_any (D:Nat) (d:Dv) (y:ByteArray) (w:World) (h:DAt w D d) (hl:d.names.length≤100000) :
  Calls Tryz.prog 288 #[.pointer (some ⟨D,0,none⟩),.string y] w fun e w'=>e = .returned (.tuple #[optPtr (d.onF y),.int .i64 (d.onE y)])∧DTo w w' D d d.cnt:=by
 have hop:=operates_any D d w h
 cases hup:d.up with
 | false =>
  have HF:Hid (d.onF y=none):=by show _=_;unfold Dv.onF;rw[hup];rfl
  have HE:Hid (d.onE y=9):=by show _=_;unfold Dv.onE;rw[hup];rfl
  rw[hup] at hop
  rw[uh HF,uh HE]
  unfold optPtr
  clear h hup HF HE
  go_enter Tryz.func288,Tryz.ntmps288
  go_wp2_with fail
  refine hop.mono ?_
  rintro e w0 ⟨rfl,h0,_⟩
  have H0:=hde h0
  clear h0 hop
  go_wp2
  go_ret2
  exact⟨rfl,uh H0⟩
 | true =>
  have hn:=(cnt_same d).1
  have hget:=fun W (hW:DAt W D d.cnt)=>get_any D 1 _ _ d.cnt.vn d.cnt.names y W (hW.tabN (by rw[hn];exact hl))
  rw[hn] at hget
  rw[hup] at hop
  cases hh:Sd.thas d.names y with
  | true =>
   have HE:Hid (d.onE y=0):=by show _=_;unfold Dv.onE;rw[hup,hh];rfl
   obtain⟨_,_,e2⟩:=Sd.tget_at h.sn hh
   obtain⟨f,hf⟩:∃ f,Sd.tget d.names y=some f:=⟨_,e2⟩
   have HF:Hid (d.onF y=some f):=by show _=_;unfold Dv.onF;rw[hup,hf];rfl
   rw[hh,hf] at hget
   rw[uh HF,uh HE]
   clear h hup HF HE hh e2 hf hn
   unfold optPtr fptr at hget ⊢
   go_enter Tryz.func288,Tryz.ntmps288
   go_wp2_with fail
   refine hop.mono ?_
   rintro e w0 ⟨rfl,h0,_⟩
   have hg:=hget w0 h0.at'
   have H0:=hde h0
   clear h0 hop hget
   go_wp2_with fail
   refine hg.mono ?_
   rintro e w1 ⟨rfl,hb⟩
   clear hg
   go_wp2
   go_ret2
   exact⟨rfl,(uh H0).trans (DTo.below (uh H0).at' hb)⟩
  | false =>
   have HE:Hid (d.onE y=11):=by show _=_;unfold Dv.onE;rw[hup,hh];rfl
   have HF:Hid (d.onF y=none):=by show _=_;unfold Dv.onF;rw[hup,Sd.tget_none hh];rfl
   rw[hh,Sd.tget_none hh] at hget
   rw[uh HF,uh HE]
   clear h hup HF HE hh hn
   unfold optPtr at hget ⊢
   go_enter Tryz.func288,Tryz.ntmps288
   go_wp2_with fail
   refine hop.mono ?_
   rintro e w0 ⟨rfl,h0,_⟩
   have hg:=hget w0 h0.at'
   have H0:=hde h0
   clear h0 hop hget
   go_wp2_with fail
   refine hg.mono ?_
   rintro e w1 ⟨rfl,hb⟩
   clear hg
   go_wp2
   go_ret2
   exact⟨rfl,(uh H0).trans (DTo.below (uh H0).at' hb)⟩
def OpPost (w:World) (D:Nat) (d:Dv) (n:Int) (P:Dv→Prop) (e:Ending) (w':World):Prop:=e = .returned (.int .i64 n)∧∃ d',P d'∧DTo w w' D d d'
def Dv.crE (d:Dv) (y:ByteArray):Int:=if d.up=false then 9 else if Rd.fnm y=true then 0 else 10
def Dv.crD (d:Dv) (y:ByteArray) (N:Nat) (d':Dv):Prop:=if d.up=true∧Rd.fnm y=true then ∃ f vn' vc',N≤f∧d'=(d.cnt.addF f).chg ⟨Rd.e0,y,some f⟩ vn' vc' else d'=d.cnt
theorem create_any (D:Nat) (d:Dv) (y:ByteArray) (w:World) (h:DAt w D d) (hl:d.chs.length≤10000000) (hl2:d.names.length≤100000) (hy:y.size≤1048576) :
  Calls Tryz.prog 224 #[.pointer (some ⟨D,0,none⟩),.string y] w (OpPost w D d (d.crE y) (d.crD y w.heap.size)):=by
 have hop:=operates_any D d w h
 obtain⟨en,_,ec,_⟩:=cnt_same d
 cases hup:d.up with
 | false =>
  have HE:Hid (d.crE y=9):=by show _=_;unfold Dv.crE;rw[hup];rfl
  have HD:Hid (d.crD y w.heap.size d.cnt):=by show Dv.crD _ _ _ _;unfold Dv.crD;rw[if_neg (by rw[hup];simp)]
  rw[hup] at hop
  rw[uh HE]
  clear h hup HE
  go_enter Tryz.func224,Tryz.ntmps224
  go_wp2_with fail
  refine hop.mono ?_
  rintro e w0 ⟨rfl,h0,_⟩
  have H0:=hde h0
  clear h0 hop
  go_wp2
  go_ret
  exact⟨rfl,_,uh HD,uh H0⟩
 | true =>
  rw[hup] at hop
  cases hn:Rd.fnm y with
  | false =>
   have HE:Hid (d.crE y=10):=by show _=_;unfold Dv.crE;rw[hup,hn];rfl
   have HD:Hid (d.crD y w.heap.size d.cnt):=by show Dv.crD _ _ _ _;unfold Dv.crD;rw[if_neg (by rw[hn];simp)]
   have hnm:∀ W,Calls Tryz.prog 285 #[.string y] W fun e w'=>e = .returned (.bool false)∧w'=W:=fun W=>by have:=isName_any y W;rw[hn] at this;exact this
   rw[uh HE]
   clear h hup HE hn
   go_enter Tryz.func224,Tryz.ntmps224
   go_wp2_with fail
   refine hop.mono ?_
   rintro e w0 ⟨rfl,h0,_⟩
   have H0:=hde h0
   clear h0 hop
   go_wp2_with fail
   refine(hnm _).mono ?_
   rintro e w1 ⟨rfl,hw⟩
   obtain rfl:=hw.symm
   go_wp2
   go_ret
   exact⟨rfl,_,uh HD,uh H0⟩
  | true =>
   have HE:Hid (d.crE y=0):=by show _=_;unfold Dv.crE;rw[hup,hn];rfl
   have HD:Hid (∀ f vn' vc',w.heap.size≤f→d.crD y w.heap.size ((d.cnt.addF f).chg ⟨Rd.e0,y,some f⟩ vn' vc')):=fun f vn' vc' hf=>by unfold Dv.crD;rw[if_pos ⟨hup,hn⟩];exact⟨f,vn',vc',hf,rfl⟩
   have hnm:∀ W,Calls Tryz.prog 285 #[.string y] W fun e w'=>e = .returned (.bool true)∧w'=W:=fun W=>by have:=isName_any y W;rw[hn] at this;exact this
   have HNE:=hde (Rd.fnm_ne hn)
   rw[uh HE]
   clear h hup HE hn
   go_enter Tryz.func224,Tryz.ntmps224
   go_wp2_with fail
   refine hop.mono ?_
   rintro e w0 ⟨rfl,h0,hz0⟩
   have H0:=hde h0
   clear h0 hop
   go_wp2_with fail
   refine(hnm _).mono ?_
   rintro e w1 ⟨rfl,hw⟩
   obtain rfl:=hw.symm
   go_wp2_with fail
   refine(created_any y w0 hy).mono ?_
   rintro e w1 ⟨f,rfl,hb1,hf,hfb⟩
   have h1:=(uh H0).at'.addF hb1 hf hfb
   have hchg:=change_any D (d.cnt.addF f) ⟨Rd.e0,y,some f⟩ w1 h1.at' (by show d.cnt.chs.length≤_;rw[ec];exact hl) (by show d.cnt.names.length≤_;rw[en];exact hl2) (Or.inl ⟨f,rfl,uh HNE⟩) (fun x hx=>by cases hx;exact List.mem_append_right _ (List.mem_singleton.2 rfl))
   unfold optPtr at hchg
   have H1:=hde ((uh H0).trans h1)
   have hfw:w.heap.size≤f:=by omega
   clear h1 hb1 hfb hf en ec
   go_wp2_with fail
   refine hchg.mono ?_
   rintro e w2 ⟨rfl,vn',vc',h2⟩
   have H2:=hde h2
   clear hchg h2
   go_wp2
   go_ret
   exact⟨rfl,_,(uh HD) f vn' vc' hfw,(uh H1).trans (uh H2)⟩
def Dv.rmD (d:Dv) (y:ByteArray) (d':Dv):Prop:=if d.onE y=0 then ∃ vn' vc',d'=d.cnt.chg ⟨y,Rd.e0,none⟩ vn' vc' else d'=d.cnt
theorem remove_any (D:Nat) (d:Dv) (y:ByteArray) (w:World) (h:DAt w D d) (hl:d.chs.length≤10000000) (hl2:d.names.length≤100000) (hy:y.size≤1048576) (hne:Sd.thas d.names Rd.e0=false) :
  Calls Tryz.prog 231 #[.pointer (some ⟨D,0,none⟩),.string y] w (OpPost w D d (d.onE y) (d.rmD y)):=by
 have hon:=operatesOn_any D d y w h hl2
 obtain⟨en,_,ec,_⟩:=cnt_same d
 by_cases h0:d.onE y=0
 ·have HD:Hid (∀ vn' vc',d.rmD y (d.cnt.chg ⟨y,Rd.e0,none⟩ vn' vc')):=fun vn' vc'=>by unfold Dv.rmD;rw[if_pos h0];exact⟨vn',vc',rfl⟩
  have hyn:¬ y=Rd.e0:=fun e=>by
   unfold Dv.onE at h0
   rw[e,hne] at h0
   split at h0
   ·rw[if_neg (by decide)] at h0;omega
   ·omega
  have HY:=hde hyn
  rw[h0] at hon ⊢
  obtain⟨p,hp⟩:∃ p,optPtr (d.onF y) = .pointer p:=by cases d.onF y <;> exact⟨_,rfl⟩
  rw[hp] at hon
  clear h h0 hp hyn hne
  go_enter Tryz.func231,Tryz.ntmps231
  go_wp2_with fail
  refine hon.mono ?_
  rintro e w1 ⟨rfl,h1⟩
  have H1:=hde h1
  clear hon h1
  go_wp2_with fail
  refine(removed_any y _ hy).mono ?_
  rintro e w2 ⟨rfl,hb2⟩
  have h2:=(uh H1).trans (DTo.below (uh H1).at' hb2)
  have hchg:=change_any D d.cnt ⟨y,Rd.e0,none⟩ w2 h2.at' (by rw[ec];exact hl) (by rw[en];exact hl2) (Or.inr ⟨rfl,rfl,uh HY⟩) (fun x hx=>by cases hx)
  unfold optPtr at hchg
  have H2:=hde h2
  clear h2 hb2 en ec
  go_wp2_with fail
  refine hchg.mono ?_
  rintro e w3 ⟨rfl,vn',vc',h3⟩
  have H3:=hde h3
  clear hchg h3
  go_wp2
  go_ret
  exact⟨rfl,_,(uh HD) vn' vc',(uh H2).trans (uh H3)⟩
 ·have HD:Hid (d.rmD y d.cnt):=by show Dv.rmD _ _ _;unfold Dv.rmD;rw[if_neg h0]
  obtain⟨n,hn⟩:∃ n,d.onE y=n:=⟨_,rfl⟩
  have hn0:(n == 0)=false:=beq_eq_false_iff_ne.2 (hn ▸ h0)
  rw[hn] at hon ⊢
  obtain⟨p,hp⟩:∃ p,optPtr (d.onF y) = .pointer p:=by cases d.onF y <;> exact⟨_,rfl⟩
  rw[hp] at hon
  clear h h0 hp hn
  go_enter Tryz.func231,Tryz.ntmps231
  go_wp2_with fail
  refine hon.mono ?_
  rintro e w1 ⟨rfl,h1⟩
  have H1:=hde h1
  clear hon h1
  go_wp2
  go_ret
  exact⟨rfl,_,uh HD,uh H1⟩
def Dv.rnE (d:Dv) (x y:ByteArray):Int:=if d.up=true∧Rd.fnm y=false then 10 else d.onE x
def Dv.rnD (d:Dv) (x y:ByteArray) (d':Dv):Prop:=if d.rnE x y=0∧¬ x=y then ∃ f vn' vc',Sd.tget d.names x=some f∧d'=d.cnt.chg ⟨x,y,some f⟩ vn' vc' else d'=d.cnt
theorem rename_any (D:Nat) (d:Dv) (x y:ByteArray) (w:World) (h:DAt w D d) (hl:d.chs.length≤10000000) (hl2:d.names.length≤100000) (hx:x.size≤1048576) (hy:y.size≤1048576) :
  Calls Tryz.prog 230 #[.pointer (some ⟨D,0,none⟩),.string x,.string y] w (OpPost w D d (d.rnE x y) (d.rnD x y)):=by
 have hop:=operates_any D d w h
 obtain⟨en,_,ec,ef,_⟩:=cnt_same d
 cases hup:d.up with
 | false =>
  have h9:d.rnE x y=9:=by unfold Dv.rnE Dv.onE;rw[hup];simp
  have HD:Hid (d.rnD x y d.cnt):=by show Dv.rnD _ _ _ _;unfold Dv.rnD;rw[if_neg (by rw[h9];simp)]
  rw[hup] at hop
  rw[h9]
  clear h hup h9
  go_enter Tryz.func230,Tryz.ntmps230
  go_wp2_with fail
  refine hop.mono ?_
  rintro e w0 ⟨rfl,h0,_⟩
  have H0:=hde h0
  clear h0 hop
  go_wp2
  go_ret
  exact⟨rfl,_,uh HD,uh H0⟩
 | true =>
  rw[hup] at hop
  have hnm:∀ W,Calls Tryz.prog 285 #[.string y] W fun e w'=>e = .returned (.bool (Rd.fnm y))∧w'=W:=fun W=>isName_any y W
  cases hn:Rd.fnm y with
  | false =>
   have h9:d.rnE x y=10:=by unfold Dv.rnE;rw[hup,hn];simp
   have HD:Hid (d.rnD x y d.cnt):=by show Dv.rnD _ _ _ _;unfold Dv.rnD;rw[if_neg (by rw[h9];simp)]
   rw[hn] at hnm
   rw[h9]
   clear h hup hn h9
   go_enter Tryz.func230,Tryz.ntmps230
   go_wp2_with fail
   refine hop.mono ?_
   rintro e w0 ⟨rfl,h0,_⟩
   have H0:=hde h0
   clear h0 hop
   go_wp2_with fail
   refine(hnm _).mono ?_
   rintro e w1 ⟨rfl,hw⟩
   obtain rfl:=hw.symm
   go_wp2
   go_ret
   exact⟨rfl,_,uh HD,uh H0⟩
  | true =>
   have HNE:=hde (Rd.fnm_ne hn)
   have hget:=fun W (hW:DAt W D d.cnt)=>get_any D 1 _ _ d.cnt.vn d.cnt.names x W (hW.tabN (by rw[en];exact hl2))
   rw[en] at hget
   have hr:d.rnE x y=if Sd.thas d.names x=true then 0 else 11:=by unfold Dv.rnE Dv.onE;rw[if_neg (by rw[hn];simp),hup];simp
   rw[hn] at hnm
   cases hh:Sd.thas d.names x with
   | false =>
    rw[hh] at hr
    have h9:d.rnE x y=11:=by rw[hr];simp
    have HD:Hid (d.rnD x y d.cnt):=by show Dv.rnD _ _ _ _;unfold Dv.rnD;rw[if_neg (by rw[h9];simp)]
    rw[hh,Sd.tget_none hh] at hget
    unfold optPtr at hget
    rw[h9]
    clear h hup hn h9 hr hh
    go_enter Tryz.func230,Tryz.ntmps230
    go_wp2_with fail
    refine hop.mono ?_
    rintro e w0 ⟨rfl,h0,_⟩
    have hg:=hget w0 h0.at'
    have H0:=hde h0
    clear h0 hop hget
    go_wp2_with fail
    refine(hnm _).mono ?_
    rintro e w1 ⟨rfl,hw⟩
    obtain rfl:=hw.symm
    go_wp2_with fail
    refine hg.mono ?_
    rintro e w1 ⟨rfl,hb1⟩
    clear hg
    go_wp2
    go_ret
    exact⟨rfl,_,uh HD,(uh H0).trans (DTo.below (uh H0).at' hb1)⟩
   | true =>
    rw[hh] at hr
    have h9:d.rnE x y=0:=by rw[hr];simp
    obtain⟨_,_,e2⟩:=Sd.tget_at h.sn hh
    obtain⟨f,hf⟩:∃ f,Sd.tget d.names x=some f:=⟨_,e2⟩
    have HM:=hde (h.inN (x,f) ((Sd.tget_mem h.sn).1 hf))
    rw[hh,hf] at hget
    unfold optPtr fptr at hget
    by_cases hxy:x=y
    ·have HD:Hid (d.rnD x y d.cnt):=by show Dv.rnD _ _ _ _;unfold Dv.rnD;rw[if_neg (fun hh=>hh.2 hxy)]
     have g1:=Rd.str_is hxy
     rw[h9]
     clear h hup hn h9 hr hh e2 hf hxy
     go_enter Tryz.func230,Tryz.ntmps230
     go_wp2_with fail
     refine hop.mono ?_
     rintro e w0 ⟨rfl,h0,_⟩
     have hg:=hget w0 h0.at'
     have H0:=hde h0
     clear h0 hop hget
     go_wp2_with fail
     refine(hnm _).mono ?_
     rintro e w1 ⟨rfl,hw⟩
     obtain rfl:=hw.symm
     go_wp2_with fail
     refine hg.mono ?_
     rintro e w1 ⟨rfl,hb1⟩
     clear hg
     go_wp2
     go_ret
     exact⟨rfl,_,uh HD,(uh H0).trans (DTo.below (uh H0).at' hb1)⟩
    ·have HD:Hid (∀ vn' vc',d.rnD x y (d.cnt.chg ⟨x,y,some f⟩ vn' vc')):=fun vn' vc'=>by unfold Dv.rnD;rw[if_pos ⟨h9,hxy⟩];exact⟨f,vn',vc',hf,rfl⟩
     have g1:=Rd.str_ne hxy
     rw[h9]
     clear h hup hn h9 hr hh e2 hf hxy
     go_enter Tryz.func230,Tryz.ntmps230
     go_wp2_with fail
     refine hop.mono ?_
     rintro e w0 ⟨rfl,h0,_⟩
     have hg:=hget w0 h0.at'
     have H0:=hde h0
     clear h0 hop hget
     go_wp2_with fail
     refine(hnm _).mono ?_
     rintro e w1 ⟨rfl,hw⟩
     obtain rfl:=hw.symm
     go_wp2_with fail
     refine hg.mono ?_
     rintro e w1 ⟨rfl,hb1⟩
     clear hg
     have hrn:=fun W=>renamed_any x y f W hx hy
     unfold fptr at hrn
     go_wp2_with fail
     refine(hrn _).mono ?_
     rintro e w2 ⟨rfl,hb2⟩
     have hb12:Below w0.heap.size w0 w2:=hb1.trans (hb2.mono hb1.size)
     have h2:=(uh H0).trans (DTo.below (uh H0).at' hb12)
     have hchg:=change_any D d.cnt ⟨x,y,some f⟩ w2 h2.at' (by rw[ec];exact hl) (by rw[en];exact hl2) (Or.inl ⟨f,rfl,uh HNE⟩) (fun z hz=>by cases hz;rw[ef];exact uh HM)
     unfold optPtr fptr at hchg
     have H2:=hde h2
     clear h2 hb1 hb2 hb12 en ec ef
     go_wp2_with fail
     refine hchg.mono ?_
     rintro e w3 ⟨rfl,vn',vc',h3⟩
     have H3:=hde h3
     clear hchg h3
     go_wp2
     go_ret
     exact⟨rfl,_,(uh HD) vn' vc',(uh H2).trans (uh H3)⟩
end Go.Proofs.YteflnddphpjahaaGreatDoor.Pk
