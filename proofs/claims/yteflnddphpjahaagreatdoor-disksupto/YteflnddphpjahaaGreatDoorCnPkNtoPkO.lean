import Derived.Test.YteflnddphpjahaaGreatDoorCnPkLtoPkM
set_option linter.unusedVariables false
set_option linter.unusedSimpArgs false
set_option maxRecDepth 100000
set_option maxHeartbeats 16000000
namespace Go.Proofs.YteflnddphpjahaaGreatDoor.Pk
open Go.RowKit
open Sd (Tb)
open Rd (Rk tab e0 RAt rOwn RTo)
open Dk (Kept own_kept)
theorem p_create (w0 w:World) (D E:Nat) (R:Rk) (O:Nat→Prop) (n b:Nat) (y:ByteArray) (h:Half w0 w D E R R O) (hs:Sm R n b) (hn:n≤100000) (hy:y.size≤1048576) :
  Calls Tryz.prog 143 #[.pointer (some ⟨D,0,none⟩),.string y] w (DP w0 D E (R.create y).2 R O (R.create y).1):=by
 obtain⟨d,blk,vf,vs,vc,h1,h2,h3,h4,h5,h6⟩:=h
 obtain⟨l1,l2⟩:=h2.dlen hs
 refine face_create D y w _ ((create_any D d y w h1 (by omega) (by omega) hy).mono ?_)
 rintro e w' ⟨rfl,d',hd,ht⟩
 have hup:=h2.up
 refine⟨_,rfl,?_,?_⟩
 ·unfold Dv.crE Rk.create
  rw[hup]
  cases R.up with
  | false=>rfl
  | true =>
   cases Rd.fnm y <;> rfl
 ·unfold Dv.crD at hd
  rw[hup] at hd
  unfold Rk.create
  cases hu:R.up with
  | false =>
   rw[hu] at hd
   simp only[Bool.false_eq_true,false_and,if_false] at hd
   subst hd
   exact Half.dstep (Q:=R) h3 h4 h5 h6 ht h2.cnt
  | true =>
   rw[hu] at hd
   cases hf:Rd.fnm y with
   | false =>
    rw[hf] at hd
    simp only[Bool.false_eq_true,and_false,if_false] at hd
    subst hd
    exact Half.dstep (Q:=R) h3 h4 h5 h6 ht h2.cnt
   | true =>
    rw[hf] at hd
    simp only[and_self,if_true] at hd
    obtain⟨f,vn',vc',hfw,rfl⟩:=hd
    refine Half.dstep (Q:=R) h3 h4 h5 h6 ht (blk':=upd blk R.cnt.files.length f) ?_
    have i1:=h2.cnt.addF (f:=f) (fun k hk e=>by
     rw[(cnt_same d).2.2.2.1] at hk
     have:=blk_lt (h1.files k hk).blk
     omega)
    have i2:=i1.chg ⟨e0,y,R.cnt.files.length⟩ (Or.inl (by simp)) (Or.inl (Rd.fnm_ne hf)) vn' vc'
    have e:cm (upd blk R.cnt.files.length f) ⟨e0,y,R.cnt.files.length⟩=⟨e0,y,some f⟩:=by
     unfold cm
     simp only[if_neg (Rd.fnm_ne hf),upd_same]
    rw[e] at i2
    exact i2
theorem on_lt {R:Rk} (hok:R.Ok) {a:ByteArray} {i:Nat} (hg:Rd.rget R.now a=some i):i < R.files.length:=hok.dir_file _ (a,i) ((Rd.rget_mem (hok.dir_keyed _)).1 hg)
theorem p_remove (w0 w:World) (D E:Nat) (R:Rk) (O:Nat→Prop) (n b:Nat) (y:ByteArray) (h:Half w0 w D E R R O) (hs:Sm R n b) (hn:n≤100000) (hy:y.size≤1048576) :
  Calls Tryz.prog 148 #[.pointer (some ⟨D,0,none⟩),.string y] w (DP w0 D E (R.remove y).2 R O (R.remove y).1):=by
 obtain⟨d,blk,vf,vs,vc,h1,h2,h3,h4,h5,h6⟩:=h
 obtain⟨l1,l2⟩:=h2.dlen hs
 have h0:Sd.thas d.names e0=false:=by rw[h2.names,thas_bm];exact h2.has0
 refine face_remove D y w _ ((remove_any D d y w h1 (by omega) (by omega) hy h0).mono ?_)
 rintro e w' ⟨rfl,d',hd,ht⟩
 have hE:=h2.onE y
 unfold Dv.rmD at hd
 refine⟨_,rfl,?_⟩
 unfold Rk.remove Rk.on
 rw[hE] at hd ⊢
 cases hu:R.up with
 | false =>
  rw[hu] at hd
  simp only[if_true] at hd ⊢
  rw[if_neg (by decide)] at hd
  subst hd
  exact⟨rfl,Half.dstep (Q:=R) h3 h4 h5 h6 ht h2.cnt⟩
 | true =>
  rw[hu] at hd
  simp only[Bool.true_eq_false,if_false] at hd ⊢
  cases hg:Rd.rget R.now y with
  | none =>
   rw[hg] at hd
   simp only at hd ⊢
   rw[if_neg (by decide)] at hd
   subst hd
   exact⟨rfl,Half.dstep (Q:=R) h3 h4 h5 h6 ht h2.cnt⟩
  | some i =>
   rw[hg] at hd
   simp only[if_true] at hd ⊢
   obtain⟨vn',vc',rfl⟩:=hd
   have hyn:¬ y=e0:=fun e=>by
    have:=h2.ok.dir_some _ (y,i) ((Rd.rget_mem (h2.ok.dir_keyed _)).1 hg)
    exact this e
   have i2:=h2.cnt.chg ⟨y,e0,0⟩ (Or.inr rfl) (Or.inr hyn) vn' vc'
   have e:cm blk ⟨y,e0,0⟩=⟨y,e0,none⟩:=by unfold cm;simp
   rw[e] at i2
   exact⟨rfl,Half.dstep (Q:=R) h3 h4 h5 h6 ht i2⟩
theorem p_rename (w0 w:World) (D E:Nat) (R:Rk) (O:Nat→Prop) (n b:Nat) (x y:ByteArray) (h:Half w0 w D E R R O) (hs:Sm R n b) (hn:n≤100000) (hx:x.size≤1048576) (hy:y.size≤1048576) :
  Calls Tryz.prog 147 #[.pointer (some ⟨D,0,none⟩),.string x,.string y] w (DP w0 D E (R.rename x y).2 R O (R.rename x y).1):=by
 obtain⟨d,blk,vf,vs,vc,h1,h2,h3,h4,h5,h6⟩:=h
 obtain⟨l1,l2⟩:=h2.dlen hs
 refine face_rename D x y w _ ((rename_any D d x y w h1 (by omega) (by omega) hx hy).mono ?_)
 rintro e w' ⟨rfl,d',hd,ht⟩
 have hE:=h2.onE x
 have hG:=h2.get x
 unfold Dv.rnD at hd
 refine⟨_,rfl,?_⟩
 unfold Dv.rnE at hd ⊢
 unfold Rk.rename
 rw[hE,h2.up] at hd ⊢
 by_cases hb:R.up=true∧Rd.fnm y=false
 ·rw[if_pos hb] at hd ⊢
  rw[if_pos hb]
  rw[if_neg (by simp)] at hd
  subst hd
  exact⟨rfl,Half.dstep (Q:=R) h3 h4 h5 h6 ht h2.cnt⟩
 ·rw[if_neg hb] at hd ⊢
  rw[if_neg hb]
  unfold Rk.on
  cases hu:R.up with
  | false =>
   rw[hu] at hd
   simp only[if_true] at hd ⊢
   rw[if_neg (by simp)] at hd
   subst hd
   exact⟨rfl,Half.dstep (Q:=R) h3 h4 h5 h6 ht h2.cnt⟩
  | true =>
   rw[hu] at hd hb
   simp only[Bool.true_eq_false,if_false] at hd ⊢
   cases hg:Rd.rget R.now x with
   | none =>
    rw[hg] at hd
    simp only at hd ⊢
    rw[if_neg (by simp)] at hd
    subst hd
    exact⟨rfl,Half.dstep (Q:=R) h3 h4 h5 h6 ht h2.cnt⟩
   | some i =>
    rw[hg] at hd hG
    simp only[true_and] at hd ⊢
    by_cases hxy:x=y
    ·rw[if_neg (fun hh=>hh hxy)] at hd
     subst hd
     rw[if_pos hxy]
     exact⟨rfl,Half.dstep (Q:=R) h3 h4 h5 h6 ht h2.cnt⟩
    ·rw[if_pos hxy] at hd
     obtain⟨f,vn',vc',hf,rfl⟩:=hd
     rw[if_neg hxy]
     have hfi:f=blk i:=by rw[hf] at hG;exact Option.some.inj hG
     have hny:Rd.fnm y=true:=by
      cases hq:Rd.fnm y with
      | true=>rfl
      | false=>exact absurd ⟨rfl,hq⟩ hb
     have hil:i < R.cnt.files.length:=by rw[(Rd.cnt_files R).1];exact on_lt h2.ok hg
     have i2:=h2.cnt.chg ⟨x,y,i⟩ (Or.inl hil) (Or.inl (Rd.fnm_ne hny)) vn' vc'
     have e:cm blk ⟨x,y,i⟩=⟨x,y,some f⟩:=by unfold cm;simp only[if_neg (Rd.fnm_ne hny),hfi]
     rw[e] at i2
     exact⟨rfl,Half.dstep (Q:=R) h3 h4 h5 h6 ht i2⟩
theorem p_sync (w0 w:World) (D E:Nat) (R:Rk) (O:Nat→Prop) (n b:Nat) (y:ByteArray) (h:Half w0 w D E R R O) (hs:Sm R n b) (hn:n≤100000) :
  Calls Tryz.prog 146 #[.pointer (some ⟨D,0,none⟩),.string y] w (DP w0 D E (R.sync y).2 R O (R.sync y).1):=by
 obtain⟨d,blk,vf,vs,vc,h1,h2,h3,h4,h5,h6⟩:=h
 obtain⟨l1,l2⟩:=h2.dlen hs
 refine face_sync D y w _ ((sync_any D d y w h1 (by omega)).mono ?_)
 rintro e w' ⟨rfl,d',hd,ht⟩
 have hE:=h2.onE y
 have hG:=h2.get y
 unfold Dv.snD at hd
 refine⟨_,rfl,?_⟩
 unfold Rk.sync Rk.on
 rw[hE] at hd ⊢
 cases hu:R.up with
 | false =>
  rw[hu] at hd
  simp only[if_true] at hd ⊢
  rw[if_neg (by decide)] at hd
  subst hd
  exact⟨rfl,Half.dstep (Q:=R) h3 h4 h5 h6 ht h2.cnt⟩
 | true =>
  rw[hu] at hd
  simp only[Bool.true_eq_false,if_false] at hd ⊢
  cases hg:Rd.rget R.now y with
  | none =>
   rw[hg] at hd
   simp only at hd ⊢
   rw[if_neg (by decide)] at hd
   subst hd
   exact⟨rfl,Half.dstep (Q:=R) h3 h4 h5 h6 ht h2.cnt⟩
  | some i =>
   rw[hg] at hd hG
   simp only[if_true] at hd ⊢
   obtain⟨f,v',hf,rfl⟩:=hd
   have hfi:f=blk i:=by rw[hf] at hG;exact Option.some.inj hG
   have hil:i < R.files.length:=on_lt h2.ok hg
   have hil2:i < R.cnt.files.length:=by rw[(Rd.cnt_files R).1];exact hil
   subst hfi
   rw[h2.F i hil] at ht
   have i2:=h2.cnt.setF hil2 (R.fl i).bytes (R.fl i).bytes.size nlr v'
   rw[Rd.cnt_fl]
   exact⟨rfl,Half.dstep (Q:=R) h3 h4 h5 h6 ht i2⟩
theorem p_append (w0 w:World) (D E:Nat) (R:Rk) (O:Nat→Prop) (n b:Nat) (y t:ByteArray) (h:Half w0 w D E R R O) (hs:Sm R n b) (hn:n≤100000) (hb:b≤1048576) (ht':t.size≤1048576) :
  Calls Tryz.prog 145 #[.pointer (some ⟨D,0,none⟩),.string y,.string t] w (DP w0 D E (R.append y t).2 R O (R.append y t).1):=by
 obtain⟨d,blk,vf,vs,vc,h1,h2,h3,h4,h5,h6⟩:=h
 obtain⟨l1,l2⟩:=h2.dlen hs
 have hu:=h2.uF hs
 refine face_append D y t w _ ((append_any D d y t w h1 (by omega) (fun p hp=>by have:=hu p hp;omega) (by omega)).mono ?_)
 rintro e w' ⟨rfl,d',hd,ht⟩
 have hE:=h2.onE y
 have hG:=h2.get y
 have hU:=h2.used
 unfold Dv.apD at hd
 refine⟨_,rfl,?_⟩
 unfold Dv.apE at hd ⊢
 unfold Rk.append Rk.on
 rw[hE,hU,h2.q] at hd ⊢
 cases hu:R.up with
 | false =>
  rw[hu] at hd
  simp only[if_true] at hd ⊢
  rw[if_neg (show ¬ (9:Int)=0 by decide)] at hd ⊢
  rw[if_neg (show ¬ (9:Int)=0 by decide)] at hd
  subst hd
  exact⟨rfl,Half.dstep (Q:=R) h3 h4 h5 h6 ht h2.cnt⟩
 | true =>
  rw[hu] at hd
  simp only[Bool.true_eq_false,if_false] at hd ⊢
  cases hg:Rd.rget R.now y with
  | none =>
   rw[hg] at hd
   simp only at hd ⊢
   rw[if_neg (show ¬ (11:Int)=0 by decide)] at hd ⊢
   rw[if_neg (show ¬ (11:Int)=0 by decide)] at hd
   subst hd
   exact⟨rfl,Half.dstep (Q:=R) h3 h4 h5 h6 ht h2.cnt⟩
  | some i =>
   rw[hg] at hd hG
   simp only[if_true] at hd ⊢
   rw[Rd.cnt_now,Rd.cnt_use,(Rd.cnt_files R).2.2.2]
   by_cases hf:R.limit < (R.use R.now:Int)+t.size
   ·rw[if_pos hf] at hd ⊢
    rw[if_pos hf]
    rw[if_neg (by decide)] at hd
    subst hd
    exact⟨rfl,Half.dstep (Q:=R) h3 h4 h5 h6 ht h2.cnt⟩
   ·rw[if_neg hf] at hd ⊢
    rw[if_neg hf]
    rw[if_pos rfl] at hd
    obtain⟨f,v',hf',rfl⟩:=hd
    have hfi:f=blk i:=by rw[hf'] at hG;exact Option.some.inj hG
    have hil:i < R.files.length:=on_lt h2.ok hg
    have hil2:i < R.cnt.files.length:=by rw[(Rd.cnt_files R).1];exact hil
    subst hfi
    rw[h2.F i hil] at ht
    have hsf:=h2.Fs (blk i)
    rw[h2.F i hil] at hsf
    have i2:=h2.cnt.setF hil2 ((R.fl i).bytes++t) (R.fl i).safe (by rw[ByteArray.size_append];simp only at hsf;omega) v'
    rw[Rd.cnt_fl]
    exact⟨rfl,Half.dstep (Q:=R) h3 h4 h5 h6 ht i2⟩
theorem p_syncDir (w0 w:World) (D E:Nat) (R:Rk) (O:Nat→Prop) (n b:Nat) (h:Half w0 w D E R R O) (hs:Sm R n b) (hn:n≤100000) :
  Calls Tryz.prog 149 #[.pointer (some ⟨D,0,none⟩)] w (DP w0 D E R.syncDir.2 R O R.syncDir.1):=by
 obtain⟨d,blk,vf,vs,vc,h1,h2,h3,h4,h5,h6⟩:=h
 obtain⟨l1,l2⟩:=h2.dlen hs
 refine face_syncDir D w _ ((syncDir_any D d w h1 (by omega)).mono ?_)
 rintro e w' ⟨rfl,d',hd,ht⟩
 unfold Dv.sdD at hd
 refine⟨_,rfl,?_⟩
 unfold Dv.sdE
 unfold Rk.syncDir
 rw[h2.up] at hd ⊢
 cases hu:R.up with
 | false =>
  rw[hu] at hd
  simp only[Bool.false_eq_true,if_false,if_true] at hd ⊢
  subst hd
  exact⟨rfl,Half.dstep (Q:=R) h3 h4 h5 h6 ht h2.cnt⟩
 | true =>
  rw[hu] at hd
  simp only[Bool.true_eq_false,if_false,if_true] at hd ⊢
  obtain⟨vs',rfl⟩:=hd
  have i2:=h2.cnt.sy vs'
  rw[Rd.cnt_now] at i2
  exact⟨rfl,Half.dstep (Q:=R) h3 h4 h5 h6 ht i2⟩
open Rd (Rk tab e0 RAt rOwn RTo opV TcPost)
theorem r_gen {w0 w:World} {D E:Nat} {Q R:Rk} {O:Nat→Prop} {f:Nat} {args:Array Value} {r:Int × Rk} (h:Half w0 w D E Q R O) (hc:∀ vf vs vc,RAt w E R vf vs vc→Calls Tryz.prog f args w (TcPost w E vf vs vc r)):Calls Tryz.prog f args w (DP w0 D E Q r.2 O r.1):=by
 obtain⟨d,blk,vf,vs,vc,h1,h2,h3,h4,h5,h6⟩:=h
 refine(hc vf vs vc h3).mono ?_
 rintro e w' ⟨rfl,vf',vs',vc',ht⟩
 exact⟨rfl,Half.rstep (R:=R) h1 h2 h4 h5 h6 ht⟩
theorem r_create {w0 w:World} {D E:Nat} {Q R:Rk} {O:Nat→Prop} (a b:ByteArray) (h:Half w0 w D E Q R O) (hf:R.Fit):Calls Tryz.prog 144 #[.pointer (some ⟨E,0,none⟩),opV 1 a b] w (DP w0 D E Q (R.create a).2 O (R.create a).1):=
 r_gen h fun vf vs vc h3=>Rd.does_create E R vf vs vc a b w h3 hf
theorem r_rename {w0 w:World} {D E:Nat} {Q R:Rk} {O:Nat→Prop} (a b:ByteArray) (h:Half w0 w D E Q R O) (hf:R.Fit):Calls Tryz.prog 144 #[.pointer (some ⟨E,0,none⟩),opV 4 a b] w (DP w0 D E Q (R.rename a b).2 O (R.rename a b).1):=
 r_gen h fun vf vs vc h3=>Rd.does_rename E R vf vs vc a b w h3 hf
theorem r_syncDir {w0 w:World} {D E:Nat} {Q R:Rk} {O:Nat→Prop} (a b:ByteArray) (h:Half w0 w D E Q R O) (hf:R.Fit):Calls Tryz.prog 144 #[.pointer (some ⟨E,0,none⟩),opV 6 a b] w (DP w0 D E Q R.syncDir.2 O R.syncDir.1):=
 r_gen h fun vf vs vc h3=>by
  cases hu:R.up with
  | false =>
   have e:R.syncDir=(9,R.cnt):=by unfold Rk.syncDir;rw[hu];rfl
   rw[e];exact Rd.does_down E R vf vs vc 6 a b w h3 hf hu
  | true =>
   have e:R.syncDir=(0,{ R.cnt with safe:=R.now,chs:=[] }):=by unfold Rk.syncDir;rw[hu];rfl
   rw[e];exact Rd.does_syncDir E R vf vs vc a b w h3 hf hu
theorem r_on {w0 w:World} {D E:Nat} {Q R:Rk} {O:Nat→Prop} (k:Int) (a b:ByteArray) (op:Rk→Nat→Int × Rk) (hk:k=2∨k=3∨k=5) (h:Half w0 w D E Q R O) (hf:R.Fit)
  (ht:∀ W vf vs vc i,i < R.cnt.files.length→RAt W E R.cnt vf vs vc→Calls Tryz.prog 227 #[.pointer (some ⟨E,0,none⟩),opV k a b,.int .i64 (i:Int)] W (TcPost W E vf vs vc (op R.cnt i))) :
  Calls Tryz.prog 144 #[.pointer (some ⟨E,0,none⟩),opV k a b] w (DP w0 D E Q (R.on a op).2 O (R.on a op).1):=
 r_gen h fun vf vs vc h3=>by
  unfold Rk.on
  cases hu:R.up with
  | false=>simp only[if_true];exact Rd.does_down E R vf vs vc k a b w h3 hf hu
  | true =>
   simp only[Bool.true_eq_false,if_false]
   cases hg:Rd.rget R.now a with
   | none=>exact Rd.does_none E R vf vs vc k a b w h3 hf hu hk hg
   | some i=>exact Rd.does_on E R vf vs vc k i a b _ w h3 hf hu hk hg (fun W hW=>ht W vf vs vc i (by rw[(Rd.cnt_files R).1];exact on_lt h3.ok hg) hW)
theorem fit_cnt {R:Rk} (h:R.Fit):R.cnt.safe.length≤100000000∧R.cnt.chs.length≤100000000∧R.cnt.use R.cnt.now≤1152921504606846976∧∀ i,(R.cnt.fl i).bytes.size≤1152921504606846976:=by
 obtain⟨f1,f2,f3,f4⟩:=Rd.cnt_files R
 exact⟨by rw[f2];exact h.safe,by rw[f3];exact h.chs,by rw[Rd.cnt_now,Rd.cnt_use];exact h.use,fun i=>by rw[Rd.cnt_fl];exact h.file i⟩
theorem r_append {w0 w:World} {D E:Nat} {Q R:Rk} {O:Nat→Prop} (a t:ByteArray) (h:Half w0 w D E Q R O) (hf:R.Fit) (ht:t.size≤1048576):Calls Tryz.prog 144 #[.pointer (some ⟨E,0,none⟩),opV 2 a t] w (DP w0 D E Q (R.append a t).2 O (R.append a t).1):=by
 obtain⟨g1,g2,g3,g4⟩:=fit_cnt hf
 exact r_on 2 a t _ (Or.inl rfl) h hf fun W vf vs vc i hi hW=>Rd.touch_append E R.cnt vf vs vc i a t W hW g1 g2 g3 hi (by omega) (g4 i)
theorem r_sync {w0 w:World} {D E:Nat} {Q R:Rk} {O:Nat→Prop} (a t:ByteArray) (h:Half w0 w D E Q R O) (hf:R.Fit):Calls Tryz.prog 144 #[.pointer (some ⟨E,0,none⟩),opV 3 a t] w (DP w0 D E Q (R.sync a).2 O (R.sync a).1):=
 r_on 3 a t _ (Or.inr (Or.inl rfl)) h hf fun W vf vs vc i hi hW=>Rd.touch_sync E R.cnt vf vs vc i a t W hW hi
theorem r_remove {w0 w:World} {D E:Nat} {Q R:Rk} {O:Nat→Prop} (a t:ByteArray) (h:Half w0 w D E Q R O) (hf:R.Fit):Calls Tryz.prog 144 #[.pointer (some ⟨E,0,none⟩),opV 5 a t] w (DP w0 D E Q (R.remove a).2 O (R.remove a).1):=by
 obtain⟨g1,g2,g3,g4⟩:=fit_cnt hf
 exact r_on 5 a t _ (Or.inr (Or.inr rfl)) h hf fun W vf vs vc i hi hW=>Rd.touch_remove E R.cnt vf vs vc i a t W hW g2 hi
theorem Is.rd {d:Dv} {R:Rk} {blk:Nat→Nat} (h:Is d R blk) (a:ByteArray):d.rd a=R.rd a∧d.rdE a=R.rdE a:=by
 unfold Dv.rd Dv.rdE Rk.rd Rk.rdE
 rw[h.down,h.get]
 cases R.down with
 | true=>exact⟨rfl,rfl⟩
 | false =>
  cases hg:Rd.rget R.now a with
  | none=>exact⟨rfl,rfl⟩
  | some i =>
   refine⟨?_,rfl⟩
   show (d.F (blk i)).bytes=_
   rw[h.F i (on_lt h.ok hg)];rfl
theorem p_read {w:World} {D E:Nat} {R:Rk} {O:Nat→Prop} {n b:Nat} (y:ByteArray) (h:Pair w D E R O) (hs:Sm R n b) (hn:n≤100000) :
  Calls Tryz.prog 99 #[.pointer (some ⟨D,0,none⟩),.string y] w fun e w'=>e = .returned (.tuple #[.string (R.rd y),.int .i64 (R.rdE y)])∧Below w.heap.size w w':=by
 obtain⟨d,blk,vf,vs,vc,h1,h2,h3,h4,h5⟩:=h
 obtain⟨l1,l2⟩:=h2.dlen hs
 have hc:=read_any D d y w h1 (by omega)
 rw[(h2.rd y).1,(h2.rd y).2] at hc
 clear h1 h2 h3 h4 h5
 go_enter Tryz.func99,Tryz.ntmps99
 go_wp2_with fail
 refine hc.mono ?_
 rintro e w1 ⟨rfl,hb⟩
 go_wp2
 go_ret2
 exact⟨rfl,hb⟩
theorem r_read {w:World} {D E:Nat} {R:Rk} {O:Nat→Prop} (y:ByteArray) (h:Pair w D E R O) (hf:R.Fit) :
  Calls Tryz.prog 100 #[.pointer (some ⟨E,0,none⟩),.string y] w fun e w'=>e = .returned (.tuple #[.string (R.rd y),.int .i64 (R.rdE y)])∧Below w.heap.size w w':=by
 obtain⟨d,blk,vf,vs,vc,h1,h2,h3,h4,h5⟩:=h
 exact Rd.rread_any E R vf vs vc y w h3 hf.safe hf.chs
theorem p_used {w:World} {D E:Nat} {R:Rk} {O:Nat→Prop} {n b:Nat} (h:Pair w D E R O) (hs:Sm R n b) (hn:n≤100000) (hb:b≤1048576) :
  Calls Tryz.prog 101 #[.pointer (some ⟨D,0,none⟩)] w fun e w'=>e = .returned (.int .i64 (R.use R.now:Nat))∧Below w.heap.size w w':=by
 obtain⟨d,blk,vf,vs,vc,h1,h2,h3,h4,h5⟩:=h
 obtain⟨l1,l2⟩:=h2.dlen hs
 have hu:=h2.uF hs
 have hc:=used_any D d w h1 (by omega) (fun p hp=>by have:=hu p hp;omega)
 rw[h2.used] at hc
 clear h1 h2 h3 h4 h5
 go_enter Tryz.func101,Tryz.ntmps101
 go_wp2_with fail
 refine hc.mono ?_
 rintro e w1 ⟨rfl,hb⟩
 go_wp2
 go_ret
 exact⟨rfl,hb⟩
theorem r_used {w:World} {D E:Nat} {R:Rk} {O:Nat→Prop} (h:Pair w D E R O) (hf:R.Fit) :
  Calls Tryz.prog 102 #[.pointer (some ⟨E,0,none⟩)] w fun e w'=>e = .returned (.int .i64 (R.use R.now:Nat))∧Below w.heap.size w w':=by
 obtain⟨d,blk,vf,vs,vc,h1,h2,h3,h4,h5⟩:=h
 exact Rd.used_any E R vf vs vc w h3 hf.safe hf.chs hf.use
theorem p_list {w:World} {D E:Nat} {R:Rk} {O:Nat→Prop} {n b:Nat} (h:Pair w D E R O) (hs:Sm R n b) (hn:n≤100000) :
  Calls Tryz.prog 96 #[.pointer (some ⟨D,0,none⟩)] w fun e w'=>∃ v,e = .returned (.tuple #[v,.int .i64 R.lstE])∧w'.ownsRow w.heap.size 9 1 v R.lst.length (Rd.strs R.lst)∧Below w.heap.size w w':=by
 obtain⟨d,blk,vf,vs,vc,h1,h2,h3,h4,h5⟩:=h
 obtain⟨l1,l2⟩:=h2.dlen hs
 cases hdn:R.down with
 | true =>
  have hc:=list_down D d w h1 (h2.down.trans hdn)
  have e1:R.lst=[]:=by unfold Rk.lst;rw[if_pos hdn]
  have e2:R.lstE=9:=by unfold Rk.lstE;rw[if_pos hdn]
  rw[e1,e2]
  clear h1 h2 h3 h4 h5 hdn e1 e2
  go_enter Tryz.func96,Tryz.ntmps96
  go_wp2_with fail
  refine hc.mono ?_
  rintro e w1 ⟨rfl,hb⟩
  go_wp2
  go_ret2
  exact⟨_,rfl,World.ownsRow_nil _ _ _ _,hb⟩
 | false =>
  have hc:=list_any D d w h1 (by omega) (h2.down.trans hdn)
  have e1:R.lst=(tab R.now).map (·.1):=by unfold Rk.lst;rw[if_neg (by rw[hdn];decide)]
  have e2:R.lstE=0:=by unfold Rk.lstE;rw[if_neg (by rw[hdn];decide)]
  have e3:d.names.map (fun p=>Value.string p.1)=Rd.strs R.lst:=by rw[h2.names,e1];unfold Rd.strs;rw[List.map_map,List.map_map];rfl
  have e4:d.names.length=R.lst.length:=by rw[h2.names,e1,List.length_map,List.length_map]
  rw[e3,e4] at hc
  rw[e2]
  clear h1 h2 h3 h4 h5 hdn e1 e2 e3 e4
  go_enter Tryz.func96,Tryz.ntmps96
  go_wp2_with fail
  refine hc.mono ?_
  rintro e w1 ⟨v,rfl,ho,hb⟩
  obtain⟨p,c,rfl⟩:=own_sl ho
  go_wp2
  go_ret2
  exact⟨_,rfl,ho,hb⟩
theorem r_list {w:World} {D E:Nat} {R:Rk} {O:Nat→Prop} (h:Pair w D E R O) (hf:R.Fit) :
  Calls Tryz.prog 49 #[.pointer (some ⟨E,0,none⟩)] w fun e w'=>∃ v,e = .returned (.tuple #[v,.int .i64 R.lstE])∧w'.ownsRow w.heap.size 9 1 v R.lst.length (Rd.strs R.lst)∧Below w.heap.size w w':=by
 obtain⟨d,blk,vf,vs,vc,h1,h2,h3,h4,h5⟩:=h
 exact Rd.rlist_any E R vf vs vc w h3 hf.safe hf.chs
def NP (w0:World) (D E:Nat) (Q R:Rk) (O:Nat→Prop) (e:Ending) (w':World):Prop:=e = .returned (.tuple #[])∧Half w0 w' D E Q R O
theorem p_quota {w0 w:World} {D E:Nat} {R:Rk} {O:Nat→Prop} (q:Int) (h:Half w0 w D E R R O) :
  Calls Tryz.prog 87 #[.pointer (some ⟨D,0,none⟩),.int .i64 q] w (NP w0 D E { R with limit:=q } R O):=by
 obtain⟨d,blk,vf,vs,vc,h1,h2,h3,h4,h5,h6⟩:=h
 have hc:=quota_any D d q w h1
 have hi:Is { d with q:=q } { R with limit:=q } blk:=h2.same rfl rfl rfl rfl rfl rfl rfl rfl rfl h2.down h2.arm h2.left
 have H:=hde (fun w1 (ht:DTo w w1 D d { d with q:=q })=>Half.dstep (Q:=R) h3 h4 h5 h6 ht hi)
 clear h1 h2 h3 h4 h5 h6 hi
 go_enter Tryz.func87,Tryz.ntmps87
 go_wp2_with fail
 refine hc.mono ?_
 rintro e w1 ⟨rfl,ht⟩
 have HT:=hde ht
 clear ht hc
 go_wp2
 exact bodyPost_end (results_none rfl _ _ _) rfl ⟨rfl,(uh H) _ (uh HT)⟩
theorem p_arm {w0 w:World} {D E:Nat} {R:Rk} {O:Nat→Prop} (n:Int) (hn:n≤9223372036854775807) (h:Half w0 w D E R R O) :
  Calls Tryz.prog 89 #[.pointer (some ⟨D,0,none⟩),.int .i64 n] w (NP w0 D E (R.arm n) R O):=by
 obtain⟨d,blk,vf,vs,vc,h1,h2,h3,h4,h5,h6⟩:=h
 have hc:=arm_any D d n w h1
 have hi:Is { d with armed:=decide (0≤n),left:=n } (R.arm n) blk:=by
  refine h2.same h2.q rfl rfl rfl rfl rfl rfl rfl rfl h2.down ?_ ?_
  ·unfold Rk.arm
   by_cases h0:n < 0
   ·right;left;exact⟨decide_eq_false (by omega),if_pos h0⟩
   ·right;right;exact⟨decide_eq_true (by omega),(if_neg h0).symm,by simp only[if_neg h0];omega⟩
  ·unfold Rk.arm
   by_cases h0:n < 0
   ·simp only[if_pos h0];omega
   ·simp only[if_neg h0];omega
 have H:=hde (fun w1 (ht:DTo w w1 D d { d with armed:=decide (0≤n),left:=n })=>Half.dstep (Q:=R) h3 h4 h5 h6 ht hi)
 clear h1 h2 h3 h4 h5 h6 hi
 go_enter Tryz.func89,Tryz.ntmps89
 go_wp2_with fail
 refine hc.mono ?_
 rintro e w1 ⟨rfl,ht⟩
 have HT:=hde ht
 clear ht hc
 go_wp2
 exact bodyPost_end (results_none rfl _ _ _) rfl ⟨rfl,(uh H) _ (uh HT)⟩
theorem r_quota {w0 w:World} {D E:Nat} {Q R:Rk} {O:Nat→Prop} (q:Int) (h:Half w0 w D E Q R O) :
  Calls Tryz.prog 88 #[.pointer (some ⟨E,0,none⟩),.int .i64 q] w (NP w0 D E Q { R with limit:=q } O):=by
 obtain⟨d,blk,vf,vs,vc,h1,h2,h3,h4,h5,h6⟩:=h
 refine(Rd.rquota_any E R vf vs vc q w h3).mono ?_
 rintro e w' ⟨rfl,ht⟩
 exact⟨rfl,Half.rstep (R:=R) h1 h2 h4 h5 h6 ht⟩
theorem r_arm {w0 w:World} {D E:Nat} {Q R:Rk} {O:Nat→Prop} (n:Int) (h:Half w0 w D E Q R O) :
  Calls Tryz.prog 90 #[.pointer (some ⟨E,0,none⟩),.int .i64 n] w (NP w0 D E Q (R.arm n) O):=by
 obtain⟨d,blk,vf,vs,vc,h1,h2,h3,h4,h5,h6⟩:=h
 refine(Rd.rarm_any E R vf vs vc n w h3).mono ?_
 rintro e w' ⟨rfl,ht⟩
 exact⟨rfl,Half.rstep (R:=R) h1 h2 h4 h5 h6 ht⟩
end Go.Proofs.YteflnddphpjahaaGreatDoor.Pk
