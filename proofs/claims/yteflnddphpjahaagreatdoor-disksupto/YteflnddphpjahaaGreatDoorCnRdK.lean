import Derived.Test.YteflnddphpjahaaGreatDoorCnRdJ
set_option linter.unusedVariables false
set_option linter.unusedSimpArgs false
set_option maxRecDepth 100000
set_option maxHeartbeats 16000000
namespace Go.Proofs.YteflnddphpjahaaGreatDoor.Rd
open Go.RowKit
open Sd (Tb)
open Dk (Kept own_kept)
def KpAt (w:World) (p:Option Addr) (n:Nat) (K:Nat→Int):Prop := ∀ j,j < n→∃ g o,p=some ⟨g,o,none⟩∧g < w.heap.size∧w.cell? ⟨g,o+j,none⟩=some (.int .i64 (K j))∧-9223372036854775808≤K j∧K j≤9223372036854775807
theorem KpAt.below {w w':World} {p:Option Addr} {n:Nat} {K:Nat→Int} (h:KpAt w p n K) (hb:Below w.heap.size w w'):KpAt w' p n K:=fun j hj=>by
 obtain⟨g,o,a,hg,c,r⟩:=h j hj
 exact⟨g,o,a,Nat.lt_of_lt_of_le hg hb.size,by rw[hb.cell (p:=⟨g,o+j,none⟩) hg];exact c,r⟩
def kp (n:Nat) (K:Nat→Int) (i:Nat):Int:=if i < n then K i else 0
theorem crFs_len (K:Nat→Int):∀ (L:Tb) (i:Nat) (F:List Fl),(crFs K i F L).length=F.length
 | [],_,_=>rfl
 | p :: L,i,F=>by rw[crFs,crFs_len K L,List.length_set]
theorem crFs_snoc (K:Nat→Int) (p:ByteArray × Nat):∀ (L:Tb) (i:Nat) (F:List Fl),crFs K i F (L++[p])=(crFs K i F L).set p.2 (crF ((crFs K i F L).getD p.2 ⟨e0,0⟩) (K (i+L.length)))
 | [],_,_=>rfl
 | q :: L,i,F=>by
  rw[List.cons_append,crFs,crFs_snoc K p L,crFs,List.length_cons]
  have e:i+1+L.length=i+(L.length+1):=by omega
  rw[e]
theorem clN_le (k:Int) (m:Nat):clN k m≤m:=by unfold clN;omega
theorem crF_size {F:Fl} (h:F.safe≤F.bytes.size) (k:Int):(crF F k).bytes.size=(crF F k).safe:=by
 have:=clN_le k (F.bytes.size - F.safe)
 unfold crF
 rw[ByteArray.size_extract]
 show min (F.safe+clN k (F.bytes.size - F.safe)) F.bytes.size - 0=F.safe+clN k (F.bytes.size - F.safe)
 omega
theorem crFs_small (K:Nat→Int) (m:Nat):∀ (L:Tb) (i:Nat) (F:List Fl),(∀ f ∈ F,f.bytes.size≤m∧f.safe≤f.bytes.size)→∀ f ∈ crFs K i F L,f.bytes.size≤m
 | [],_,_,h=>fun f hf=>(h f hf).1
 | p :: L,i,F,h=>by
  refine crFs_small K m L (i+1) _ fun f hf=>?_
  rcases List.mem_or_eq_of_mem_set hf with h1 | h1
  ·exact h f h1
  ·have h0:∀ g:Fl,g=F.getD p.2 ⟨e0,0⟩→g.bytes.size≤m∧g.safe≤g.bytes.size:=fun g hg=>by
    by_cases hp:p.2 < F.length
    ·rw[hg,List.getD_eq_getElem?_getD,List.getElem?_eq_getElem hp];exact h _ (List.getElem_mem _)
    ·rw[hg,List.getD_eq_getElem?_getD,List.getElem?_eq_none (by omega)]
     exact⟨Nat.zero_le _,Nat.zero_le _⟩
   obtain⟨a,b⟩:=h0 _ rfl
   have c:=crF_size b (K i)
   have d:=clN_le (K i) ((F.getD p.2 ⟨e0,0⟩).bytes.size - (F.getD p.2 ⟨e0,0⟩).safe)
   have e:(crF (F.getD p.2 ⟨e0,0⟩) (K i)).safe=(F.getD p.2 ⟨e0,0⟩).safe+clN (K i) ((F.getD p.2 ⟨e0,0⟩).bytes.size - (F.getD p.2 ⟨e0,0⟩).safe):=rfl
   rw[h1,c,e]
   omega
def Rk.mid (R:Rk) (K:Nat→Int) (L:Tb):Rk:={ R with files:=crFs K 0 R.files L }
theorem mid_snoc (R:Rk) (K:Nat→Int) (L:Tb) (p:ByteArray × Nat):R.mid K (L++[p])=(R.mid K L).setF p.2 (crF ((R.mid K L).fl p.2) (K L.length)):=by
 unfold Rk.mid Rk.setF
 rw[crFs_snoc]
 simp only[Nat.zero_add]
 rfl
theorem mid_len (R:Rk) (K:Nat→Int) (L:Tb):(R.mid K L).files.length=R.files.length:=crFs_len K L 0 R.files
theorem fl_set01 (F:List Fl) (i:Nat) (h:i < F.length) (b:ByteArray) (n:Nat):flCells (F.set i ⟨b,n⟩)=((flCells F).set (i * 2) (.string b)).set (i * 2+1) (.int .i64 (n:Int)):=by
 have h1:=fl_set0 F i h b
 have h2:=fl_set1 (F.set i ⟨b,F[i].safe⟩) i (by rw[List.length_set];exact h) n
 rw[List.set_set,List.getElem_set_self] at h2
 rw[h2,h1]
theorem RAt.setF2 {w:World} {D:Nat} {R:Rk} {vf vs vc:Value} (h:RAt w D R vf vs vc) {i g cap:Nat} {f:Fl} (hv:vf = .slice (some ⟨g,0,none⟩) R.files.length cap) (hi:i < R.files.length) (hf:f.safe≤f.bytes.size):RTo w ((w.setCell ⟨g,i * 2,none⟩ (.string f.bytes)).setCell ⟨g,i * 2+1,none⟩ (.int .i64 (f.safe:Int))) D vf vs vc (R.setF i f) vf vs vc:=by
 have hgo:vf.ownBlock=some g:=by rw[hv];rfl
 obtain⟨cf,hcf,_⟩:=own_blk h.rf hgo
 have hgD:D≠g:=fun e=>blk_ne hcf h.blk (by decide) e.symm
 refine⟨⟨?_,?_,?_,?_,setF_ok h.ok i f hf⟩,((Kept.refl w _).setCell (fun hk=>hk (Or.inr (Or.inl hgo))) _).setCell (fun hk=>hk (Or.inr (Or.inl hgo))) _,fun k hk=>Or.inl hk⟩
 ·rw[Below.heap_setCell _ ⟨g,i * 2+1,none⟩ _ D hgD,Below.heap_setCell w ⟨g,i * 2,none⟩ _ D hgD];exact h.blk
 ·show World.ownsRow _ 0 _ 2 vf (R.files.set i f).length (flCells (R.files.set i f))
  have hc:=fl_set01 R.files i hi f.bytes f.safe
  rw[List.length_set,show R.files.set i f=R.files.set i ⟨f.bytes,f.safe⟩ from rfl,hc]
  have h1:=h.rf
  rw[hv] at h1 ⊢
  exact own_setIn (own_setIn h1 _) _
 ·refine ownsRow_setCell_other (ownsRow_setCell_other h.rs (fun e=>?_) _) (fun e=>?_) _ <;> (obtain⟨c,hc2,_⟩:=own_blk h.rs e;exact blk_ne hc2 hcf (by decide) rfl)
 ·refine ownsRow_setCell_other (ownsRow_setCell_other h.rc (fun e=>?_) _) (fun e=>?_) _ <;> (obtain⟨c,hc2,_⟩:=own_blk h.rc e;exact blk_ne hc2 hcf (by decide) rfl)
theorem rcrash_any (D:Nat) (R:Rk) (vf vs vc:Value) (n:Int) (kpp:Option Addr) (kn kc:Nat) (K:Nat→Int) (w:World) (h:RAt w D R vf vs vc) (hf:R.Fit) (hK:KpAt w kpp kn K) (hap:0 < kn→∀ g o,kpp=some ⟨g,o,none⟩→¬ rOwn D vf vs vc g) :
  Calls Tryz.prog 139 #[.pointer (some ⟨D,0,none⟩),.int .i64 n,.slice kpp kn kc] w fun e w'=>e = .returned (.tuple #[])∧∃ vs',RTo w w' D vf vs vc (R.crash n (kp kn K)) vf vs' (.slice none 0 0):=by
 have hd:=dir_any D R vf vs vc n w h hf.safe hf.chs
 have hlen:(R.dir n.toNat).length≤200000000:=by have:=dir_len R n.toNat;have:=hf.safe;have:=hf.chs;omega
 have hkd:keyed (R.dir n.toNat):=h.ok.dir_keyed _
 have hfile:∀ p ∈ tab (R.dir n.toNat),p.2 < R.files.length:=fun p hp=>h.ok.dir_file _ p ((tab_mem hkd).1 hp)
 have htl:=tab_len hkd
 have hflen:=hf.fn
 have HSM:Hid (∀ T f,f ∈ (R.mid (kp kn K) T).files→f.bytes.size≤1152921504606846976):=fun T f hf2=>crFs_small _ _ T 0 R.files (fun f hf3=>⟨by
  obtain⟨i,hi,rfl⟩:=List.mem_iff_getElem.1 hf3
  rw[← fl_at R hi];exact hf.file i,h.ok.cut f hf3⟩) f hf2
 have HR:=hde h
 have HK:=hde hK
 have HAP:=hde hap
 obtain⟨L,hL⟩:∃ L,R.dir n.toNat=L:=⟨_,rfl⟩
 have HL:=hde hL
 rw[hL] at hd hlen hkd hfile htl
 have HKD:=hde hkd
 clear h hf hK hap hL hkd
 go_enter Tryz.func139,Tryz.ntmps139
 go_wp2_with fail
 refine hd.mono ?_
 rintro e w1 ⟨v1,rfl,ho1,hb1⟩
 obtain⟨p1,cap1,rfl,he1⟩:=ents_of_own ho1
 clear ho1
 go_wp2_with fail
 refine(sorted_any p1 cap1 L w1 he1 (by omega) (uh HKD)).mono ?_
 rintro e w2 ⟨v2,rfl,ho2,hb2⟩
 obtain⟨p2,cap2,rfl,he2⟩:=ents_of_own ho2
 have hbw:=hb1.trans (hb2.mono hb1.size)
 have HBW:=hde hbw
 have HO2:=hde (own_le ho2 hb1.size)
 clear ho2 he1 hb1 hb2 HKD hd hbw
 go_wp2_with fail
 go_loopw [7] (fun ii wr=>∃ k:Nat,k≤(tab L).length∧ii = .int .i64 k∧RTo w wr D vf vs vc (R.mid (kp kn K) ((tab L).take k)) vf vs vc∧Kept w2 wr (fun j=>¬ rOwn D vf vs vc j)) (fun ii _=>(tab L).length - (intOf ii).toNat)
 case atStart=>exact⟨0,Nat.zero_le _,rfl,RTo.below (uh HR) (uh HBW),Kept.refl _ _⟩
 case round =>
  obtain⟨k,hk,rfl,hto,hkw⟩:=hrel
  have how:=own_kept (uh HO2) hkw (fun g hg hown=>by
   obtain⟨_,_,hge⟩:=own_blk (uh HO2) hg
   have:=rOwn_lt (uh HR) hown
   omega)
  obtain⟨_,_,hpe,he⟩:=ents_of_own how
  injection hpe with q1 q2 q3
  subst q1 q3
  by_cases hlt:k < (tab L).length
  ·have hx2:=hfile _ (List.getElem_mem hlt)
   obtain⟨g,hp,hg,e0',e1'⟩:=he k hlt
   subst hp
   have HS:=hde (mid_snoc R (kp kn K) ((tab L).take k) (tab L)[k])
   have HTK:Hid ((tab L).take (k+1)=(tab L).take k++[(tab L)[k]]):=by show _=_;rw[List.take_add_one,List.getElem?_eq_getElem hlt];rfl
   have hml:=mid_len R (kp kn K) ((tab L).take k)
   obtain⟨x,hxx⟩:∃ x,(tab L)[k]=x:=⟨_,rfl⟩
   rw[hxx] at hx2 e0' e1' HS HTK
   obtain⟨M,hM⟩:∃ M,R.mid (kp kn K) ((tab L).take k)=M:=⟨_,rfl⟩
   rw[hM] at hto HS hml
   have hr:=hto.at'
   obtain⟨c0,_⟩:=hr.cells
   obtain⟨pf,cf,hvf,hfs⟩:=fls_of_own hr.rf
   obtain⟨gf,hpf,hgf,f0,f1⟩:=hfs x.2 (by omega)
   subst hpf
   have hfa:=fl_at M (i:=x.2) (by omega)
   have hcut:=hr.ok.cut (M.fl x.2) (by rw[hfa];exact List.getElem_mem _)
   have hsm:=(uh HSM) ((tab L).take k) (M.fl x.2) (by rw[hM,hfa];exact List.getElem_mem _)
   rw[← hfa] at f0 f1
   rw[hvf] at c0
   obtain⟨F,hF⟩:∃ F,M.fl x.2=F:=⟨_,rfl⟩
   rw[hF] at f0 f1 hcut HS hsm
   obtain⟨B,S⟩:=F
   simp only at f0 f1 hcut hsm
   have hxz:(x.2:Int) < (M.files.length:Int):=by omega
   have hx0:¬ (x.2:Int) < 0:=by omega
   have hDl:=blk_lt hr.blk
   have HTO:=hde hto
   have HM:=hde hM
   have HVF:=hde hvf
   have HKW:=hde hkw
   clear hM hF hfa hfs hr hto hxx how hkw hvf e0' he
   go_wp2_with fail
   go_region
   have hw4:Below wr.heap.size wr (wr.alloc (.cells #[.string B,.int .i64 (S:Int)] 298)).drew:=((Below.refl _ wr).alloc nlr _).drew
   have HT4:=hde ((uh HTO).trans (RTo.below (uh HTO).at' hw4))
   have HK4:=hde ((uh HKW).trans (Kept.below hw4 (fun j=>¬ rOwn D vf vs vc j)))
   have hbf:((wr.alloc (.cells #[.string B,.int .i64 (S:Int)] 298)).drew).heap[wr.heap.size]? = some (.cells #[.string B,.int .i64 (S:Int)] 298 (0,0)):=heap_alloc_new wr _
   rw[← hw4.cell (p:=⟨D,0,none⟩) hDl] at c0
   rw[← hw4.cell (p:=⟨g,k * 2+1,none⟩) hg] at e1'
   rw[← hw4.cell (p:=⟨gf,x.2 * 2,none⟩) hgf] at f0
   rw[← hw4.cell (p:=⟨gf,x.2 * 2+1,none⟩) hgf] at f1
   have HML:=hde hml
   have hxz2:(x.2:Int) < (R.files.length:Int):=by omega
   rw[hml] at c0
   clear hml hxz hg hgf hw4
   have htk:((tab L).take k).length=k:=by rw[List.length_take];omega
   generalize hW4:(wr.alloc (.cells #[.string B,.int .i64 (S:Int)] 298)).drew=W4 at *
   generalize hfb:wr.heap.size=fb at *
   have x0:W4.cell? ⟨fb,0,none⟩=some (.string B):=by rw[cell_of_row W4 _ 0 _ _ _ hbf];rfl
   have x1:W4.cell? ⟨fb,1,none⟩=some (.int .i64 (S:Int)):=by rw[cell_of_row W4 _ 1 _ _ _ hbf];rfl
   have fz0:W4.frozen? ⟨gf,x.2 * 2,none⟩=false:=by
    obtain⟨cc,hcc,_⟩:=own_blk (uh HT4).at'.rf (g:=gf) (by rw[uh HVF];rfl)
    simp[World.frozen?,hcc]
   have fz1:W4.frozen? ⟨gf,x.2 * 2+1,none⟩=false:=by
    obtain⟨cc,hcc,_⟩:=own_blk (uh HT4).at'.rf (g:=gf) (by rw[uh HVF];rfl)
    simp[World.frozen?,hcc]
   clear hW4 hfb hbf
   by_cases hkn:k < kn
   ·obtain⟨gk,ok,hkp,hgk,ck,kr1,kr2⟩:=(uh HK) k hkn
    have ck4:W4.cell? ⟨gk,ok+k,none⟩=some (.int .i64 (K k)):=by
     rw[World.cell?_of_block ((uh HT4).kept.block gk hgk ((uh HAP) (by omega) gk ok hkp))];exact ck
    subst hkp
    have hknz:(k:Int) < (kn:Int):=by omega
    have hkk:kp kn K k=K k:=if_pos hkn
    clear ck
    by_cases hpos:K k > 0
    ·by_cases hless:K k < (B.size:Int) - (S:Int)
     ·obtain⟨m,hm⟩:∃ m:Nat,K k=(m:Int):=⟨(K k).toNat,by omega⟩
      obtain⟨N,hN⟩:∃ N:Nat,N=S+m:=⟨_,rfl⟩
      have hcr:crF ⟨B,S⟩ (kp kn K k)=⟨B.extract 0 N,N⟩:=by
       rw[hkk,hm]
       unfold crF clN
       simp only
       have:S+(min (max (m:Int) 0) ((B.size - S:Nat):Int)).toNat=N:=by omega
       rw[this]
      rw[hm] at ck4 hpos hless
      have hwd:IntKind.i64.wrap ((B.size:Int) - (S:Int))=(B.size:Int) - (S:Int):=by rw[IntKind.wrap_i64];omega
      have hws:IntKind.i64.wrap ((S:Int)+(m:Int))=(N:Int):=by rw[IntKind.wrap_i64];omega
      have HN:Hid (crF ⟨B,S⟩ (kp kn K ((tab L).take k).length)=⟨B.extract 0 N,N⟩):=by show _=_;rw[htk];exact hcr
      have hNB:(N:Int)≤(B.size:Int):=by omega
      have hNB2:N≤B.size:=by omega
      have h9:=fun q=>(RTo.below (uh HT4).at' (drN (Below.refl _ W4) q)).trans (((uh HT4).at'.below (drN (Below.refl _ W4) q)).setF2 (i:=x.2) (f:=⟨B.extract 0 N,N⟩) ((uh HVF).trans (by rw[uh HML])) (by rw[uh HML];exact hx2) (by show N≤(B.extract 0 N).size;rw[ByteArray.size_extract];omega))
      have H9:=hde h9
      clear h9 hcr htk hkk
      clear hm hN
      go_wp2_with fail
      go_quiet (fail)
      go_wp2_with fail
      go_quiet (fail)
      go_wp2_with fail
      go_region
      go_wp2
      go_roundw
      case rel=>exact⟨k+1,by omega,by go_num,by rw[uh HTK,uh HS,uh HN];exact(uh HT4).trans ((uh H9) _),(uh HK4).trans ((uh H9) _).kept⟩
      case measure=>simp[intOf];omega
     ·have hcr:crF ⟨B,S⟩ (kp kn K k)=⟨B,B.size⟩:=by
       rw[hkk]
       unfold crF clN
       simp only
       have:S+(min (max (K k) 0) ((B.size - S:Nat):Int)).toNat=B.size:=by omega
       rw[this,ByteArray.extract_zero_size]
      have hwd:IntKind.i64.wrap ((B.size:Int) - (S:Int))=(B.size:Int) - (S:Int):=by rw[IntKind.wrap_i64];omega
      have hles2:decide (K k < (B.size:Int) - (S:Int))=false:=decide_eq_false hless
      have HN:Hid (crF ⟨B,S⟩ (kp kn K ((tab L).take k).length)=⟨B,B.size⟩):=by show _=_;rw[htk];exact hcr
      have hNB:(B.size:Int)≤(B.size:Int):=by omega
      have hNB2:B.size≤B.size:=by omega
      have h9:=fun q=>(RTo.below (uh HT4).at' (drN (Below.refl _ W4) q)).trans (((uh HT4).at'.below (drN (Below.refl _ W4) q)).setF2 (i:=x.2) (f:=⟨B,B.size⟩) ((uh HVF).trans (by rw[uh HML])) (by rw[uh HML];exact hx2) nlr)
      have H9:=hde h9
      clear h9 hcr htk hkk
      go_wp2_with fail
      go_quiet (fail)
      go_wp2_with fail
      go_region
      go_wp2
      go_roundw
      case rel=>exact⟨k+1,by omega,by go_num,by rw[uh HTK,uh HS,uh HN];exact(uh HT4).trans ((uh H9) _),(uh HK4).trans ((uh H9) _).kept⟩
      case measure=>simp[intOf];omega
    ·have hcr:crF ⟨B,S⟩ (kp kn K k)=⟨B.extract 0 S,S⟩:=by
      rw[hkk]
      unfold crF clN
      simp only
      have:S+(min (max (K k) 0) ((B.size - S:Nat):Int)).toNat=S:=by omega
      rw[this]
     have hpo2:decide (K k > 0)=false:=decide_eq_false hpos
     have HN:Hid (crF ⟨B,S⟩ (kp kn K ((tab L).take k).length)=⟨B.extract 0 S,S⟩):=by show _=_;rw[htk];exact hcr
     have hNB:(S:Int)≤(B.size:Int):=by omega
     have hNB2:S≤B.size:=by omega
     have h9:=fun q=>(RTo.below (uh HT4).at' (drN (Below.refl _ W4) q)).trans (((uh HT4).at'.below (drN (Below.refl _ W4) q)).setF2 (i:=x.2) (f:=⟨B.extract 0 S,S⟩) ((uh HVF).trans (by rw[uh HML])) (by rw[uh HML];exact hx2) (by show S≤(B.extract 0 S).size;rw[ByteArray.size_extract];omega))
     have H9:=hde h9
     clear h9 hcr htk hkk
     go_wp2_with fail
     go_region
     go_wp2
     go_roundw
     case rel=>exact⟨k+1,by omega,by go_num,by rw[uh HTK,uh HS,uh HN];exact(uh HT4).trans ((uh H9) _),(uh HK4).trans ((uh H9) _).kept⟩
     case measure=>simp[intOf];omega
   ·have hkk:kp kn K k=0:=if_neg hkn
    have hcr:crF ⟨B,S⟩ (kp kn K k)=⟨B.extract 0 S,S⟩:=by
     rw[hkk]
     unfold crF clN
     simp only
     have:S+(min (max 0 0) ((B.size - S:Nat):Int)).toNat=S:=by omega
     rw[this]
    have hknz:¬ (k:Int) < (kn:Int):=by omega
    have HN:Hid (crF ⟨B,S⟩ (kp kn K ((tab L).take k).length)=⟨B.extract 0 S,S⟩):=by show _=_;rw[htk];exact hcr
    have hNB:(S:Int)≤(B.size:Int):=by omega
    have hNB2:S≤B.size:=by omega
    have h9:=fun q=>(RTo.below (uh HT4).at' (drN (Below.refl _ W4) q)).trans (((uh HT4).at'.below (drN (Below.refl _ W4) q)).setF2 (i:=x.2) (f:=⟨B.extract 0 S,S⟩) ((uh HVF).trans (by rw[uh HML])) (by rw[uh HML];exact hx2) (by show S≤(B.extract 0 S).size;rw[ByteArray.size_extract];omega))
    have H9:=hde h9
    clear h9 hcr htk hkk
    go_wp2_with fail
    go_region
    go_wp2
    go_roundw
    case rel=>exact⟨k+1,by omega,by go_num,by rw[uh HTK,uh HS,uh HN];exact(uh HT4).trans ((uh H9) _),(uh HK4).trans ((uh H9) _).kept⟩
    case measure=>simp[intOf];omega
  ·obtain rfl:k=(tab L).length:=by omega
   have hr:=hto.at'
   obtain⟨_,d1,d2,_,d4,d5⟩:=hr.cells
   have z1:=hr.fz 1
   have z2:=hr.fz 2
   have z4:=hr.fz 4
   have z5:=hr.fz 5
   have HTO:=hde hto
   have HOW:=hde how
   clear hto hr how he hkw
   go_wp2
   have hto:=uh HTO
   have how:=uh HOW
   have hr:=hto.at'
   have etk:(tab L).take (tab L).length=tab L:=List.take_length
   have hb1:=heap_setCell_same wr D 1 _ _ (.slice p2 L.length cap2) hr.blk
   have hb2:=heap_setCell_same _ D 2 _ _ (.slice none 0 0) hb1
   have hb4:=heap_setCell_same _ D 4 _ _ (.int .i64 (-1)) hb2
   have hb5:=heap_setCell_same _ D 5 _ _ (.bool false) hb4
   have hkd:keyed (R.dir n.toNat):=(uh HR).ok.dir_keyed _
   have hcrs:R.crash n (kp kn K)={ R.mid (kp kn K) (tab L) with safe:=tab L,chs:=[],left := -1,down:=false }:=by
    unfold Rk.crash Rk.mid
    rw[uh HL]
   have hok:(R.crash n (kp kn K)).Ok:=by
    rw[hcrs]
    rw[etk] at hr
    rw[uh HL] at hkd
    refine⟨sorted_keyed (tab_sorted L),fun p hp=>?_,fun p hp=>?_,fun c hc=>(by cases hc),hr.ok.cut⟩
    ·have h1:=(uh HR).ok.dir_some n.toNat p (by rw[uh HL];exact(tab_mem hkd).1 hp)
     exact h1
    ·show p.2 < (R.mid (kp kn K) (tab L)).files.length
     rw[mid_len];exact hfile p hp
   have ne:∀ {e m s B:Nat} {v:Value} {xs:List Value},wr.ownsRow B e s v m xs→e≠209→((((wr.setCell ⟨D,1,none⟩ (.slice p2 L.length cap2)).setCell ⟨D,2,none⟩ (.slice none 0 0)).setCell ⟨D,4,none⟩ (.int .i64 (-1))).setCell ⟨D,5,none⟩ (.bool false)).ownsRow B e s v m xs:=fun {e m s B v xs} ho hne=>by
    have hx:v.ownBlock≠some D:=fun e2=>by obtain⟨x,hx,_⟩:=own_blk ho e2;exact blk_ne hx hr.blk hne rfl
    exact ownsRow_setCell_other (ownsRow_setCell_other (ownsRow_setCell_other (ownsRow_setCell_other ho hx _) hx _) hx _) hx _
   have hrf:=ne hr.rf (by decide)
   have hrs:=ne how (by decide)
   rw[etk] at hrf
   refine bodyPost_end (results_none rfl _ _ _) rfl ⟨rfl,.slice p2 L.length cap2,⟨⟨?_,?_,?_,World.ownsRow_nil _ _ _ _,hok⟩,?_,fun j hj=>?_⟩⟩
   ·rw[hb5,hcrs];rfl
   ·rw[hcrs];exact hrf
   ·rw[hcrs]
    rw[htl] at hrs
    show World.ownsRow _ 0 _ 2 (.slice p2 L.length cap2) (tab L).length (enCells (tab L))
    rw[htl]
    exact own_le hrs (Nat.zero_le _)
   ·exact(((hto.kept.setCell (fun hk=>hk (Or.inl rfl)) _).setCell (fun hk=>hk (Or.inl rfl)) _).setCell (fun hk=>hk (Or.inl rfl)) _).setCell (fun hk=>hk (Or.inl rfl)) _
   ·rcases hj with e | e | e | e
    ·exact Or.inl (Or.inl e)
    ·exact Or.inl (Or.inr (Or.inl e))
    ·rw[htl] at how
     obtain⟨_,_,hge⟩:=own_blk how e;exact Or.inr hge
    ·simp[Value.ownBlock] at e
end Go.Proofs.YteflnddphpjahaaGreatDoor.Rd
