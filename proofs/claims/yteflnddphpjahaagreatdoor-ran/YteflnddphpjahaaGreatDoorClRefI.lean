import Derived.Test.YteflnddphpjahaaGreatDoorProg
import Derived.Test.YteflnddphpjahaaGreatDoorClRefHtoGMem
import Derived.WalkKit
import Derived.Outline
import Derived.Deep.DeepMust
import Derived.Deep.RegionHeld3
import Derived.Deep.RegionLaw
import Derived.Deep.DrawnRows
import Derived.Deep.AppendLies
set_option linter.unusedVariables false
set_option linter.unusedSimpArgs false
set_option maxRecDepth 100000
set_option maxHeartbeats 16000000
namespace Go.Proofs.YteflnddphpjahaaGreatDoor
open Go.RowKit
attribute [local go_sem ↓] Go.wp_at_zero Go.wp_at_succ
def graphVal (v u x:Value):Value := .agg #[v,u,x]
def ParsePost (s:ByteArray) (w:World) (e:Ending) (w':World):Prop :=
 Below w.heap.size w w' ∧
 match Sp.parseSpec s with
 | .error (a,b)=>e = .returned (.tuple #[graphVal (.slice none 0 0) (.slice none 0 0) (.slice none 0 0),.int .i64 a,.int .i64 b])
 | .ok L=>∃ v u x,e = .returned (.tuple #[graphVal v u x,.int .i64 0,.int .i64 0]) ∧
   w'.ownsRow w.heap.size 21 1 v (Sp.vs L (Sp.nv L)).length (((Sp.vs L (Sp.nv L)).map (·.frm)).map (Value.int .i32)) ∧
   w'.ownsRow w.heap.size 2 1 u (Sp.vs L (Sp.nv L)).length (((Sp.vs L (Sp.nv L)).map (·.n)).map (Value.int .i64)) ∧
   w'.ownsRow w.heap.size 67 3 x (Sp.es L (Sp.nv L) (Sp.nv L)).length (edCells (Sp.es L (Sp.nv L) (Sp.nv L)))
theorem Tryz.info_i32:(Tryz.prog.info? 21).map (fun i=>(i.zero,i.size,i.bytes))=some (some (.int .i32 0),1,4):=by kernel_rfl
theorem Tryz.info_i64:(Tryz.prog.info? 2).map (fun i=>(i.zero,i.size,i.bytes))=some (some (.int .i64 0),1,8):=by kernel_rfl
theorem Tryz.info_edge:(Tryz.prog.info? 67).map (fun i=>(i.zero,i.size,i.bytes))=some (some (.agg #[.int .i64 0,.int .i64 0,.int .i64 0]),3,24):=by kernel_rfl
theorem wrap32_of {n:Int} (h0:0≤n) (h1:n≤1114111):IntKind.i32.wrap n=n:=by
 have hm:n % 4294967296=n:=by omega
 unfold IntKind.wrap
 simp[IntKind.bits,IntKind.signed,hm]
 omega
theorem far_cell {w:World} {o:Obj} {g j:Nat} {x:Value} (hg:g < w.heap.size) (h:w.cell? ⟨g,j,none⟩=some x):(w.alloc o).cell? ⟨g,j,none⟩=some x:=by
 rw[World.cell?_alloc_past _ _ _ (by simpa using hg)];exact h
theorem parse_err {s:ByteArray} {w w':World} {a b:Int} (h:Sp.parseSpec s = .error (a,b)) (hb:Below w.heap.size w w') :
  ParsePost s w (.returned (.tuple #[graphVal (.slice none 0 0) (.slice none 0 0) (.slice none 0 0),.int .i64 a,.int .i64 b])) w':=by
 refine⟨hb,?_⟩;rw[h]
theorem own_mono {w:World} {B B' e size n:Nat} {v:Value} {xs:List Value} (h:w.ownsRow B e size v n xs) (hb:B'≤B):w.ownsRow B' e size v n xs:=by
 obtain⟨h1,h2⟩:=h
 refine⟨h1,?_⟩
 rcases h2 with h2 | ⟨g,cap,cur,hv,hB,r⟩
 ·exact .inl h2
 ·exact .inr ⟨g,cap,cur,hv,by omega,r⟩
theorem parse_okl {s:ByteArray} {w w':World} {L:List Sp.Ln} {k:Nat} {N V:List Int} {v u x:Value} (h:Sp.parseSpec s = .ok L) (hk:k=Sp.nv L) (hb:Below w.heap.size w w') (hN:(Sp.vs L k).map (·.frm)=N) (hV:(Sp.vs L k).map (·.n)=V)
  (r0:w'.ownsRow w.heap.size 21 1 v N.length (N.map (Value.int .i32))) (r1:w'.ownsRow w.heap.size 2 1 u V.length (V.map (Value.int .i64))) (r2:w'.ownsRow w.heap.size 67 3 x (Sp.es L k k).length (edCells (Sp.es L k k))) :
  ParsePost s w (.returned (.tuple #[graphVal v u x,.int .i64 0,.int .i64 0])) w':=by
 subst hk hN hV
 refine⟨hb,?_⟩
 rw[h]
 exact⟨v,u,x,rfl,by simpa using r0,by simpa using r1,r2⟩
theorem refParse_err1 (s:ByteArray) (w:World) (hs:s.size≤maxLen) (a b:Int) (h:Sp.readSpec s = .error (a,b)) (ha:a≠0) :
  Calls Tryz.prog 53 #[.string s] w (ParsePost s w):=by
 have HP:Hid (Sp.parseSpec s = .error (a,b)):=by show _=_;unfold Sp.parseSpec;rw[h]
 have ga:(a == 0)=false:=beq_eq_false_iff_ne.2 ha
 have ga':(a != 0)=true:=by rw[bne_iff_ne];exact ha
 have HR:=hde h
 clear h ha
 go_enter Tryz.func53,Tryz.ntmps53
 go_wp2_with fail
 refine(reads_any s _ hs).mono ?_
 rintro e w2 ⟨hb2,hp⟩
 rw[uh HR] at hp
 obtain rfl:=hp
 have hc0:=hb2.cell (p:=⟨w.heap.size,0,none⟩) (by simp)
 have hc1:=hb2.cell (p:=⟨w.heap.size,1,none⟩) (by simp)
 have hc2:=hb2.cell (p:=⟨w.heap.size,2,none⟩) (by simp)
 have hf0:=hb2.frozen (p:=⟨w.heap.size,0,none⟩) (by simp)
 have hf1:=hb2.frozen (p:=⟨w.heap.size,1,none⟩) (by simp)
 have hf2:=hb2.frozen (p:=⟨w.heap.size,2,none⟩) (by simp)
 have hz:=hb2.size
 simp at hc0 hc1 hc2 hf0 hf1 hf2 hz
 go_wp2
 refine bodyPost_ret (v := .tuple #[graphVal (.slice none 0 0) (.slice none 0 0) (.slice none 0 0),.int .i64 a,.int .i64 b]) (by simp[results,Tryz.results53,go_sem,graphVal,hc0,hc1,hc2]) rfl (parse_err (uh HP) ?_)
 exact(((((Below.refl _ _).alloc nlr _).trans (hb2.mono (by simp))).setCell nlr _).setCell nlr _).setCell nlr _
theorem refParse_err2 (s:ByteArray) (w:World) (hs:s.size≤maxLen) (L:List Sp.Ln) (A:List Nat) (h:Sp.readSpec s = .ok (L,A)) (a b:Int) (hw:Sp.wrongSpec L A=(a,b)) (ha:a≠0) :
  Calls Tryz.prog 53 #[.string s] w (ParsePost s w):=by
 have HP:Hid (Sp.parseSpec s = .error (a,b)):=by show _=_;unfold Sp.parseSpec;rw[h];simp only;rw[hw];exact if_neg ha
 have ga:(a == 0)=false:=beq_eq_false_iff_ne.2 ha
 have ga':(a != 0)=true:=by rw[bne_iff_ne];exact ha
 obtain⟨_,hAL,hLl⟩:=Sp.read_ok h
 have HAL:=hde hAL
 have HR:=hde h
 have HW:=hde hw
 clear h ha hw hAL
 go_enter Tryz.func53,Tryz.ntmps53
 go_wp2_with fail
 refine(reads_any s _ hs).mono ?_
 rintro e w2 ⟨hb2,hp⟩
 rw[uh HR] at hp
 obtain⟨v,u,rfl,hv,hu⟩:=hp
 obtain⟨p,cap,rfl,hpL⟩:=lines_of_own hv
 obtain⟨q,cap',hq0,hqA⟩:=nums_of_own hu
 rw[uh HAL] at hq0
 subst hq0
 clear hv hu
 go_wp2_with fail
 refine(wrong_any p q cap cap' L A _ (uh HAL) (by omega) hpL.at hqA).mono ?_
 rintro e w3 ⟨rfl,hb3⟩
 rw[uh HW]
 have hz2:=hb2.size
 have hb4:Below (w.heap.size+1) (w.alloc (.cells #[.slice none 0 0,.slice none 0 0,.slice none 0 0] 79)) w3:=(hb2.mono (by simp)).trans (hb3.mono (by simpa using hz2))
 have hc0:=hb4.cell (p:=⟨w.heap.size,0,none⟩) (by simp)
 have hc1:=hb4.cell (p:=⟨w.heap.size,1,none⟩) (by simp)
 have hc2:=hb4.cell (p:=⟨w.heap.size,2,none⟩) (by simp)
 have hf0:=hb4.frozen (p:=⟨w.heap.size,0,none⟩) (by simp)
 have hf1:=hb4.frozen (p:=⟨w.heap.size,1,none⟩) (by simp)
 have hf2:=hb4.frozen (p:=⟨w.heap.size,2,none⟩) (by simp)
 have hz:=hb4.size
 simp at hc0 hc1 hc2 hf0 hf1 hf2 hz hz2
 clear hpL hqA hb3 hb2
 go_wp2
 refine bodyPost_ret (v := .tuple #[graphVal (.slice none 0 0) (.slice none 0 0) (.slice none 0 0),.int .i64 a,.int .i64 b]) (by simp[results,Tryz.results53,go_sem,graphVal,hc0,hc1,hc2]) rfl (parse_err (uh HP) ?_)
 exact(((((Below.refl _ _).alloc nlr _).trans (hb4.mono (by simp))).setCell nlr _).setCell nlr _).setCell nlr _
theorem refParse_ok (s:ByteArray) (w:World) (hs:s.size≤maxLen) (L:List Sp.Ln) (A:List Nat) (h:Sp.readSpec s = .ok (L,A)) (hw:(Sp.wrongSpec L A).1=0) :
  Calls Tryz.prog 53 #[.string s] w (ParsePost s w):=by
 have HP:Hid (Sp.parseSpec s = .ok L):=by show _=_;unfold Sp.parseSpec;rw[h];exact if_pos hw
 obtain⟨hed,hnv,hw0⟩:=Sp.wrong_ok hw
 obtain⟨hok,hAL,hLl⟩:=Sp.read_ok h
 have HOK:=hde hok
 have HAL:=hde hAL
 obtain⟨t0,ht0,hta,htb,htc⟩:=info_parts Tryz.info_i32
 obtain⟨t1,ht1,hua,hub,huc⟩:=info_parts Tryz.info_i64
 obtain⟨t2,ht2,hva,hvb,hvc⟩:=info_parts Tryz.info_edge
 have HR:=hde h
 have HW:=hde hw0
 clear h hw hAL hw0 hok
 go_enter Tryz.func53,Tryz.ntmps53
 go_wp2_with fail
 refine(reads_any s _ hs).mono ?_
 rintro e w2 ⟨hb2,hp⟩
 rw[uh HR] at hp
 obtain⟨v,u,rfl,hv,hu⟩:=hp
 obtain⟨p,cap,rfl,hpL⟩:=lines_of_own hv
 obtain⟨q,cap',hq0,hqA⟩:=nums_of_own hu
 rw[uh HAL] at hq0
 subst hq0
 clear hv hu
 go_wp2_with fail
 refine(wrong_any p q cap cap' L A _ (uh HAL) (by omega) hpL.at hqA).mono ?_
 rintro e w3 ⟨rfl,hb3⟩
 rw[uh HW]
 have hz2:=hb2.size
 have hz3:=hb3.size
 have hb4:Below (w.heap.size+1) (w.alloc (.cells #[.slice none 0 0,.slice none 0 0,.slice none 0 0] 79)) w3:=(hb2.mono (by simp)).trans (hb3.mono (by simpa using hz2))
 have hL3:LinesIn w3 w3.heap.size p L:=fun k hk=>by
  obtain⟨g,a,hg,b⟩:=(hpL.below hb3) k hk
  exact⟨g,a,by omega,b⟩
 have hz:=hb4.size
 simp at hz hz2
 clear hpL hqA hb3 hb2
 go_wp2_with fail
 go_loopw [10,11] (fun n i wr=>∃ k m:Nat,k≤L.length∧m≤k∧i = .int .i64 k∧n = .int .i64 m∧Hid (m=k - Sp.edgesTo L k)∧w3.alloc (.cells #[.slice none 0 0,.slice none 0 0,.slice none 0 0] 79)=wr) (fun _ i _=>L.length - (intOf i).toNat)
 case atStart=>exact⟨0,0,Nat.zero_le _,Nat.zero_le _,rfl,rfl,by show _=_;simp,rfl⟩
 case round =>
  obtain⟨k,m,hk,hmk,rfl,rfl,HM,hwr⟩:=hrel
  subst hwr
  by_cases hlt:k < L.length
  ·obtain⟨g,rfl,hg,c0,_,_,_⟩:=hL3 k hlt
   by_cases he:L[k].edge=true
   ·have HM':Hid (m=k+1 - Sp.edgesTo L (k+1)):=by show _=_;rw[Sp.nv_succ_no hlt he];exact uh HM
    go_wp2
    go_roundw
    case rel=>exact⟨k+1,m,by omega,by omega,by go_num,rfl,HM',by trivial⟩
    case measure=>simp[intOf];omega
   ·have he':L[k].edge=false:=by simpa using he
    have HM':Hid (m+1=k+1 - Sp.edgesTo L (k+1)):=by show _=_;rw[Sp.nv_succ_yes hlt he',← uh HM]
    go_wp2
    go_roundw
    case rel=>exact⟨k+1,m+1,by omega,by omega,by go_num,by go_num,HM',by trivial⟩
    case measure=>simp[intOf];omega
  ·obtain rfl:k=L.length:=by omega
   have hmv:m=Sp.nv L:=by rw[uh HM,Sp.edgesTo_all nlr];rfl
   have HMV:=hde hmv
   have hm64:m≤64:=by omega
   clear hmv
   go_wp2_with fail
   generalize hG:w3.heap.size=G at hL3 hz hz3
   have HG:=hde hG
   clear hG
   go_loopw [12] (fun kk wr=>∃ (k:Nat) (v u x:Value),k≤m∧kk = .int .i64 k∧G3 wr G v u x ((Sp.vs L k).map (·.frm)) ((Sp.vs L k).map (·.n)) []∧Below G w3 wr) (fun kk _=>m - (intOf kk).toNat)
   case atStart=>exact⟨0,_,_,_,Nat.zero_le _,rfl,by rw[← uh HG];exact G3.new,by rw[← uh HG];exact(Below.refl _ _).alloc nlr _⟩
   case round =>
    obtain⟨k,v,u,x,hkm,rfl,h3,hbr⟩:=hrel
    by_cases hlt:k < m
    ·go_wp2_with fail
     go_loopw [13] (fun ii wi=>∃ (i:Nat) (v u x:Value),i≤L.length∧ii = .int .i64 i∧G3 wi G v u x ((Sp.vs L k++Sp.vAt L k i).map (·.frm)) ((Sp.vs L k++Sp.vAt L k i).map (·.n)) []∧Below G w3 wi) (fun ii _=>L.length - (intOf ii).toNat)
     case atStart=>exact⟨0,v,u,x,Nat.zero_le _,rfl,by rw[Sp.vAt_zero,List.append_nil];exact h3,hbr⟩
     case round =>
      clear h3 hbr v u x
      obtain⟨i,v,u,x,hi,rfl,h3,hbi⟩:=hrel
      by_cases hlti:i < L.length
      ·have hLi:=hL3.below hbi
       obtain⟨g,rfl,hg,c0,c1,c2,c3⟩:=hLi i hlti
       have hcs:=Sp.vs_le L k
       have hva:=Sp.vAt_le L k i
       have hfr:=(uh HOK) L[i] (List.getElem_mem hlti)
       obtain⟨⟨hf1,hf2⟩,_,_⟩:=hfr
       go_wp2_with fail
       refine(place_any _ cap L _ _ (by omega) hLi.at).mono ?_
       rintro e w' ⟨rfl,hw'⟩
       obtain rfl:=hw'.symm
       by_cases he:L[i].edge=true
       ·have HN:Hid (Sp.vAt L k (i+1)=Sp.vAt L k i):=Sp.vAt_no hlti (by simp[Sp.vHit,he])
        go_wp2
        go_roundw
        case rel=>exact⟨i+1,v,u,x,by omega,by go_num,by rw[uh HN];exact h3,hbi⟩
        case measure=>simp[intOf];omega
       ·have he':L[i].edge=false:=by simpa using he
        by_cases hq:Sp.low L L[i].frm=k
        ·have HN:Hid (Sp.vAt L k (i+1)=Sp.vAt L k i++[L[i]]):=Sp.vAt_yes hlti (by simp[Sp.vHit,he',hq])
         have hq':(((Sp.low L L[i].frm:Nat):Int) == (k:Int))=true:=beq_iff_eq.2 (by omega)
         clear hq
         have hii0:(0:Int)≤(i:Int):=Int.natCast_nonneg _
         have hii1:(i:Int) < (L.length:Int):=by omega
         have hk64:k * L.length≤64 * 5000:=Nat.mul_le_mul (by omega) (by omega)
         generalize hN:(Sp.vs L k++Sp.vAt L k i).map (·.frm)=N at h3
         generalize hV:(Sp.vs L k++Sp.vAt L k i).map (·.n)=V at h3
         have hNl:N.length≤400000:=by rw[← hN];simp;omega
         have hVl:V.length≤400000:=by rw[← hV];simp;omega
         have HN1:Hid ((Sp.vs L k++Sp.vAt L k (i+1)).map (·.frm)=N++[L[i].frm]):=by show _=_;rw[uh HN,← List.append_assoc,List.map_append,hN];rfl
         have HV1:Hid ((Sp.vs L k++Sp.vAt L k (i+1)).map (·.n)=V++[L[i].n]):=by show _=_;rw[uh HN,← List.append_assoc,List.map_append,hV];rfl
         clear hN hV hcs hva hk64
         have hGl:=h3.lt
         have hgl:g < wr.heap.size:=by omega
         have hwrp:=wrap32_of hf1 hf2
         have hGc0:=h3.c0
         have hGf0:=h3.fz 0
         have hne0:some G≠v.ownBlock:=fun e=>by have:=(h3.r0.lt G e.symm).1;omega
         have hneg:some g≠v.ownBlock:=fun e=>by have:=(h3.r0.lt g e.symm).1;omega
         go_wp2_with fail
         go_region_law
          ((refine step_append_lies _ (by rfl) _ _ _ (by rfl) (G+1) 21 t0 _ 1 4 Tryz.underlying59 ht0 hta htb htc rfl (by omega) v _ _ (by rfl) ((h3.r0.alloc _).drew)
             ⟨wr.heap.size,0,none⟩ 1 1 [.int .i32 L[i].frm] (by rfl) (by rfl) (World.news_of_block (cs := #[.int .i32 L[i].frm]) (t:=21) (fr:=(0,0)) (heap_alloc_new wr _)) (by simp[Value.oneCell'])
             (by omega) (by unfold maxLen;omega) (by omega) (by simp;omega) (wr.heap.size+1) (by simp) ?_;intro gg cp w1 hown1 hgrow hat hlt1;have hq0:w1.cell? ⟨G,0,none⟩=some v:=(hgrow.cell_far ⟨G,0,none⟩ (by simp;omega) hne0).trans ((h3.alloc _).drew).c0;have hq1:w1.frozen? ⟨G,0,none⟩=false:=(hgrow.frozen_far ⟨G,0,none⟩ (by simp;omega) hne0).trans (((h3.alloc _).drew).fz 0)))
         all_goals
          have h4:=((h3.alloc _).drew).app0 hown1 hgrow
          have hb4i:=below_app ((hbi.alloc (by omega) _).drew) ((h3.alloc _).drew).lt ((h3.alloc _).drew).r0 hgrow 0 (.slice (some ⟨gg,0,none⟩) (N.length+1) cp)
          generalize w1.setCell ⟨G,0,none⟩ (.slice (some ⟨gg,0,none⟩) (N.length+1) cp)=wa at h4 hb4i ⊢
          clear hown1 hgrow hat hlt1 hq0 hq1 hne0 hneg
          obtain⟨g1,e1,_,_,_,_,b3⟩:=hL3 i hlti
          injection e1 with e1
          injection e1 with e1
          subst e1
          have c3a:=(hb4i.cell (p:=⟨g,i * 4+3,none⟩) hg).trans b3
          clear b3 c0 c1 c2 c3 hGc0 hGf0 hGl hgl
          have hGl:=h4.lt
          have hGc1:=h4.c1
          have hGf1:=h4.fz 1
          have hne1:some G≠u.ownBlock:=fun e=>by have:=(h4.r1.lt G e.symm).1;omega
          go_wp2_with fail
          go_region_law
           ((refine step_append_lies _ (by rfl) _ _ _ (by rfl) (G+1) 2 t1 _ 1 8 Tryz.underlying42 ht1 hua hub huc rfl (by omega) u _ _ (by rfl) ((h4.r1.alloc _).drew) ⟨wa.heap.size,0,none⟩ 1 1 [.int .i64 L[i].n] (by rfl) (by rfl) (World.news_of_block (cs := #[.int .i64 L[i].n]) (t:=2) (fr:=(0,0)) (heap_alloc_new wa _)) (by simp[Value.oneCell']) (by omega) (by unfold maxLen;omega) (by omega) (by simp;omega) (wa.heap.size+1) (by simp) ?_;intro gh cq w5 hown5 hgrow5 hat5 hlt5;have hq0:w5.cell? ⟨G,1,none⟩=some u:=(hgrow5.cell_far ⟨G,1,none⟩ (by simp;omega) hne1).trans ((h4.alloc _).drew).c1;have hq1:w5.frozen? ⟨G,1,none⟩=false:=(hgrow5.frozen_far ⟨G,1,none⟩ (by simp;omega) hne1).trans (((h4.alloc _).drew).fz 1)))
         all_goals
          have h6:=((h4.alloc _).drew).app1 hown5 hgrow5
          have hb6:=below_app ((hb4i.alloc (by omega) _).drew) ((h4.alloc _).drew).lt ((h4.alloc _).drew).r1 hgrow5 1 (.slice (some ⟨gh,0,none⟩) (V.length+1) cq)
          generalize w5.setCell ⟨G,1,none⟩ (.slice (some ⟨gh,0,none⟩) (V.length+1) cq)=wb at h6 hb6 ⊢
          clear hown5 hgrow5 hat5 hlt5 hq0 hq1 hne1 hGc1 hGf1 hGl h3 h4 hb4i
          go_wp2
          go_roundw
          case rel =>
           exact⟨i+1,_,_,_,by omega,by go_num,by rw[uh HN1,uh HV1];exact h6,hb6⟩
          case measure=>simp[intOf];omega
        ·have HN:Hid (Sp.vAt L k (i+1)=Sp.vAt L k i):=Sp.vAt_no hlti (by simp[Sp.vHit,hq])
         have hq':(((Sp.low L L[i].frm:Nat):Int) == (k:Int))=false:=beq_eq_false_iff_ne.2 (by omega)
         go_wp2
         go_roundw
         case rel=>exact⟨i+1,v,u,x,by omega,by go_num,by rw[uh HN];exact h3,hbi⟩
         case measure=>simp[intOf];omega
      ·obtain rfl:i=L.length:=by omega
       go_wp2
       go_roundw
       case rel=>exact⟨k+1,v,u,x,by omega,by go_num,h3,hbi⟩
       case measure=>simp[intOf];omega
    ·obtain rfl:k=m:=by omega
     have hVN:(Sp.vs L k).length≤400000:=by
      have:=Sp.vs_le L k
      have hk64:k * L.length≤64 * 5000:=Nat.mul_le_mul (by omega) (by omega)
      omega
     generalize hN:(Sp.vs L k).map (·.frm)=N at h3
     generalize hV:(Sp.vs L k).map (·.n)=V at h3
     have HN:=hde hN
     have HV:=hde hV
     clear hN hV
     go_wp2_with fail
     go_loopw [15] (fun aa wr=>∃ (a:Nat) (v u x:Value),a≤k∧aa = .int .i64 a∧G3 wr G v u x N V (Sp.es L k a)∧Below G w3 wr) (fun aa _=>k - (intOf aa).toNat)
     case atStart=>exact⟨0,v,u,x,Nat.zero_le _,rfl,h3,hbr⟩
     case round =>
      clear h3 hbr v u x
      obtain⟨a,v,u,x,hak,rfl,h3,hba⟩:=hrel
      by_cases hlta:a < k
      ·go_wp2_with fail
       go_loopw [16] (fun bb wr=>∃ (b:Nat) (v u x:Value),b≤k∧bb = .int .i64 b∧G3 wr G v u x N V (Sp.es L k a++Sp.eRow L a b)∧Below G w3 wr) (fun bb _=>k - (intOf bb).toNat)
       case atStart=>exact⟨0,v,u,x,Nat.zero_le _,rfl,by simp only[Sp.eRow,List.append_nil];exact h3,hba⟩
       case round =>
        clear h3 hba v u x
        obtain⟨b,v,u,x,hbk,rfl,h3,hbb⟩:=hrel
        by_cases hltb:b < k
        ·go_wp2_with fail
         go_loopw [17] (fun ii wr=>∃ (i:Nat) (v u x:Value),i≤L.length∧ii = .int .i64 i∧G3 wr G v u x N V (Sp.es L k a++Sp.eRow L a b++Sp.eAt L a b i)∧Below G w3 wr) (fun ii _=>L.length - (intOf ii).toNat)
         case atStart=>exact⟨0,v,u,x,Nat.zero_le _,rfl,by rw[Sp.eAt_zero,List.append_nil];exact h3,hbb⟩
         case round =>
          clear h3 hbb v u x
          obtain⟨i,v,u,x,hi,rfl,h3,hbi⟩:=hrel
          by_cases hlti:i < L.length
          ·have hLi:=hL3.below hbi
           obtain⟨g,rfl,hg,c0,c1,c2,c3⟩:=hLi i hlti
           go_wp2_with fail
           refine(place_any _ cap L _ _ (by omega) hLi.at).mono ?_
           rintro e w' ⟨rfl,hw'⟩
           obtain rfl:=hw'.symm
           go_wp2_with fail
           refine(place_any _ cap L _ _ (by omega) hLi.at).mono ?_
           rintro e w' ⟨rfl,hw'⟩
           obtain rfl:=hw'.symm
           by_cases he:L[i].edge=true
           ·by_cases hqa:Sp.low L L[i].frm=a
            ·have hqa':(((Sp.low L L[i].frm:Nat):Int) == (a:Int))=true:=beq_iff_eq.2 (by omega)
             by_cases hqb:Sp.low L L[i].to=b
             ·have HE:Hid (Sp.eAt L a b (i+1)=Sp.eAt L a b i++[⟨a,b,L[i].n⟩]):=Sp.eAt_yes hlti (by simp[Sp.eHit,he,hqa,hqb])
              have hqb':(((Sp.low L L[i].to:Nat):Int) == (b:Int))=true:=beq_iff_eq.2 (by omega)
              have hes:=Sp.es_le L k a
              have her:=Sp.eRow_le L a b
              have hea:=Sp.eAt_le L a b i
              have hm1:k * L.length≤64 * 5000:=Nat.mul_le_mul (by omega) (by omega)
              have hm2:a * (k * L.length)≤64 * (64 * 5000):=Nat.mul_le_mul (by omega) hm1
              have hm3:b * L.length≤64 * 5000:=Nat.mul_le_mul (by omega) (by omega)
              generalize hE:Sp.es L k a++Sp.eRow L a b++Sp.eAt L a b i=E at h3
              have hEl:E.length≤30000000:=by rw[← hE];simp;omega
              have HE1:Hid (Sp.es L k a++Sp.eRow L a b++Sp.eAt L a b (i+1)=E++[⟨a,b,L[i].n⟩]):=by show _=_;rw[uh HE,← List.append_assoc,hE]
              clear hE hes her hea hm1 hm2 hm3 hqa hqb
              have hii0:(0:Int)≤(i:Int):=Int.natCast_nonneg _
              have hii1:(i:Int) < (L.length:Int):=by omega
              have hGl:=h3.lt
              have hGc2:=h3.c2
              have hGf2:=h3.fz 2
              have hgl:g < wr.heap.size:=by omega
              have hne2:some G≠x.ownBlock:=fun e=>by have:=(h3.r2.lt G e.symm).1;omega
              go_wp2_with fail
              go_region_law ((refine step_append_lies _ (by rfl) _ _ _ (by rfl) (G+1) 67 t2 _ 3 24 Tryz.underlying63 ht2 hva hvb hvc rfl (by omega) x _ _ (by rfl) ((h3.r2.alloc _).drew) ⟨wr.heap.size,0,none⟩ 1 1 [.int .i64 (a:Int),.int .i64 (b:Int),.int .i64 L[i].n] (by rfl) (by rfl) (World.news_of_block (cs := #[.int .i64 (a:Int),.int .i64 (b:Int),.int .i64 L[i].n]) (t:=67) (fr:=(0,0)) (heap_alloc_new wr _)) (by simp[Value.oneCell']) (by omega) (by unfold maxLen;omega) (by omega) (by simp;omega) (wr.heap.size+1) (by simp) ?_;intro gg cp w1 hown1 hgrow hat hlt1;have hq0:w1.cell? ⟨G,2,none⟩=some x:=(hgrow.cell_far ⟨G,2,none⟩ (by simp;omega) hne2).trans ((h3.alloc _).drew).c2;have hq1:w1.frozen? ⟨G,2,none⟩=false:=(hgrow.frozen_far ⟨G,2,none⟩ (by simp;omega) hne2).trans (((h3.alloc _).drew).fz 2)))
              all_goals
               have h4:=((h3.alloc _).drew).app2 (a:=⟨a,b,L[i].n⟩) hown1 hgrow
               have hb4i:=below_app ((hbi.alloc (by omega) _).drew) ((h3.alloc _).drew).lt ((h3.alloc _).drew).r2 hgrow 2 (.slice (some ⟨gg,0,none⟩) (E.length+1) cp)
               generalize w1.setCell ⟨G,2,none⟩ (.slice (some ⟨gg,0,none⟩) (E.length+1) cp)=wa at h4 hb4i ⊢
               clear hown1 hgrow hat hlt1 hq0 hq1 hne2 h3
               go_wp2
               go_roundw
               case rel=>exact⟨i+1,_,_,_,by omega,by go_num,by rw[uh HE1];exact h4,hb4i⟩
               case measure=>simp[intOf];omega
             ·have HE:Hid (Sp.eAt L a b (i+1)=Sp.eAt L a b i):=Sp.eAt_no hlti (by simp[Sp.eHit,hqb])
              have hqb':(((Sp.low L L[i].to:Nat):Int) == (b:Int))=false:=beq_eq_false_iff_ne.2 (by omega)
              go_wp2
              go_roundw
              case rel=>exact⟨i+1,v,u,x,by omega,by go_num,by rw[uh HE];exact h3,hbi⟩
              case measure=>simp[intOf];omega
            ·have HE:Hid (Sp.eAt L a b (i+1)=Sp.eAt L a b i):=Sp.eAt_no hlti (by simp[Sp.eHit,hqa])
             have hqa':(((Sp.low L L[i].frm:Nat):Int) == (a:Int))=false:=beq_eq_false_iff_ne.2 (by omega)
             go_wp2
             go_roundw
             case rel=>exact⟨i+1,v,u,x,by omega,by go_num,by rw[uh HE];exact h3,hbi⟩
             case measure=>simp[intOf];omega
           ·have he':L[i].edge=false:=by simpa using he
            have HE:Hid (Sp.eAt L a b (i+1)=Sp.eAt L a b i):=Sp.eAt_no hlti (by simp[Sp.eHit,he'])
            go_wp2
            go_roundw
            case rel=>exact⟨i+1,v,u,x,by omega,by go_num,by rw[uh HE];exact h3,hbi⟩
            case measure=>simp[intOf];omega
          ·obtain rfl:i=L.length:=by omega
           go_wp2
           go_roundw
           case rel=>exact⟨b+1,v,u,x,by omega,by go_num,by simp only[Sp.eRow];rw[← List.append_assoc];exact h3,hbi⟩
           case measure=>simp[intOf];omega
        ·obtain rfl:b=k:=by omega
         go_wp2
         go_roundw
         case rel=>exact⟨a+1,v,u,x,by omega,by go_num,h3,hbb⟩
         case measure=>simp[intOf];omega
      ·obtain rfl:a=k:=by omega
       have hc0:=h3.c0
       have hc1:=h3.c1
       have hc2:=h3.c2
       have hbz:Below (w.heap.size+1) (w.alloc (.cells #[.slice none 0 0,.slice none 0 0,.slice none 0 0] 79)) wr:=hb4.trans (hba.mono (by omega))
       have d0:=hbz.cell (p:=⟨w.heap.size,0,none⟩) (by simp)
       have d1:=hbz.cell (p:=⟨w.heap.size,1,none⟩) (by simp)
       have d2:=hbz.cell (p:=⟨w.heap.size,2,none⟩) (by simp)
       have f0:=hbz.frozen (p:=⟨w.heap.size,0,none⟩) (by simp)
       have f1:=hbz.frozen (p:=⟨w.heap.size,1,none⟩) (by simp)
       have f2:=hbz.frozen (p:=⟨w.heap.size,2,none⟩) (by simp)
       simp at d0 d1 d2 f0 f1 f2
       obtain⟨p0,k0,rfl,_⟩:=osl h3.r0
       obtain⟨p1,k1,rfl,_⟩:=osl h3.r1
       obtain⟨p2,k2,rfl,_⟩:=osl h3.r2
       have hbf:Below w.heap.size w (((wr.setCell ⟨w.heap.size,0,none⟩ (.slice p0 N.length k0)).setCell ⟨w.heap.size,1,none⟩ (.slice p1 V.length k1)).setCell ⟨w.heap.size,2,none⟩ (.slice p2 (Sp.es L a a).length k2)):=
        (((((Below.refl _ _).alloc nlr _).trans (hbz.mono (by simp))).setCell nlr _).setCell nlr _).setCell nlr _
       have hlo:w.heap.size < G+1:=by omega
       have r0:=ownsRow_setCell_below (ownsRow_setCell_below (ownsRow_setCell_below h3.r0 (a:=⟨w.heap.size,0,none⟩) hlo (.slice p0 N.length k0)) (a:=⟨w.heap.size,1,none⟩) hlo (.slice p1 V.length k1)) (a:=⟨w.heap.size,2,none⟩) hlo (.slice p2 (Sp.es L a a).length k2)
       have r1:=ownsRow_setCell_below (ownsRow_setCell_below (ownsRow_setCell_below h3.r1 (a:=⟨w.heap.size,0,none⟩) hlo (.slice p0 N.length k0)) (a:=⟨w.heap.size,1,none⟩) hlo (.slice p1 V.length k1)) (a:=⟨w.heap.size,2,none⟩) hlo (.slice p2 (Sp.es L a a).length k2)
       have r2:=ownsRow_setCell_below (ownsRow_setCell_below (ownsRow_setCell_below h3.r2 (a:=⟨w.heap.size,0,none⟩) hlo (.slice p0 N.length k0)) (a:=⟨w.heap.size,1,none⟩) hlo (.slice p1 V.length k1)) (a:=⟨w.heap.size,2,none⟩) hlo (.slice p2 (Sp.es L a a).length k2)
       have HF:=hde (parse_okl (uh HP) (uh HMV) hbf (uh HN) (uh HV) (own_mono r0 (by omega)) (own_mono r1 (by omega)) (own_mono r2 (by omega)))
       clear hbf r0 r1 r2 h3 hba
       go_wp2
       exact bodyPost_ret (v := .tuple #[graphVal (.slice p0 N.length k0) (.slice p1 V.length k1) (.slice p2 (Sp.es L a a).length k2),.int .i64 0,.int .i64 0]) (by simp[results,Tryz.results53,go_sem,graphVal,d0,d1,d2]) rfl (uh HF)
theorem refParse_any (s:ByteArray) (w:World) (hs:s.size≤maxLen):Calls Tryz.prog 53 #[.string s] w (ParsePost s w):=by
 cases h:Sp.readSpec s with
 | error e =>
  obtain⟨a,b⟩:=e
  refine refParse_err1 s w hs a b h ?_
  unfold Sp.readSpec at h
  split at h
  ·injection h with h;injection h with h;omega
  ·split at h
   ·injection h with h;injection h with h;omega
   ·exact Sp.rd_err _ _ _ _ h
 | ok p =>
  obtain⟨L,A⟩:=p
  by_cases hw:(Sp.wrongSpec L A).1=0
  ·exact refParse_ok s w hs L A h hw
  ·exact refParse_err2 s w hs L A h _ _ rfl hw
end Go.Proofs.YteflnddphpjahaaGreatDoor
