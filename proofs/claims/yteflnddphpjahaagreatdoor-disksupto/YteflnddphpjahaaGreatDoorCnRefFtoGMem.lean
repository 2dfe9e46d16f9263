import Derived.Test.YteflnddphpjahaaGreatDoorProg
import Derived.Test.YteflnddphpjahaaGreatDoorCnPlAtoCom
import Derived.Test.YteflnddphpjahaaGreatDoorCnRefEtoRefD
import Derived.WalkKit
import Derived.Outline
import Derived.Deep.DeepMust
import Derived.Deep.QuietTactic
import Derived.BigQuiet
import Derived.Deep.AppendLies
set_option linter.unusedVariables false
set_option linter.unusedSimpArgs false
set_option maxRecDepth 100000
set_option maxHeartbeats 16000000
namespace Go.Proofs.YteflnddphpjahaaGreatDoor
open Go.RowKit
theorem Tryz.info_line:(Tryz.prog.info? 224).map (fun i=>(i.zero,i.size,i.bytes))=some (some (.agg #[.bool false,.int .i64 0,.int .i64 0,.int .i64 0]),4,32):=by kernel_rfl
theorem Tryz.info_int:(Tryz.prog.info? 3).map (fun i=>(i.zero,i.size,i.bytes))=some (some (.int .i64 0),1,8):=by kernel_rfl
theorem own_form {w:World} {B e size n:Nat} {v:Value} {xs:List Value} (h:w.ownsRow B e size v n xs) (hn:0 < n):∃ g cap,v = .slice (some ⟨g,0,none⟩) n cap:=by
 rcases h.2 with ⟨_,h0⟩ | ⟨g,cap,cur,hv,_⟩
 ·omega
 ·exact⟨g,cap,hv⟩
def lnCells (l:Sp.Ln):List Value:=[.bool l.edge,.int .i64 l.frm,.int .i64 l.to,.int .i64 l.n]
def lnsCells (L:List Sp.Ln):List Value:=L.flatMap lnCells
def numCells (A:List Nat):List Value:=A.map fun k:Nat=>Value.int .i64 (k:Int)
def ReadsPost (s:ByteArray) (w:World) (e:Ending) (w':World):Prop :=
 Below w.heap.size w w' ∧
 match Sp.readSpec s with
 | .error (a,b)=>e = .returned (.tuple #[.slice none 0 0,.slice none 0 0,.int .i64 a,.int .i64 b])
 | .ok (L,A)=>∃ v u,e = .returned (.tuple #[v,u,.int .i64 0,.int .i64 0])∧w'.ownsRow w.heap.size 224 4 v L.length (lnsCells L)∧w'.ownsRow w.heap.size 3 1 u A.length (numCells A)
theorem reads_err {s:ByteArray} {w w':World} {a b:Int} (h:Sp.readSpec s = .error (a,b)) (hb:Below w.heap.size w w') :
  ReadsPost s w (.returned (.tuple #[.slice none 0 0,.slice none 0 0,.int .i64 a,.int .i64 b])) w':=by
 refine⟨hb,?_⟩;rw[h]
theorem reads_ok {s:ByteArray} {w w':World} {L:List Sp.Ln} {A:List Nat} {v u:Value} (h:Sp.readSpec s = .ok (L,A)) (hb:Below w.heap.size w w')
  (hv:w'.ownsRow w.heap.size 224 4 v L.length (lnsCells L)) (hu:w'.ownsRow w.heap.size 3 1 u A.length (numCells A)) :
  ReadsPost s w (.returned (.tuple #[v,u,.int .i64 0,.int .i64 0])) w':=by
 refine⟨hb,?_⟩;rw[h];exact⟨v,u,rfl,hv,hu⟩
theorem read_long (s:ByteArray) (w:World) (hm:s.size≤maxLen) (hs:4000 < s.size):Calls Tryz.prog 103 #[.string s] w (ReadsPost s w):=by
 have HL:Hid (Sp.readSpec s = .error (1,0)):=if_pos hs
 have g:4000 < ((s.size:Nat):Int):=by omega
 unfold maxLen at hm
 go_enter Tryz.func103,Tryz.ntmps103
 go_wp2
 exact bodyPost_ret (v := .tuple #[.slice none 0 0,.slice none 0 0,.int .i64 1,.int .i64 0]) (by simp[results,Tryz.results103,go_sem]) rfl (reads_err (uh HL) (Below.refl _ _))
theorem read_broken (s:ByteArray) (w:World) (hs:s.size≤4000) (i:Nat) (hb:Sp.bad s=some i):Calls Tryz.prog 103 #[.string s] w (ReadsPost s w):=by
 have HL:Hid (Sp.readSpec s = .error (2,(i:Int))):=by
  show _=_;unfold Sp.readSpec;rw[if_neg (by omega),hb]
 have g:((s.size:Nat):Int)≤4000:=by omega
 have HB:Hid (Sp.badInt (Sp.bad s)=(i:Int)):=by show _=_;rw[hb];rfl
 clear hb
 go_enter Tryz.func103,Tryz.ntmps103
 go_wp2_with (go_at_call 155;refine(broken_any s _ hs).mono ?_;rintro e w' ⟨rfl,rfl⟩;rw[uh HB])
 exact bodyPost_ret (v := .tuple #[.slice none 0 0,.slice none 0 0,.int .i64 2,.int .i64 i]) (by simp[results,Tryz.results103,go_sem]) rfl (reads_err (uh HL) (Below.refl _ _))
theorem read_lines (s:ByteArray) (w:World) (hs:s.size≤4000) (hb:Sp.bad s=none):Calls Tryz.prog 103 #[.string s] w (ReadsPost s w):=by
 have HL:Hid (Sp.readSpec s=Sp.rdFrom (Sp.split s 10) 0 [] []):=by
  show _=_;unfold Sp.readSpec;rw[if_neg (by omega),hb]
 have g:((s.size:Nat):Int)≤4000:=by omega
 have HB:Hid (Sp.badInt (Sp.bad s) = -1):=by show _=_;rw[hb];rfl
 clear hb
 obtain⟨i0,hi,hz0,hz1,hz2⟩:=info_parts Tryz.info_line
 obtain⟨i1,hi1,hy0,hy1,hy2⟩:=info_parts Tryz.info_int
 have hlen:=Sp.split_len s 10
 have HS:=hde (Sp.split_size s 10)
 generalize hls:Sp.split s 10=ls at hlen HS HL
 have HLS:=hde hls
 clear hls
 go_enter Tryz.func103,Tryz.ntmps103
 go_wp2_with fail
 refine(broken_any s _ hs).mono ?_
 rintro e w ⟨rfl,rfl⟩
 rw[uh HB]
 go_wp2_with fail
 refine(split_any s 10 _ rfl (by omega) _ hs).mono ?_
 rintro e w1 ⟨V,rfl,hV,hbV⟩
 rw[uh HLS] at hV
 obtain⟨g0,cap0,rfl⟩:=own_form hV hlen.1
 go_wp2_with fail
 go_loopw [7,8,10] (fun l a i wr=>∃ (k:Nat) (L:List Sp.Ln) (A:List Nat),k≤ls.length∧L.length≤k∧A.length≤k∧i = .int .i64 k∧wr.ownsRow w.heap.size 224 4 l L.length (lnsCells L)∧wr.ownsRow w.heap.size 3 1 a A.length (numCells A) ∧
   wr.ownsRow w.heap.size 9 1 (.slice (some ⟨g0,0,none⟩) ls.length cap0) ls.length (ls.map Value.string)∧Below w.heap.size w wr∧Hid (Sp.rdFrom (ls.drop k) k L A=Sp.rdFrom ls 0 [] []))
  (fun _ _ i _=>ls.length - (intOf i).toNat)
 case atStart=>exact⟨0,[],[],Nat.zero_le _,Nat.zero_le _,Nat.zero_le _,rfl,World.ownsRow_nil _ _ _ _,World.ownsRow_nil _ _ _ _,hV,hbV,rfl⟩
 case round =>
  obtain⟨k,L,A,hk,hLk,hAk,rfl,hl,ha,hv,hbw,HR⟩:=hrel
  by_cases hlt:k < ls.length
  ·have hcx:wr.cell? ⟨g0,k,none⟩=some (.string ls[k]):=by
    rw[hv.cellAt k (by omega)];simp[hlt]
   have hxs:(ls[k]).size≤4000:=by have:=(uh HS) ls[k] (List.getElem_mem hlt);omega
   generalize hx:ls[k]=x at hcx hxs
   have HX:=hde hx
   clear hx
   by_cases he:x.size=0
   ·have hxe:x.toList.isEmpty=true:=by rw[ByteArray.toList_eq,nil_of (by omega)];rfl
    go_wp2
    go_roundw
    case rel=>exact⟨k+1,L,A,by omega,by omega,by omega,by go_num,hl,ha,hv,hbw,by show _=_;rw[← uh HR];exact(Sp.rd_empty hlt L A (by rw[uh HX];exact he)).symm⟩
    case measure=>simp[intOf];omega
   ·have hxe:x.toList.isEmpty=false:=by
     rw[ByteArray.toList_eq]
     cases hq:x.data.toList with
     | nil=>exact absurd hq (ne_nil (by omega))
     | cons _ _=>rfl
    cases hln:Sp.lineOf x with
    | none =>
     have HN:=hde hln
     clear hln
     go_wp2_with fail
     refine(read_any x _ hxs).mono ?_
     rintro e w2 ⟨l,rfl,_,hb2⟩
     rw[uh HN]
     unfold lnVal
     go_wp2
     exact bodyPost_ret (v := .tuple #[.slice none 0 0,.slice none 0 0,.int .i64 3,.int .i64 k]) (by simp[results,Tryz.results103,go_sem]) rfl (reads_err (by rw[uh HL,← uh HR];exact Sp.rd_none hlt L A (by rw[uh HX];exact he) (by rw[uh HX];exact uh HN)) ((hbw.trans (hb2.mono hbw.size)).alloc (Nat.le_trans hbw.size hb2.size) _))
    | some l =>
     have HN:=hde hln
     clear hln
     go_wp2_with fail
     refine(read_any x _ hxs).mono ?_
     rintro e w2 ⟨l',rfl,hll,hb2⟩
     obtain rfl:l'=l:=hll l (uh HN)
     rw[uh HN]
     clear hll
     unfold lnVal
     have hl2:=obl hl hb2
     have ha2:=obl ha hb2
     have hv2:=obl hv hb2
     have hbw2:=hbw.trans (hb2.mono hbw.size)
     have hB2:=hbw2.size
     clear hl ha hv hcx hb2
     go_wp2_with (first
      | (at_builtin;go_must (refine wpList_append_own _ rfl (.tmp 45) (.tmp 47) 218 rfl w.heap.size 224 i0 _ 4 32 Tryz.underlying218 hi hz0 hz1 hz2 rfl (by decide) _ _ _ rfl ((hl2.alloc _).alloc _) ⟨w2.heap.size+1,0,none⟩ 1 1 (lnCells l') rfl rfl ?c1 ?c2 ?c3 ?c4 ?c5 ?_))
      | go_in)
     case c1 =>
      intro j u hj
      match j,hj with
      | 0,hj=>simp[lnCells] at hj;subst hj;simp[Addr.add]
      | 1,hj=>simp[lnCells] at hj;subst hj;simp[Addr.add]
      | 2,hj=>simp[lnCells] at hj;subst hj;simp[Addr.add]
      | 3,hj=>simp[lnCells] at hj;subst hj;simp[Addr.add]
      | j+4,hj=>simp[lnCells] at hj
     case c2=>intro u hu;simp[lnCells] at hu;rcases hu with rfl | rfl | rfl | rfl <;> rfl
     case c3=>unfold maxLen;omega
     case c4=>omega
     case c5=>simp;omega
     intro v3 w3 hl3 hg3 _
     have hbw3:=rel_app (ys:=[]) (v':=v3) (by simp;omega) ((hl2.alloc _).alloc _) ((hbw2.alloc hB2 _).alloc (by simp;omega) _) hg3
     have ha3:=own_app ((hl2.alloc _).alloc _) ((ha2.alloc _).alloc _) (by decide) hg3
     have hv3:=own_app ((hl2.alloc _).alloc _) ((hv2.alloc _).alloc _) (by decide) hg3
     have hB3:=hbw3.size
     clear hg3 hl2 ha2 hv2 hbw2
     go_wp2_with (first
      | (at_builtin;go_must (refine wpList_append_own _ rfl (.tmp 49) (.tmp 51) 72 rfl w.heap.size 3 i1 _ 1 8 Tryz.underlying72 hi1 hy0 hy1 hy2 rfl (by decide) _ _ _ rfl (ha3.alloc _) ⟨w3.heap.size,0,none⟩ 1 1 [.int .i64 (k:Int)] rfl rfl ?d1 ?d2 ?d3 ?d4 ?d5 ?_))
      | go_in)
     case d1 =>
      intro j u hj
      match j,hj with
      | 0,hj=>simp at hj;subst hj;simp[Addr.add]
     case d2=>intro u hu;simp at hu;subst hu;rfl
     case d3=>unfold maxLen;omega
     case d4=>omega
     case d5=>simp;omega
     intro v4 w4 ha4 hg4 _
     have hbw4:=rel_app (ys:=[]) (v':=v4) (by simp;omega) (ha3.alloc _) (hbw3.alloc hB3 _) hg4
     have hl4:=own_app (ha3.alloc _) (hl3.alloc _) (by decide) hg4
     have hv4:=own_app (ha3.alloc _) (hv3.alloc _) (by decide) hg4
     clear hg4 hl3 ha3 hv3 hbw3
     go_wp2
     go_roundw
     case rel =>
      exact⟨k+1,L++[l'],A++[k],by omega,by simp;omega,by simp;omega,by go_num,by simpa [lnsCells,List.flatMap_append] using hl4,by simpa [numCells] using ha4,hv4,hbw4,by
       show _=_;rw[← uh HR];exact(Sp.rd_some hlt L A (by rw[uh HX];exact he) (by rw[uh HX];exact uh HN)).symm⟩
     case measure=>simp[intOf];omega
  ·go_wp2
   refine bodyPost_ret (v := .tuple #[_,_,.int .i64 0,.int .i64 0]) (by simp[results,Tryz.results103,go_sem]) rfl (reads_ok (L:=L) (A:=A) ?_ hbw hl ha)
   rw[uh HL,← uh HR]
   exact Sp.rd_end (by omega) L A
theorem reads_any (s:ByteArray) (w:World) (hs:s.size≤maxLen):Calls Tryz.prog 103 #[.string s] w (ReadsPost s w):=by
 by_cases h:4000 < s.size
 ·exact read_long s w hs h
 ·cases hb:Sp.bad s with
  | none=>exact read_lines s w (by omega) hb
  | some i=>exact read_broken s w (by omega) i hb
def LinesAt (w:World) (p:Option Addr) (L:List Sp.Ln):Prop :=
 ∀ k (h:k < L.length),∃ g,p=some ⟨g,0,none⟩∧w.cell? ⟨g,k * 4,none⟩=some (.bool L[k].edge)∧w.cell? ⟨g,k * 4+1,none⟩=some (.int .i64 L[k].frm)∧w.cell? ⟨g,k * 4+2,none⟩=some (.int .i64 L[k].to)∧w.cell? ⟨g,k * 4+3,none⟩=some (.int .i64 L[k].n)
theorem place_any (p:Option Addr) (cap:Nat) (L:List Sp.Ln) (a:Int) (w:World) (hL:L.length≤5000) (hc:LinesAt w p L) :
  Calls Tryz.prog 105 #[.slice p L.length cap,.int .i64 a] w fun e w'=>e = .returned (.int .i64 (Sp.low L a))∧w'=w:=by
 go_enter Tryz.func105,Tryz.ntmps105
 go_wp2
 go_loop [5,6] (fun c i=>∃ k m:Nat,k≤L.length∧m≤k∧i = .int .i64 k∧c = .int .i64 m∧Hid (m=Sp.lowTo L a k)) (fun _ i=>L.length - (intOf i).toNat)
 case atStart=>exact⟨0,0,Nat.zero_le _,Nat.zero_le _,rfl,rfl,(Sp.lowTo_zero L a).symm⟩
 case round =>
  obtain⟨k,m,hk,hmk,rfl,rfl,HV⟩:=hrel
  by_cases hlt:k < L.length
  ·obtain⟨g,rfl,c0,c1,_,_⟩:=hc k hlt
   by_cases he:L[k].edge=true
   ·have HN:Hid (m=Sp.lowTo L a (k+1)):=by show _=_;rw[Sp.lowTo_no hlt (by simp[Sp.isLow,he])];exact uh HV
    go_wp2
    go_round
    case rel=>exact⟨k+1,m,by omega,by omega,by go_num,rfl,HN⟩
    case measure=>simp[intOf];omega
   ·have he':L[k].edge=false:=by simpa using he
    by_cases hf:L[k].frm < a
    ·have HN:Hid (m+1=Sp.lowTo L a (k+1)):=by show _=_;rw[Sp.lowTo_yes hlt (by simp[Sp.isLow,he',hf]),← uh HV]
     go_wp2
     go_round
     case rel=>exact⟨k+1,m+1,by omega,by omega,by go_num,by go_num,HN⟩
     case measure=>simp[intOf];omega
    ·have HN:Hid (m=Sp.lowTo L a (k+1)):=by show _=_;rw[Sp.lowTo_no hlt (by simp[Sp.isLow,he',hf])];exact uh HV
     go_wp2
     go_round
     case rel=>exact⟨k+1,m,by omega,by omega,by go_num,rfl,HN⟩
     case measure=>simp[intOf];omega
  ·have HN:Hid (m=Sp.low L a):=by show _=_;rw[uh HV];exact Sp.lowTo_all a (by omega)
   go_wp2
   go_ret
   exact⟨by rw[uh HN];rfl,rfl⟩
theorem osl {w:World} {B e size n:Nat} {v:Value} {xs:List Value} (h:w.ownsRow B e size v n xs) :
  ∃ p cap,v = .slice p n cap∧∀ j,j < n * size→∃ g,p=some ⟨g,0,none⟩∧B≤g∧g < w.heap.size∧w.cell? ⟨g,j,none⟩=xs[j]?:=by
 have h0:=h
 obtain⟨h1,h2⟩:=h
 rcases h2 with ⟨rfl,rfl⟩ | ⟨g,cap,cur,rfl,hB,hg,r⟩
 ·exact⟨none,0,rfl,fun j hj=>by omega⟩
 ·exact⟨some ⟨g,0,none⟩,cap,rfl,fun j hj=>⟨g,rfl,hB,(Array.getElem?_eq_some_iff.1 hg).1,h0.cellAt j hj⟩⟩
def LinesIn (w:World) (G:Nat) (p:Option Addr) (L:List Sp.Ln):Prop :=
 ∀ k (h:k < L.length),∃ g,p=some ⟨g,0,none⟩∧g < G∧w.cell? ⟨g,k * 4,none⟩=some (.bool L[k].edge)∧w.cell? ⟨g,k * 4+1,none⟩=some (.int .i64 L[k].frm)∧w.cell? ⟨g,k * 4+2,none⟩=some (.int .i64 L[k].to)∧w.cell? ⟨g,k * 4+3,none⟩=some (.int .i64 L[k].n)
theorem LinesIn.at {w:World} {G:Nat} {p:Option Addr} {L:List Sp.Ln} (h:LinesIn w G p L):LinesAt w p L:=fun k hk=>by
 obtain⟨g,a,_,b⟩:=h k hk
 exact⟨g,a,b⟩
theorem LinesIn.below {w w':World} {G:Nat} {p:Option Addr} {L:List Sp.Ln} (h:LinesIn w G p L) (hb:Below G w w'):LinesIn w' G p L:=fun k hk=>by
 obtain⟨g,a,hg,b0,b1,b2,b3⟩:=h k hk
 refine⟨g,a,hg,?_,?_,?_,?_⟩
 ·rw[hb.cell (p:=⟨g,k * 4,none⟩) hg];exact b0
 ·rw[hb.cell (p:=⟨g,k * 4+1,none⟩) hg];exact b1
 ·rw[hb.cell (p:=⟨g,k * 4+2,none⟩) hg];exact b2
 ·rw[hb.cell (p:=⟨g,k * 4+3,none⟩) hg];exact b3
def edCells (E:List Sp.Ed):List Value:=E.flatMap fun e=>[Value.int .i64 (e.frm:Int),.int .i64 (e.to:Int),.int .i64 e.n]
structure G3 (w:World) (G:Nat) (v u x:Value) (N V:List Int) (E:List Sp.Ed):Prop where
 lt:G < w.heap.size
 c0:w.cell? ⟨G,0,none⟩=some v
 c1:w.cell? ⟨G,1,none⟩=some u
 c2:w.cell? ⟨G,2,none⟩=some x
 fz:∀ j,w.frozen? ⟨G,j,none⟩=false
 r0:w.ownsRow (G+1) 21 1 v N.length (N.map (Value.int .i32))
 r1:w.ownsRow (G+1) 2 1 u V.length (V.map (Value.int .i64))
 r2:w.ownsRow (G+1) 67 3 x E.length (edCells E)
theorem G3.alloc {w:World} {G:Nat} {v u x:Value} {N V:List Int} {E:List Sp.Ed} (h:G3 w G v u x N V E) (o:Obj):G3 (w.alloc o) G v u x N V E:=by
 have hl:=h.lt
 refine⟨by simp;omega,?_,?_,?_,?_,h.r0.alloc o,h.r1.alloc o,h.r2.alloc o⟩
 ·rw[World.cell?_alloc_past _ _ _ (by simpa using hl)];exact h.c0
 ·rw[World.cell?_alloc_past _ _ _ (by simpa using hl)];exact h.c1
 ·rw[World.cell?_alloc_past _ _ _ (by simpa using hl)];exact h.c2
 ·intro j;rw[World.frozen?_alloc_past _ _ _ (by simpa using hl)];exact h.fz j
theorem G3.drew {w:World} {G:Nat} {v u x:Value} {N V:List Int} {E:List Sp.Ed} (h:G3 w G v u x N V E):G3 w.drew G v u x N V E :=
 ⟨h.lt,h.c0,h.c1,h.c2,h.fz,h.r0,h.r1,h.r2⟩
theorem G3.new {w:World}:G3 (w.alloc (.cells #[.slice none 0 0,.slice none 0 0,.slice none 0 0] 79)) w.heap.size (.slice none 0 0) (.slice none 0 0) (.slice none 0 0) [] [] []:=by
 refine⟨by simp,by simp,by simp,by simp,by simp,World.ownsRow_nil _ _ _ _,World.ownsRow_nil _ _ _ _,World.ownsRow_nil _ _ _ _⟩
end Go.Proofs.YteflnddphpjahaaGreatDoor
