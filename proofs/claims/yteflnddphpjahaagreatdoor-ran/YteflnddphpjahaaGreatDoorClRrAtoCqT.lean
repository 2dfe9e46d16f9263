import Derived.Test.YteflnddphpjahaaGreatDoorClTurnstoHeldF
import Derived.Test.YteflnddphpjahaaGreatDoorClSameAtoLineD
import Derived.Test.YteflnddphpjahaaGreatDoorClRnLtoCardD
import Derived.Test.YteflnddphpjahaaGreatDoorClPlAtoPlK
import Derived.Test.YteflnddphpjahaaGreatDoorClPlLtoRefC
import Derived.Deep.RegionLaw
import Derived.Deep.AppendLies
import Derived.Test.YteflnddphpjahaaGreatDoorClCqS
set_option linter.unusedVariables false
set_option linter.unusedSimpArgs false
set_option maxRecDepth 100000
set_option maxHeartbeats 16000000
namespace Go.Proofs.YteflnddphpjahaaGreatDoor
open Go.RowKit
theorem num_any (a:Int) (w:World):Calls Tryz.prog 16 #[.int .i64 a] w fun e w'=>e = .returned (.int .i64 a)∧w'=w:=by
 go_enter Tryz.func16,Tryz.ntmps16
 go_wp2
 go_ret
 exact⟨rfl,rfl⟩
theorem lie_of_marked {w:World} {e size:Nat} {mk:Int→List Value} {l:List (Value × Int)} (h:∀ p ∈ l,Marked w e size mk p):Lie w.heap.size l:=fun p hp g hg=>by
 obtain⟨n,_,ho⟩:=h p hp
 exact(ho.lt g hg).2
theorem HeldSt.new (w:World):HeldSt (w.alloc (.cells #[.int .i64 0,.slice none 0 0,.slice none 0 0,.slice none 0 0,.slice none 0 0,.slice none 0 0] 29)) w.heap.size 0 (.slice none 0 0) (.slice none 0 0) (.slice none 0 0) [] [] []:=by
 have h:=heap_alloc_new w (.cells #[.int .i64 0,.slice none 0 0,.slice none 0 0,.slice none 0 0,.slice none 0 0,.slice none 0 0] 29)
 have hc:∀ j v,(#[.int .i64 0,.slice none 0 0,.slice none 0 0,.slice none 0 0,.slice none 0 0,.slice none 0 0]:Array Value)[j]? = some v→(w.alloc (.cells #[.int .i64 0,.slice none 0 0,.slice none 0 0,.slice none 0 0,.slice none 0 0,.slice none 0 0] 29)).cell? ⟨w.heap.size,j,none⟩=some v:=fun j v hv=>cell_of h hv
 exact⟨by simp,⟨by omega,by simp,by simp,by simp⟩,hc 0 _ rfl,hc 1 _ rfl,hc 2 _ rfl,hc 3 _ rfl,hc 4 _ rfl,hc 5 _ rfl,fun j=>by simp,World.ownsRow_nil _ _ _ _,World.ownsRow_nil _ _ _ _,World.ownsRow_nil _ _ _ _,fun p hp=>by simp at hp,fun p hp=>by simp at hp,fun p hp=>by simp at hp⟩
def HRPost (w:World) (H N:Nat) (v2 v3:Value) (hv hn he:List (Value × Int)) (e:Ending) (w':World):Prop :=
 e = .returned (.bool true)∧∃ v1' hv',HeldSt w' H (N+1) v1' v2 v3 hv' hn he∧High H hv'∧hv'.length=hv.length+4∧Below H w w'
theorem hresult_any (H N B:Nat) (v1 v2 v3:Value) (hv hn he:List (Value × Int)) (o s i:Int) (V:List Int) (p q:Option Addr) (kx ky:Nat) (w:World) (h:HeldSt w H N v1 v2 v3 hv hn he) (hN:N+1≤1000) (hvl:hv.length+4≤1000)
  (a1:High H hv) (a2:High H hn) (a3:High H he) (hB:H < B) (hBs:B≤w.heap.size) (hlie:Lie B hv) (hl:w.ownsRow B 2 1 (.slice p V.length kx) V.length (V.map (Value.int .i64))) (hy:IntsAt w .i64 q V) (hV:V.length≤90000) (ho:0≤o∧o≤255) :
  Calls Tryz.prog 15 #[.pointer (some ⟨H,0,none⟩),.agg #[.int .u8 o,.int .i64 s,.int .i64 i,.slice p V.length kx],.agg #[.int .i64 o,.int .i64 s,.int .i64 i,.slice q V.length ky]] w (HRPost w H N v2 v3 hv hn he):=by
 have hx:IntsAt w .i64 p V:=by
  obtain⟨p',k',e,hi⟩:=ints_of_own hl
  injection e with e _ _
  rw[e];exact hi
 generalize hO:HRPost w H N v2 v3 hv hn he=O
 replace hO:=hde hO
 have hwo:IntKind.i64.wrap o=o:=by rw[IntKind.wrap_i64];omega
 have hoo:(o == o)=true:=by simp
 have hss:(s == s)=true:=by simp
 have hii:(i == i)=true:=by simp
 have HHS:=hde h
 have HX:=hde hx
 have HY:=hde hy
 have HL:=hde hl
 have HA:=hde (And.intro a1 (And.intro a2 (And.intro a3 hlie)))
 have hHl:=h.lt
 have z1:=World.size_alloc w (.cells #[.int .u8 o,.int .i64 s,.int .i64 i,.slice p V.length kx] 44)
 have hb0:Below w.heap.size w ((w.alloc (.cells #[.int .u8 o,.int .i64 s,.int .i64 i,.slice p V.length kx] 44)).alloc (.cells #[.int .i64 o,.int .i64 s,.int .i64 i,.slice q V.length ky] 52)):=((Below.refl _ _).alloc nlr _).alloc (by rw[z1];omega) _
 have hby:=heap_alloc_new (w.alloc (.cells #[.int .u8 o,.int .i64 s,.int .i64 i,.slice p V.length kx] 44)) (.cells #[.int .i64 o,.int .i64 s,.int .i64 i,.slice q V.length ky] 52)
 rw[z1] at hby
 have hbx:((w.alloc (.cells #[.int .u8 o,.int .i64 s,.int .i64 i,.slice p V.length kx] 44)).alloc (.cells #[.int .i64 o,.int .i64 s,.int .i64 i,.slice q V.length ky] 52)).heap[w.heap.size]? = some (.cells #[.int .u8 o,.int .i64 s,.int .i64 i,.slice p V.length kx] 44 (0,0)):=by
  rw[Below.heap_alloc _ _ _ (by rw[z1];omega)]
  exact heap_alloc_new w _
 have HSV:=hde (fun W (hb:Below w.heap.size w W)=>sameValues_any p q kx ky V W (hx.below hb) (hy.below hb) (by omega))
 obtain⟨n,HN⟩:∃ n,Hid (V.length=n):=⟨_,rfl⟩
 rw[uh HN] at HSV hbx hby hb0 ⊢
 clear h hx hy hl a1 a2 a3 hlie z1
 go_enter Tryz.func15,Tryz.ntmps15
 go_wp2_with fail
 generalize hW:World.alloc (World.alloc _ _) _=W0 at *
 have hXl:=(Array.getElem?_eq_some_iff.1 hbx).1
 have hYl:=(Array.getElem?_eq_some_iff.1 hby).1
 refine(uh HSV W0 hb0).mono ?_
 rintro e w1 ⟨rfl,hb1⟩
 have hbx1:=(hb1.block _ hXl).trans hbx
 have hby1:=(hb1.block _ hYl).trans hby
 have hbw1:Below w.heap.size w w1:=hb0.trans (hb1.mono hb0.size)
 have x3:w1.cell? ⟨w.heap.size,3,none⟩=some (.slice p n kx):=by simp[World.cell?,hbx1]
 have HVA:=hde (values_any H N B V.length (.slice p V.length kx) v1 v2 v3 hv hn he (V.map (Value.int .i64)) w1 ((uh HHS).below hbw1) hN hvl (uh HA).1 (uh HA).2.1 (uh HA).2.2.1 hB (Nat.le_trans hBs hbw1.size) (uh HA).2.2.2 (obl (uh HL) hbw1) hV)
 rw[uh HN] at HVA
 clear hW hbx hby hb0 hb1 HSV
 go_wp2_with fail
 refine(uh HVA).mono ?_
 rintro e w2 ⟨rfl,v1',hv',h2,b1,e1,tu⟩
 have hbx2:=tu.keeps hbx1 (by omega) (by decide)
 have hby2:=tu.keeps hby1 (by omega) (by decide)
 have HFN:Hid (O (.returned (.bool true)) w2):=by
  show O _ _
  rw[← uh hO]
  exact⟨rfl,v1',hv',h2,b1,e1,(hbw1.mono (by omega)).trans tu.below⟩
 have y0:w2.cell? ⟨w.heap.size,0,none⟩=some (.int .u8 o):=by simp[World.cell?,hbx2]
 have y1:w2.cell? ⟨w.heap.size,1,none⟩=some (.int .i64 s):=by simp[World.cell?,hbx2]
 have y2:w2.cell? ⟨w.heap.size,2,none⟩=some (.int .i64 i):=by simp[World.cell?,hbx2]
 have u0:w2.cell? ⟨w.heap.size+1,0,none⟩=some (.int .i64 o):=by simp[World.cell?,hby2]
 have u1:w2.cell? ⟨w.heap.size+1,1,none⟩=some (.int .i64 s):=by simp[World.cell?,hby2]
 have u2:w2.cell? ⟨w.heap.size+1,2,none⟩=some (.int .i64 i):=by simp[World.cell?,hby2]
 clear h2 b1 e1 tu hbx1 hby1 hbx2 hby2 x3 HVA
 go_wp2
 first | exact uh HFN | (go_ret;exact uh HFN)
end Go.Proofs.YteflnddphpjahaaGreatDoor
namespace Go.Proofs.YteflnddphpjahaaGreatDoor.Sp
open Go Go.RowKit
def noneK (k:List UInt8):Int:=if k=[109,105,110] then 9223372036854775807 else if k=[109,97,120] then -9223372036854775808 else 0
def joinK (k:List UInt8) (a b:Int):Int:=if k=[115,117,109] then wrap64 (a+b) else if (k=[109,105,110]∧b < a)∨(k=[109,97,120]∧a < b) then b else a
structure Pg where
 code:Nat→List (List UInt8)
 by':List UInt8
 al:List UInt8
structure Cfg where
 val:List Int
 rst:List Bool
 got:List Int
 inn:List Int
 all:Int
structure Tn where
 value:Int
 rests:Bool
 give:Int
 sent:List (Nat × Int)
def env0 (c:Cfg) (deg i step:Nat):Ev:=⟨c.val.getD i 0,c.val.getD i 0,c.inn.getD i 0,c.got.getD i 0,step,i,deg,c.all,0⟩
def Ev.setV (E:Ev) (v:Int):Ev:={ E with value:=v }
def Ev.setW (E:Ev) (v:Int):Ev:={ E with weight:=v }
def Ev.setO (E:Ev) (v:Int):Ev:={ E with old:=v }
def outE (Es:List Ed) (i:Nat):List Ed:=Es.filter (fun x=>x.frm == i)
def msgs (L:List (List UInt8)) (E:Ev):List Ed→Option (List (Nat × Int))
 | []=>some []
 | x :: r=>match ev L (E.setW x.n) with
  | none=>none
  | some m=>match msgs L E r with
   | none=>none
   | some l=>some ((x.to,m) :: l)
def tail34 (P:Pg) (e:Ev) (v:Int) (sent:List (Nat × Int)):Option Tn:=match ev (P.code 3) e with
 | none=>none
 | some h=>match ev (P.code 4) e with
  | none=>none
  | some g=>some ⟨v,h != 0,g,sent⟩
def turnE (P:Pg) (E:Ev) (es:List Ed):Option Tn :=
 match ev (P.code 0) E with
 | none=>none
 | some v=>match ev (P.code 1) (E.setV v) with
  | none=>none
  | some goes=>match (if goes=0 then some [] else msgs (P.code 2) (E.setV v) es) with
   | none=>none
   | some sent=>tail34 P (E.setV v) v sent
def turn (P:Pg) (Es:List Ed) (c:Cfg) (i step:Nat):Option Tn:=turnE P (env0 c (outE Es i).length i step) (outE Es i)
def awake (c:Cfg) (i step:Nat):Bool:=step == 0 || (!(c.rst.getD i false) || decide (0 < c.got.getD i 0))
structure Acc where
 val:List Int
 rst:List Bool
 all:Int
 sent:List (Nat × Int)
def stp (P:Pg) (Es:List Ed) (c:Cfg) (step:Nat):Nat→Except Nat Acc
 | 0=>.ok ⟨[],[],noneK P.al,[]⟩
 | k+1=>match stp P Es c step k with
  | .error i=>.error i
  | .ok a=>if awake c k step then (match turn P Es c k step with
    | none=>.error k
    | some t=>.ok ⟨a.val++[t.value],a.rst++[t.rests],joinK P.al a.all t.give,a.sent++t.sent⟩)
   else .ok ⟨a.val++[c.val.getD k 0],a.rst++[c.rst.getD k false],a.all,a.sent⟩
def toV (sent:List (Nat × Int)) (i:Nat):List (Nat × Int):=sent.filter (fun m=>m.1 == i)
def gotOf (sent:List (Nat × Int)) (i:Nat):Int:=((toV sent i).length:Int)
def innOf (P:Pg) (sent:List (Nat × Int)) (i:Nat):Int:=(toV sent i).foldl (fun x m=>joinK P.by' x m.2) (noneK P.by')
def nextC (P:Pg) (n:Nat) (a:Acc):Cfg:=⟨a.val,a.rst,(List.range n).map (gotOf a.sent),(List.range n).map (innOf P a.sent),a.all⟩
def first' (P:Pg) (vs:List Int):Cfg:=⟨vs,List.replicate vs.length false,List.replicate vs.length 0,List.replicate vs.length (noneK P.by'),noneK P.al⟩
def quiet (c:Cfg) (step:Nat):Bool:=(List.range c.val.length).all fun i=>!awake c i step
structure Res where
 outcome:Nat
 step:Nat
 vertex:Nat
 vals:List Int
def rgo (P:Pg) (Es:List Ed) (cap:Nat):Nat→Nat→Cfg→Res
 | 0,_,_=>⟨0,0,0,[]⟩
 | g+1,step,c=>if quiet c step then ⟨1,step,0,c.val⟩ else if cap≤step then ⟨2,step,0,c.val⟩ else
  match stp P Es c step c.val.length with
  | .error i=>⟨3,step,i,c.val⟩
  | .ok a=>rgo P Es cap g (step+1) (nextC P c.val.length a)
def runR (P:Pg) (vs:List Int) (Es:List Ed) (cap:Nat):Res:=rgo P Es cap (cap+1) 0 (first' P vs)
theorem mrun_vi {L:List (List UInt8)} {E:Ev} (hE:EvOk E) (hx:∀ x n,number x=some n→i64 n):∀ (g:Nat) (s t:Ms),VInv s→mrun L E g s=some t→VInv t:=by
 intro g
 induction g with
 | zero=>intro s t _ h;cases h
 | succ g ih =>
  intro s t hs h
  rw[mrun] at h
  split at h
  ·injection h with h;subst h;exact hs
  ·split at h
   ·cases h
   ·rename_i s' hs'
    exact ih _ _ (mstep_vinv hE hx hs hs') h
theorem ev_ok {L:List (List UInt8)} {E:Ev} (hE:EvOk E) (hx:∀ x n,number x=some n→i64 n) {v:Int} (h:ev L E=some v):i64 v:=by
 unfold ev at h
 cases hm:mrun L E 201 ⟨0,200,[],[]⟩ with
 | none=>rw[hm] at h;cases h
 | some t =>
  rw[hm] at h
  have:=mrun_vi hE hx _ _ _ ⟨fun v hv=>(by cases hv),fun q hq=>(by cases hq)⟩ hm
  exact this.T v (List.mem_of_head? (by simpa using h))
theorem weff_weight {E:Ev} {x:List UInt8} {T:List Int} {k:Int} (h:x≠[119,101,105,103,104,116]):weff (E.setW k) x T=weff E x T:=by
 unfold weff
 cases number x with
 | some n=>rfl
 | none =>
  simp only
  by_cases c:x ∈ loadsL∨x=[119,101,105,103,104,116]
  ·rw[if_pos c,if_pos c]
   have hl:=c.resolve_right h
   simp only[loadsL,List.mem_cons,List.not_mem_nil,or_false] at hl
   rcases hl with rfl | rfl | rfl | rfl | rfl | rfl | rfl | rfl <;> rfl
  ·rw[if_neg c,if_neg c]
theorem mstep_weight {L:List (List UInt8)} {E:Ev} {k:Int} (h:∀ x ∈ L,x≠[119,101,105,103,104,116]) (s:Ms):mstep L (E.setW k) s=mstep L E s:=by
 unfold mstep
 by_cases hi:s.at' < L.length
 ·rw[getD_of hi,weff_weight (h _ (List.getElem_mem hi))]
 ·have e:L.getD s.at' []=[]:=by rw[List.getD_eq_getElem?_getD,List.getElem?_eq_none (by omega)];rfl
  rw[e,weff_weight (by decide)]
theorem mrun_weight {L:List (List UInt8)} {E:Ev} {k:Int} (h:∀ x ∈ L,x≠[119,101,105,103,104,116]):∀ (g:Nat) (s:Ms),mrun L (E.setW k) g s=mrun L E g s:=by
 intro g
 induction g with
 | zero=>intro s;rfl
 | succ g ih =>
  intro s
  rw[mrun,mrun,mstep_weight h]
  split
  ·rfl
  ·cases mstep L E s with
   | none=>rfl
   | some t=>exact ih t
theorem fmd_noweight:∀ (L:List (List UInt8)) (d:Int),fmd false L d=true→∀ x ∈ L,x≠[119,101,105,103,104,116]:=by
 intro L
 induction L with
 | nil=>intro d _ x hx;cases hx
 | cons y r ih =>
  intro d h x hx
  obtain⟨h1,h2,h3⟩:=fmd_cons h
  rcases List.mem_cons.1 hx with rfl | hx
  ·rintro rfl;exact h1 (by decide)
  ·exact ih _ h3 x hx
theorem ev_weight {L:List (List UInt8)} (h:fmd false L 0=true) (E:Ev) (k:Int):ev L (E.setW k)=ev L E:=by
 unfold ev
 rw[mrun_weight (fmd_noweight L 0 h)]
theorem msgs_append (L:List (List UInt8)) (E:Ev):∀ (A B:List Ed),msgs L E (A++B)=match msgs L E A with
  | none=>none
  | some a=>match msgs L E B with
   | none=>none
   | some b=>some (a++b):=by
 intro A
 induction A with
 | nil=>intro B;simp only[List.nil_append,msgs];cases msgs L E B <;> rfl
 | cons x r ih =>
  intro B
  simp only[List.cons_append,msgs]
  cases ev L (E.setW x.n) with
  | none=>rfl
  | some m =>
   simp only[ih B]
   cases msgs L E r with
   | none=>rfl
   | some a=>simp only;cases msgs L E B <;> rfl
theorem msgs_len {L:List (List UInt8)} {E:Ev}:∀ {A:List Ed} {l:List (Nat × Int)},msgs L E A=some l→l.length=A.length:=by
 intro A
 induction A with
 | nil=>intro l h;simp only[msgs] at h;injection h with h;subst h;rfl
 | cons x r ih =>
  intro l h
  simp only[msgs] at h
  split at h
  ·cases h
  ·split at h
   ·cases h
   ·rename_i l' hl'
    injection h with h;subst h
    simp[ih hl']
theorem msgs_to {L:List (List UInt8)} {E:Ev}:∀ {A:List Ed} {l:List (Nat × Int)},msgs L E A=some l→l.map Prod.fst=A.map (·.to):=by
 intro A
 induction A with
 | nil=>intro l h;simp only[msgs] at h;injection h with h;subst h;rfl
 | cons x r ih =>
  intro l h
  simp only[msgs] at h
  split at h
  ·cases h
  ·split at h
   ·cases h
   ·rename_i l' hl'
    injection h with h;subst h
    simp[ih hl']
structure CfgOk (n:Nat) (c:Cfg):Prop where
 lv:c.val.length=n
 lr:c.rst.length=n
 lg:c.got.length=n
 li:c.inn.length=n
 v:∀ x ∈ c.val,i64 x
 g:∀ x ∈ c.got,0≤x∧x≤100000
 i:∀ x ∈ c.inn,i64 x
 a:i64 c.all
theorem noneK_ok (k:List UInt8):i64 (noneK k):=by unfold noneK i64;split <;> (try split) <;> omega
theorem joinK_ok (k:List UInt8) {a b:Int} (ha:i64 a) (hb:i64 b):i64 (joinK k a b):=by
 unfold joinK
 split
 ·exact i64_wrap _
 ·split
  ·exact hb
  ·exact ha
theorem first_ok (P:Pg) (vs:List Int) (h:∀ x ∈ vs,i64 x):CfgOk vs.length (first' P vs):=by
 refine⟨rfl,by simp[first'],by simp[first'],by simp[first'],h,?_,?_,noneK_ok _⟩
 ·intro x hx;rw[List.eq_of_mem_replicate hx];omega
 ·intro x hx;rw[List.eq_of_mem_replicate hx];exact noneK_ok _
structure JobOk (P:Pg) (Es:List Ed) (n:Nat):Prop where
 good:∀ i,i < 5→Good (P.code i)
 nw:∀ i,i < 5→i≠2→fmd false (P.code i) 0=true
 es:Es.length≤256
 n64:n≤64
 ed:∀ x ∈ Es,x.frm < n∧x.to < n∧i64 x.n
 byK:P.by' ∈ combsL
 alK:P.al ∈ combsL
theorem getD_mem {α : Type} {l:List α} {i:Nat} {d : α} (h:i < l.length):l.getD i d ∈ l:=by
 rw[List.getD_eq_getElem?_getD,List.getElem?_eq_getElem h];exact List.getElem_mem h
theorem outE_len (Es:List Ed) (i:Nat):(outE Es i).length≤Es.length:=List.length_filter_le _ _
theorem env0_ok {c:Cfg} {n:Nat} (h:CfgOk n c) {deg i step:Nat} (hi:i < n) (hd:deg≤100000) (hn:n≤64) (hs:step≤100000):EvOk (env0 c deg i step):=by
 have h1:=h.g _ (getD_mem (d:=0) (i:=i) (by rw[h.lg];exact hi))
 refine⟨h.v _ (getD_mem (by rw[h.lv];exact hi)),h.v _ (getD_mem (by rw[h.lv];exact hi)),h.i _ (getD_mem (by rw[h.li];exact hi)),?_,?_,?_,?_,h.a,?_⟩
 ·unfold i64 env0;simp only;omega
 ·unfold i64 env0;simp only;omega
 ·unfold i64 env0;simp only;omega
 ·unfold i64 env0;simp only;omega
 ·unfold i64 env0;simp only;omega
theorem EvOk.setV {E:Ev} (h:EvOk E) {v:Int} (hv:i64 v):EvOk (E.setV v):=⟨hv,h.old,h.inn,h.got,h.step,h.id,h.deg,h.all,h.weight⟩
theorem EvOk.setW {E:Ev} (h:EvOk E) {v:Int} (hv:i64 v):EvOk (E.setW v):=⟨h.value,h.old,h.inn,h.got,h.step,h.id,h.deg,h.all,hv⟩
theorem msgs_ok {L:List (List UInt8)} {E:Ev} (hE:EvOk E) (hx:∀ x n,number x=some n→i64 n):∀ {A:List Ed} {l:List (Nat × Int)},(∀ x ∈ A,i64 x.n)→msgs L E A=some l→∀ m ∈ l,i64 m.2:=by
 intro A
 induction A with
 | nil=>intro l _ h m hm;simp only[msgs] at h;injection h with h;subst h;cases hm
 | cons x r ih =>
  intro l ha h m hm
  simp only[msgs] at h
  split at h
  ·cases h
  ·rename_i v hv
   split at h
   ·cases h
   ·rename_i l' hl'
    injection h with h;subst h
    rcases List.mem_cons.1 hm with rfl | hm
    ·exact ev_ok (hE.setW (ha x (List.mem_cons_self ..))) hx hv
    ·exact ih (fun y hy=>ha y (List.mem_cons_of_mem _ hy)) hl' m hm
structure TnOk (n:Nat) (t:Tn):Prop where
 v:i64 t.value
 g:i64 t.give
 l:t.sent.length≤256
 s:∀ m ∈ t.sent,m.1 < n∧i64 m.2
theorem turn_ok {P:Pg} {Es:List Ed} {n:Nat} (hj:JobOk P Es n) (hx:∀ x n,number x=some n→i64 n) {c:Cfg} (hc:CfgOk n c) {i step:Nat} (hi:i < n) (hs:step≤100000) {t:Tn} (h:turn P Es c i step=some t):TnOk n t:=by
 have hE:=env0_ok hc (deg:=(outE Es i).length) hi (by have:=outE_len Es i;have:=hj.es;omega) hj.n64 hs
 unfold turn turnE at h
 split at h
 ·cases h
 ·rename_i v hv
  have hvo:=ev_ok hE hx hv
  split at h
  ·cases h
  ·rename_i goes hg
   split at h
   ·cases h
   ·rename_i sent hsent
    have hso:sent.length≤256∧∀ m ∈ sent,m.1 < n∧i64 m.2:=by
     split at hsent
     ·injection hsent with hsent;subst hsent;exact⟨by simp,fun m hm=>(by cases hm)⟩
     ·refine⟨?_,fun m hm=>⟨?_,?_⟩⟩
      ·rw[msgs_len hsent];have:=outE_len Es i;have:=hj.es;omega
      ·have h1:=msgs_to hsent
       have h2:m.1 ∈ sent.map Prod.fst:=List.mem_map.2 ⟨m,hm,rfl⟩
       rw[h1] at h2
       obtain⟨x,hx1,hx2⟩:=List.mem_map.1 h2
       have:=(hj.ed x (List.mem_filter.1 hx1).1).2.1
       omega
      ·exact msgs_ok (hE.setV hvo) hx (fun x hx1=>(hj.ed x (List.mem_filter.1 hx1).1).2.2) hsent m hm
    unfold tail34 at h
    split at h
    ·cases h
    ·rename_i hh hhh
     split at h
     ·cases h
     ·rename_i gg hgg
      injection h with h;subst h
      exact⟨hvo,ev_ok (hE.setV hvo) hx hgg,hso.1,hso.2⟩
structure AccOk (n k:Nat) (a:Acc):Prop where
 lv:a.val.length=k
 lr:a.rst.length=k
 v:∀ x ∈ a.val,i64 x
 al:i64 a.all
 l:a.sent.length≤k * 256
 s:∀ m ∈ a.sent,m.1 < n∧i64 m.2
theorem stp_ok {P:Pg} {Es:List Ed} {n:Nat} (hj:JobOk P Es n) (hx:∀ x n,number x=some n→i64 n) {c:Cfg} (hc:CfgOk n c) {step:Nat} (hs:step≤100000):∀ (k:Nat),k≤n→∀ a,stp P Es c step k = .ok a→AccOk n k a:=by
 intro k
 induction k with
 | zero =>
  intro _ a h
  simp only[stp] at h
  injection h with h;subst h
  exact⟨rfl,rfl,fun x hx=>(by cases hx),noneK_ok _,by simp,fun m hm=>(by cases hm)⟩
 | succ k ih =>
  intro hk a h
  simp only[stp] at h
  split at h
  ·cases h
  ·rename_i a0 h0
   have A:=ih (by omega) a0 h0
   split at h
   ·split at h
    ·cases h
    ·rename_i t ht
     injection h with h;subst h
     have T:=turn_ok hj hx hc (by omega) hs ht
     refine⟨by simp[A.lv],by simp[A.lr],?_,joinK_ok _ A.al T.g,?_,?_⟩
     ·intro x hx'
      rcases List.mem_append.1 hx' with h' | h'
      ·exact A.v x h'
      ·rw[List.mem_singleton] at h';rw[h'];exact T.v
     ·simp only[List.length_append];have:=A.l;have:=T.l;omega
     ·intro m hm
      rcases List.mem_append.1 hm with h' | h'
      ·exact A.s m h'
      ·exact T.s m h'
   ·injection h with h;subst h
    refine⟨by simp[A.lv],by simp[A.lr],?_,A.al,?_,A.s⟩
    ·intro x hx'
     rcases List.mem_append.1 hx' with h' | h'
     ·exact A.v x h'
     ·rw[List.mem_singleton] at h';rw[h'];exact hc.v _ (getD_mem (by rw[hc.lv];omega))
    ·have:=A.l;simp only;omega
theorem foldl_ok (k:List UInt8):∀ (l:List (Nat × Int)) (a:Int),i64 a→(∀ m ∈ l,i64 m.2)→i64 (l.foldl (fun x m=>joinK k x m.2) a):=by
 intro l
 induction l with
 | nil=>intro a ha _;exact ha
 | cons m r ih =>
  intro a ha hm
  exact ih _ (joinK_ok k ha (hm m (List.mem_cons_self ..))) (fun x hx=>hm x (List.mem_cons_of_mem _ hx))
theorem innOf_ok {P:Pg} {n:Nat} {sent:List (Nat × Int)} (h:∀ m ∈ sent,m.1 < n∧i64 m.2) (i:Nat):i64 (innOf P sent i):=
 foldl_ok _ _ _ (noneK_ok _) (fun m hm=>(h m (List.mem_filter.1 hm).1).2)
theorem gotOf_ok (sent:List (Nat × Int)) (i:Nat):0≤gotOf sent i∧gotOf sent i≤(sent.length:Int):=by
 unfold gotOf toV
 have:=List.length_filter_le (fun m:Nat × Int=>m.1 == i) sent
 omega
theorem next_ok {P:Pg} {Es:List Ed} {n:Nat} (hj:JobOk P Es n) {a:Acc} (A:AccOk n n a):CfgOk n (nextC P n a):=by
 refine⟨A.lv,A.lr,by simp[nextC],by simp[nextC],A.v,?_,?_,A.al⟩
 ·intro x hx
  obtain⟨i,_,rfl⟩:=List.mem_map.1 hx
  have:=gotOf_ok a.sent i
  have h1:=A.l
  have h2:=hj.n64
  have h3:n * 256≤64 * 256:=Nat.mul_le_mul_right _ h2
  omega
 ·intro x hx
  obtain⟨i,_,rfl⟩:=List.mem_map.1 hx
  exact innOf_ok A.s i
theorem gotOf_snoc (sent:List (Nat × Int)) (m:Nat × Int) (i:Nat):gotOf (sent++[m]) i=if m.1=i then gotOf sent i+1 else gotOf sent i:=by
 unfold gotOf toV
 rw[List.filter_append]
 by_cases c:m.1=i
 ·rw[if_pos c];simp[c]
 ·rw[if_neg c];simp[c]
theorem innOf_snoc (P:Pg) (sent:List (Nat × Int)) (m:Nat × Int) (i:Nat):innOf P (sent++[m]) i=if m.1=i then joinK P.by' (innOf P sent i) m.2 else innOf P sent i:=by
 unfold innOf toV
 rw[List.filter_append]
 by_cases c:m.1=i
 ·rw[if_pos c];simp[c]
 ·rw[if_neg c];simp[c]
end Go.Proofs.YteflnddphpjahaaGreatDoor.Sp
namespace Go.Proofs.YteflnddphpjahaaGreatDoor
open Go.RowKit
theorem step_call {P:Program} {ops:Array Oper} {o:Oper} {a:Act} {w:World} {K:Act→World→Prop} {Q:Exit→Act→World→Prop} {E:Prop}
  (hg:o.guard=none) (c:Operand) (xs:Array Operand) (ts:Array TypeId) (hop:o.op=Op.call { callee := .value c,args:=xs,argTypes:=ts }) (F:Nat) (hc:a.eval c = .func (.func F) #[] #[])
  (args:Array Value) (hargs0:xs.toList.map a.eval=args.toList) (hen:∀ (args:Array Value) (w:World),(callFunc F args).run P w = .ok (.enter F args) w) {R:Ending→World→Prop} (hcalls:Calls P F args w R)
  (h:∀ e w',R e w'→match e with
    | .returned v=>K (a.put o.dst v) w'
    | .panicked chain=>Q (.panic chain) a w'
    | .outgrown=>LetsOut Q):if Region.wanted o (yielded ops a.tmps)=true then Oper.wp P o a w K Q else E:=by
 have hw:Region.wanted o (yielded ops a.tmps)=true:=by simp[Region.wanted,hg]
 have hargs:xs.map a.eval=args:=by apply Array.ext';simpa using hargs0
 rw[if_pos hw]
 unfold Oper.wp
 have hrun:(execOp a.eval o).run P w = .ok (.enter F args) w:=by
  have h1:=hen args w
  simp[execOp,hop,resolve,invoke,Deferred.ofValue,hc,hargs,h1,Result.andThen]
 rw[hrun,Oper.upon_enter]
 refine hcalls.mono ?_
 intro e w' hR
 have:=h e w' hR
 cases e <;> exact this
theorem ln_index28 (a0 a1 a2 a3 a4 a5 a6 a7 a8 a9 a10 a11 a12 a13 a14 a15 a16 a17 a18 a19 a20 a21 a22 a23 a24 a25 a26 a27:Value) (W:World):(i:Nat)→i < 7→∃ b0 b1 b2 b3,(Instr.index 176 (.agg #[a0,a1,a2,a3,a4,a5,a6,a7,a8,a9,a10,a11,a12,a13,a14,a15,a16,a17,a18,a19,a20,a21,a22,a23,a24,a25,a26,a27]) (.int .i64 i)).run Tryz.prog W = .ok (.agg #[b0,b1,b2,b3]) W∧#[a0,a1,a2,a3,a4,a5,a6,a7,a8,a9,a10,a11,a12,a13,a14,a15,a16,a17,a18,a19,a20,a21,a22,a23,a24,a25,a26,a27][i * 4]? = some b0∧#[a0,a1,a2,a3,a4,a5,a6,a7,a8,a9,a10,a11,a12,a13,a14,a15,a16,a17,a18,a19,a20,a21,a22,a23,a24,a25,a26,a27][i * 4+1]? = some b1∧#[a0,a1,a2,a3,a4,a5,a6,a7,a8,a9,a10,a11,a12,a13,a14,a15,a16,a17,a18,a19,a20,a21,a22,a23,a24,a25,a26,a27][i * 4+2]? = some b2∧#[a0,a1,a2,a3,a4,a5,a6,a7,a8,a9,a10,a11,a12,a13,a14,a15,a16,a17,a18,a19,a20,a21,a22,a23,a24,a25,a26,a27][i * 4+3]? = some b3
 | 0,_=>⟨_,_,_,_,by kernel_rfl,rfl,rfl,rfl,rfl⟩
 | 1,_=>⟨_,_,_,_,by kernel_rfl,rfl,rfl,rfl,rfl⟩
 | 2,_=>⟨_,_,_,_,by kernel_rfl,rfl,rfl,rfl,rfl⟩
 | 3,_=>⟨_,_,_,_,by kernel_rfl,rfl,rfl,rfl,rfl⟩
 | 4,_=>⟨_,_,_,_,by kernel_rfl,rfl,rfl,rfl,rfl⟩
 | 5,_=>⟨_,_,_,_,by kernel_rfl,rfl,rfl,rfl,rfl⟩
 | 6,_=>⟨_,_,_,_,by kernel_rfl,rfl,rfl,rfl,rfl⟩
 | n+7,h=>absurd h (by omega)
theorem ln_index {C:Array Value} (hC:C.size=28) {i:Nat} (hi:i < 7) {c0 c1 c2 c3:Value} (h0:C[i * 4]? = some c0) (h1:C[i * 4+1]? = some c1) (h2:C[i * 4+2]? = some c2) (h3:C[i * 4+3]? = some c3) (W:World) :
  (Instr.index 176 (.agg C) (.int .i64 i)).run Tryz.prog W = .ok (.agg #[c0,c1,c2,c3]) W:=by
 obtain⟨l⟩:=C
 match l,hC with
 | [a0,a1,a2,a3,a4,a5,a6,a7,a8,a9,a10,a11,a12,a13,a14,a15,a16,a17,a18,a19,a20,a21,a22,a23,a24,a25,a26,a27],_ =>
  obtain⟨b0,b1,b2,b3,hr,e0,e1,e2,e3⟩:=ln_index28 a0 a1 a2 a3 a4 a5 a6 a7 a8 a9 a10 a11 a12 a13 a14 a15 a16 a17 a18 a19 a20 a21 a22 a23 a24 a25 a26 a27 W i hi
  rw[h0] at e0
  rw[h1] at e1
  rw[h2] at e2
  rw[h3] at e3
  injection e0 with e0
  injection e1 with e1
  injection e2 with e2
  injection e3 with e3
  rw[e0,e1,e2,e3]
  exact hr
def CPost (s:ByteArray) (w:World) (e:Ending) (w':World):Prop :=
 Below w.heap.size w w'∧∃ pv,e = .returned (.tuple #[.pointer pv,.int .i64 (Sp.comp s).1,.int .i64 (Sp.comp s).2]) ∧
  ((Sp.comp s).1=0→∃ P C,pv=some ⟨P,0,none⟩∧w.heap.size≤P∧w'.heap[P]? = some (.cells C 178 (0,0))∧LnsIn (Sp.split s 10) w' P C 7∧(Sp.split s 10).length=7)
theorem cpost_err {s:ByteArray} {w w':World} {a b:Int} {pv:Option Addr} (h:Sp.comp s=(a,b)) (ha:a≠0) (hb:Below w.heap.size w w'):CPost s w (.returned (.tuple #[.pointer pv,.int .i64 a,.int .i64 b])) w' :=
 ⟨hb,pv,by rw[h],fun h0=>by rw[h] at h0;exact absurd h0 ha⟩
theorem comp_form {s:ByteArray} {i:Nat} (hs:s.size≤2000) (h7:i < 7) (hil:i≤(Sp.split s 10).length) (hok:∀ j,j < i→Sp.lineOk j ((Sp.split s 10).getD j ⟨#[]⟩)=true) (hc:i=(Sp.split s 10).length∨(i < (Sp.split s 10).length∧Sp.lineOk i ((Sp.split s 10).getD i ⟨#[]⟩)=false)):Sp.comp s=(3,(i:Int)):=by
 unfold Sp.comp
 rw[if_neg (by omega)]
 rcases hc with hc | ⟨hlt,hbad⟩
 ·rw[Sp.first_none (fun j hj=>by rw[hok j (by omega)];rfl)]
  simp only
  rw[if_neg (by omega),if_pos (by omega),hc]
 ·rw[Sp.first_some (k:=i) (by omega) (fun j hj=>by rw[hok j hj];rfl) (by rw[hbad];rfl)]
theorem comp_more {s:ByteArray} (hs:s.size≤2000) (hl:7 < (Sp.split s 10).length) (hok:∀ j,j < 7→Sp.lineOk j ((Sp.split s 10).getD j ⟨#[]⟩)=true):Sp.comp s=(3,7):=by
 unfold Sp.comp
 rw[if_neg (by omega),Sp.first_none (fun j hj=>by rw[hok j (by omega)];rfl)]
 simp only
 rw[if_pos (by omega)]
theorem ncode (s:ByteArray) (j:Nat):decide (Sp.hgt (Sp.codeOf s j) (Sp.codeOf s j).length 0 (Sp.codeOf s j).length 0≠some 1) = !Sp.keeps (wds ((Sp.split s 10).getD j ⟨#[]⟩)):=by
 show _ = !decide (Sp.hgt (Sp.codeOf s j) (Sp.codeOf s j).length 0 (Sp.codeOf s j).length 0=some 1)
 rw[decide_not]
theorem comp_stack {s:ByteArray} {i:Nat} (hs:s.size≤2000) (hl:(Sp.split s 10).length=7) (hok:∀ j,j < 7→Sp.lineOk j ((Sp.split s 10).getD j ⟨#[]⟩)=true) (h5:i < 5) (hk:∀ j,j < i→j < 5→Sp.keeps (wds ((Sp.split s 10).getD j ⟨#[]⟩))=true) (hn:Sp.keeps (wds ((Sp.split s 10).getD i ⟨#[]⟩))=false):Sp.comp s=(7,(i:Int)):=by
 unfold Sp.comp
 rw[if_neg (by omega),Sp.first_none (fun j hj=>by rw[hok j (by omega)];rfl)]
 simp only
 rw[if_neg (by omega),if_neg (by omega),Sp.first_some (k:=i) h5 (fun j hj=>by rw[ncode,hk j hj (by omega)];rfl) (by rw[ncode,hn];rfl)]
theorem comp_ok {s:ByteArray} (hs:s.size≤2000) (hl:(Sp.split s 10).length=7) (hok:∀ j,j < 7→Sp.lineOk j ((Sp.split s 10).getD j ⟨#[]⟩)=true) (hk:∀ j,j < 5→Sp.keeps (wds ((Sp.split s 10).getD j ⟨#[]⟩))=true):Sp.comp s=(0,0):=by
 unfold Sp.comp
 rw[if_neg (by omega),Sp.first_none (fun j hj=>by rw[hok j (by omega)];rfl)]
 simp only
 rw[if_neg (by omega),if_neg (by omega),Sp.first_none (fun j hj=>by rw[ncode,hk j hj];rfl)]
theorem sh_code:(i:Nat)→i < 7→shL[i * 3+1]? = some (.bool (decide (i < 5)))
 | 0,_=>rfl
 | 1,_=>rfl
 | 2,_=>rfl
 | 3,_=>rfl
 | 4,_=>rfl
 | 5,_=>rfl
 | 6,_=>rfl
 | n+7,h=>absurd h (by omega)
theorem code_in {s:ByteArray} {w:World} {P g:Nat} {C:Array Value} {u:TypeId} {p:Value} {i:Nat} (hs:s.size≤2000) (h5:i < 5) (hok:Sp.lineOk i ((Sp.split s 10).getD i ⟨#[]⟩)=true) (hc:CodeAt w g (wds ((Sp.split s 10).getD i ⟨#[]⟩))) (hl:i < (Sp.split s 10).length) (he:w.cell? ⟨5,0,none⟩=some (.iface u p)):CodeIn w g (wds ((Sp.split s 10).getD i ⟨#[]⟩)) u p:=by
 have hx:((Sp.split s 10).getD i ⟨#[]⟩).size≤2000:=by
  rw[List.getD_eq_getElem?_getD,List.getElem?_eq_getElem hl]
  exact Nat.le_trans (Sp.cut_size s 10 _ (List.getElem_mem hl)) hs
 generalize (Sp.split s 10).getD i ⟨#[]⟩=x at *
 have hlen:(wds x).length≤4000:=by
  unfold wds Sp.ws
  have:=(Sp.split_len x 32).2
  simp only[List.length_map,List.length_tail]
  omega
 unfold Sp.lineOk at hok
 rw[Bool.and_eq_true,if_neg (by omega),Bool.and_eq_true] at hok
 have hf:Sp.fmd (i == 2) (wds x) 0=true:=hok.2.1
 have hf2:Sp.fmd true (wds x) 0=true:=by
  cases hq:(i == 2) with
  | true=>rw[hq] at hf;exact hf
  | false=>rw[hq] at hf;exact Sp.fmd_weight _ _ hf
 have hpos:0 < (wds x).length:=by
  have h3:=hok.2.2
  unfold wds
  cases hq:(Sp.ws x).tail with
  | nil=>rw[hq] at h3;simp at h3
  | cons a l=>simp
 exact⟨⟨hc.lt,hc.fn⟩,hlen,hpos,hf2,he,World.block_lt_of_cell? w _ he⟩
theorem pcomp_long (s:ByteArray) (w:World) (hs:2000 < s.size):Calls Tryz.prog 36 #[.string s] w (CPost s w):=by
 have hz:(2000:Int) < (s.size:Int):=by omega
 have HE:Hid (Sp.comp s=(1,0)):=by show _=_;unfold Sp.comp;rw[if_pos hs]
 go_enter Tryz.func36,Tryz.ntmps36
 go_wp2
 exact bodyPost_ret (v := .tuple #[.pointer none,.int .i64 1,.int .i64 0]) (by simp[results,Tryz.results36,go_sem]) rfl (cpost_err (uh HE) (by decide) (Below.refl _ _))
theorem pcomp_short (s:ByteArray) (w:World) (hs:s.size≤2000) (hS:ShapesAt w) (hg:SplitOk w) (u:TypeId) (p:Value) (he:w.cell? ⟨5,0,none⟩=some (.iface u p)) :
  Calls Tryz.prog 36 #[.string s] w (CPost s w):=by
 have hz:¬ (2000:Int) < (s.size:Int):=by omega
 have hlen:=Sp.split_len s 10
 have HEE:=hde he
 have HSS:=hde hS
 generalize hO:CPost s w=O
 replace hO:=hde hO
 clear he hS
 go_enter Tryz.func36,Tryz.ntmps36
 go_wp2_with fail
 refine(psplit10_any s _ (by omega) hg).mono ?_
 rintro e w1 ⟨rfl,hw1⟩
 have hb1:Below w.heap.size w w1:=by rw[hw1];exact(Below.refl _ _).alloc nlr _
 have hsat:SAt w1 (some ⟨w.heap.size,0,none⟩) (Sp.split s 10):=by rw[hw1];exact sat_alloc w _
 clear hw1
 go_wp2_with fail
 refine(readLines_any' (Sp.split s 10) _ _ _ hsat (by omega) (fun x hx=>Nat.le_trans (Sp.cut_size s 10 x hx) hs) ((uh HSS).below hb1 (uh HSS).lt) (csplit_ok_below hg hb1 hg.lt)).mono ?_
 rintro e w2 ⟨hb2,i,hi7,hil,hok,⟨h7,hc,rfl⟩ | ⟨e7,hne,P,rfl⟩ | ⟨e7,hl7,P,C,hP,rfl,hpr,hln⟩⟩
 ·have hfin:O (.returned (.tuple #[.pointer none,.int .i64 3,.int .i64 i])) w2:=by
   rw[← uh hO]
   exact cpost_err (comp_form hs h7 hil hok hc) (by decide) (hb1.trans (hb2.mono hb1.size))
  clear hc hok hsat hb1 hb2
  go_wp2
  exact bodyPost_ret (v := .tuple #[.pointer none,.int .i64 3,.int .i64 i]) (by simp[results,Tryz.results36,go_sem]) rfl hfin
 ·subst e7
  have hfin:O (.returned (.tuple #[.pointer none,.int .i64 3,.int .i64 7])) w2:=by
   rw[← uh hO]
   exact cpost_err (comp_more hs (by omega) hok) (by decide) (hb1.trans (hb2.mono hb1.size))
  clear hne hok hsat hb1 hb2
  go_wp2
  exact bodyPost_ret (v := .tuple #[.pointer none,.int .i64 3,.int .i64 7]) (by simp[results,Tryz.results36,go_sem]) rfl hfin
 ·subst e7
  have hbw:=hb1.trans (hb2.mono hb1.size)
  have HOK:=hde hok
  have HLN:=hde hln
  have HPR:=hde hpr
  have HL7:=hde hl7
  have hsz:(Tryz.prog.info? 176).map (·.size)=some C.size:=by rw[hln.size];kernel_rfl
  have HBW:=hde hbw
  have hle1:=hb1.size
  clear hok hln hsat hb1 hb2 hl7 hil hlen hbw
  go_upto_region 6 with fail
  iterate 11 (first | go_values | go_skip | go_guarded | go_step | go_upon | (simp only[Int.not_lt,Int.not_le] at *;go_simp))
  refine wp_load_row 176 (.tmp 25) rfl P rfl 178 C (0,0) _ hpr Tryz.underlying176 rfl hsz ?_
  clear hpr hsz
  go_wp2_with fail
  go_loopw [27] (fun v wr=>∃ i:Nat,i≤7∧v = .int .i64 i∧Below w2.heap.size w2 wr∧Hid (∀ j,j < i→j < 5→Sp.keeps (wds ((Sp.split s 10).getD j ⟨#[]⟩))=true)) (fun v _=>7 - (intOf v).toNat)
  case atStart=>exact⟨0,by omega,rfl,Below.refl _ _,fun j hj=>absurd hj (by omega)⟩
  case round =>
   obtain⟨i,hi,rfl,hb,HK⟩:=hrel
   by_cases h7:i < 7
   ·have c1:(i:Int) < 7:=by omega
    have g0:(0:Int)≤(i:Int):=Int.natCast_nonneg _
    obtain⟨p4,n4,cap4,b4,z4,q4,F4,d0,d1,d2,d3⟩:=(uh HLN).shape i h7
    have hbw2:=(uh HBW).trans (hb.mono (uh HBW).size)
    have hsh:=(uh HSS).below hbw2 (uh HSS).lt
    have hsc:=hsh (i * 3+1) _ (sh_code i h7)
    rw[Nat.zero_add] at hsc
    have hix:=ln_index (uh HLN).size h7 d0 d1 d2 d3
    cases q4 with
    | true =>
     unfold fval at d3 hix
     have hsc2:(wr.alloc (.cells #[.slice p4 n4 cap4,.string b4,.int .i64 z4,.func (.func F4) #[] #[]] 175)).cell? ⟨0,i * 3+1,none⟩=some (.bool (decide (i < 5))):=(((Below.refl wr.heap.size wr).alloc nlr _).cell (p:=⟨0,i * 3+1,none⟩) hsh.lt).trans hsc
     have HBA:Hid (Below w2.heap.size w2 (wr.alloc (.cells #[.slice p4 n4 cap4,.string b4,.int .i64 z4,.func (.func F4) #[] #[]] 175))):=hb.alloc hb.size _
     by_cases h5:i < 5
     ·rw[decide_eq_true h5] at hsc2
      obtain⟨g4,cap5,e0,hPg,hca⟩:=(uh HLN).code i h7 h5
      rw[d0] at e0
      injection e0 with e0
      injection e0 with e1 e2 e3
      subst e1
      obtain⟨kp,HKP⟩:∃ kp,Hid (Sp.keeps (wds ((Sp.split s 10).getD i ⟨#[]⟩))=kp):=⟨_,rfl⟩
      have HKA:Hid (Calls Tryz.prog 69 #[.slice (some ⟨g4,0,none⟩) n4 cap4] (wr.alloc (.cells #[.slice (some ⟨g4,0,none⟩) n4 cap4,.string b4,.int .i64 z4,.func (.func F4) #[] #[]] 175)) fun e w'=>e = .returned (.bool kp)∧Below (wr.alloc (.cells #[.slice (some ⟨g4,0,none⟩) n4 cap4,.string b4,.int .i64 z4,.func (.func F4) #[] #[]] 175)).heap.size (wr.alloc (.cells #[.slice (some ⟨g4,0,none⟩) n4 cap4,.string b4,.int .i64 z4,.func (.func F4) #[] #[]] 175)) w'):=by
       have hbz:=(uh HBW).trans ((uh HBA).mono (uh HBW).size)
       rw[e2,← uh HKP]
       rw[e2] at hbz HBA
       refine keeps_any _ g4 cap4 u p _ (code_in (P:=P) (C:=C) hs h5 (uh HOK i h7) (hca.below (uh HBA)) (by rw[uh HL7];omega) ?_)
       exact(hbz.cell (p:=⟨5,0,none⟩) (World.block_lt_of_cell? w _ (uh HEE))).trans (uh HEE)
      have HFE:Hid (kp=false→∀ w',Below w2.heap.size w2 w'→O (.returned (.tuple #[.pointer none,.int .i64 7,.int .i64 i])) w'):=by
       show kp=false→_
       intro hkp w' hb'
       rw[← uh hO]
       have hbw:=uh HBW
       exact cpost_err (comp_stack hs (uh HL7) (uh HOK) h5 (uh HK) ((uh HKP).trans hkp)) (by decide) (hbw.trans (hb'.mono hbw.size))
      clear d0 d1 d2 d3 hsh hbw2 hsc hb e2 e3 hca hPg
      cases kp with
      | true =>
       go_wp2_with (first | (go_at_call 69;go_must (refine(uh HKA).mono ?_;rintro e w5 ⟨rfl,hb5⟩;have HB5:=hde hb5;clear hb5)) | go_in)
       go_roundw
       case rel=>exact⟨i+1,by omega,by go_num,(uh HBA).trans ((uh HB5).mono (uh HBA).size),fun j hj hj5=>if h:j=i then h ▸ uh HKP else uh HK j (by omega) hj5⟩
       case measure=>simp[intOf];omega
      | false =>
       go_wp2_with (first | (go_at_call 69;go_must (refine(uh HKA).mono ?_;rintro e w5 ⟨rfl,hb5⟩;have HB5:=hde hb5;clear hb5)) | go_in)
       exact bodyPost_ret (v := .tuple #[.pointer none,.int .i64 7,.int .i64 i]) (by simp[results,Tryz.results36,go_sem]) rfl (uh HFE (by trivial) _ ((uh HBA).trans ((uh HB5).mono (uh HBA).size)))
     ·rw[decide_eq_false h5] at hsc2
      clear d0 d1 d2 d3 hsh hbw2 hsc hb
      go_wp2
      go_roundw
      case rel=>exact⟨i+1,by omega,by go_num,uh HBA,fun j hj hj5=>uh HK j (by omega) hj5⟩
      case measure=>simp[intOf];omega
    | false =>
     unfold fval at d3 hix
     have hsc2:(wr.alloc (.cells #[.slice p4 n4 cap4,.string b4,.int .i64 z4,.nilFunc] 175)).cell? ⟨0,i * 3+1,none⟩=some (.bool (decide (i < 5))):=(((Below.refl wr.heap.size wr).alloc nlr _).cell (p:=⟨0,i * 3+1,none⟩) hsh.lt).trans hsc
     have HBA:Hid (Below w2.heap.size w2 (wr.alloc (.cells #[.slice p4 n4 cap4,.string b4,.int .i64 z4,.nilFunc] 175))):=hb.alloc hb.size _
     by_cases h5:i < 5
     ·rw[decide_eq_true h5] at hsc2
      obtain⟨g4,cap5,e0,hPg,hca⟩:=(uh HLN).code i h7 h5
      rw[d0] at e0
      injection e0 with e0
      injection e0 with e1 e2 e3
      subst e1
      obtain⟨kp,HKP⟩:∃ kp,Hid (Sp.keeps (wds ((Sp.split s 10).getD i ⟨#[]⟩))=kp):=⟨_,rfl⟩
      have HKA:Hid (Calls Tryz.prog 69 #[.slice (some ⟨g4,0,none⟩) n4 cap4] (wr.alloc (.cells #[.slice (some ⟨g4,0,none⟩) n4 cap4,.string b4,.int .i64 z4,.nilFunc] 175)) fun e w'=>e = .returned (.bool kp)∧Below (wr.alloc (.cells #[.slice (some ⟨g4,0,none⟩) n4 cap4,.string b4,.int .i64 z4,.nilFunc] 175)).heap.size (wr.alloc (.cells #[.slice (some ⟨g4,0,none⟩) n4 cap4,.string b4,.int .i64 z4,.nilFunc] 175)) w'):=by
       have hbz:=(uh HBW).trans ((uh HBA).mono (uh HBW).size)
       rw[e2,← uh HKP]
       rw[e2] at hbz HBA
       refine keeps_any _ g4 cap4 u p _ (code_in (P:=P) (C:=C) hs h5 (uh HOK i h7) (hca.below (uh HBA)) (by rw[uh HL7];omega) ?_)
       exact(hbz.cell (p:=⟨5,0,none⟩) (World.block_lt_of_cell? w _ (uh HEE))).trans (uh HEE)
      have HFE:Hid (kp=false→∀ w',Below w2.heap.size w2 w'→O (.returned (.tuple #[.pointer none,.int .i64 7,.int .i64 i])) w'):=by
       show kp=false→_
       intro hkp w' hb'
       rw[← uh hO]
       have hbw:=uh HBW
       exact cpost_err (comp_stack hs (uh HL7) (uh HOK) h5 (uh HK) ((uh HKP).trans hkp)) (by decide) (hbw.trans (hb'.mono hbw.size))
      clear d0 d1 d2 d3 hsh hbw2 hsc hb e2 e3 hca hPg
      cases kp with
      | true =>
       go_wp2_with (first | (go_at_call 69;go_must (refine(uh HKA).mono ?_;rintro e w5 ⟨rfl,hb5⟩;have HB5:=hde hb5;clear hb5)) | go_in)
       go_roundw
       case rel=>exact⟨i+1,by omega,by go_num,(uh HBA).trans ((uh HB5).mono (uh HBA).size),fun j hj hj5=>if h:j=i then h ▸ uh HKP else uh HK j (by omega) hj5⟩
       case measure=>simp[intOf];omega
      | false =>
       go_wp2_with (first | (go_at_call 69;go_must (refine(uh HKA).mono ?_;rintro e w5 ⟨rfl,hb5⟩;have HB5:=hde hb5;clear hb5)) | go_in)
       exact bodyPost_ret (v := .tuple #[.pointer none,.int .i64 7,.int .i64 i]) (by simp[results,Tryz.results36,go_sem]) rfl (uh HFE (by trivial) _ ((uh HBA).trans ((uh HB5).mono (uh HBA).size)))
     ·rw[decide_eq_false h5] at hsc2
      clear d0 d1 d2 d3 hsh hbw2 hsc hb
      go_wp2
      go_roundw
      case rel=>exact⟨i+1,by omega,by go_num,uh HBA,fun j hj hj5=>uh HK j (by omega) hj5⟩
      case measure=>simp[intOf];omega
   ·have e7:i=7:=by omega
    subst e7
    have hfin:O (.returned (.tuple #[.pointer (some ⟨P,0,none⟩),.int .i64 0,.int .i64 0])) wr:=by
     rw[← uh hO]
     have hbw:=uh HBW
     have hcomp:=comp_ok hs (uh HL7) (uh HOK) (fun j hj=>uh HK j (by omega) hj)
     have hPl:=(Array.getElem?_eq_some_iff.1 (uh HPR)).1
     refine⟨hbw.trans (hb.mono hbw.size),some ⟨P,0,none⟩,by rw[hcomp],fun _=>⟨P,C,rfl,Nat.le_trans hle1 hP,(hb.block P hPl).trans (uh HPR),(uh HLN).below hb,uh HL7⟩⟩
    clear hb
    go_wp2
    exact bodyPost_ret (v := .tuple #[.pointer (some ⟨P,0,none⟩),.int .i64 0,.int .i64 0]) (by simp[results,Tryz.results36,go_sem]) rfl hfin
end Go.Proofs.YteflnddphpjahaaGreatDoor
