import Derived.Test.YteflnddphpjahaaGreatDoorCmEvEtoMkA
import Derived.Test.YteflnddphpjahaaGreatDoorCmMkBtoPrC
import Derived.Test.YteflnddphpjahaaGreatDoorCmRxBtoCqT
import Derived.Test.YteflnddphpjahaaGreatDoorCmRxAtoPlQ
import Derived.Test.YteflnddphpjahaaGreatDoorCmRnOtoEvC
import Derived.LaidEql
set_option linter.unusedVariables false
set_option linter.unusedSimpArgs false
set_option maxRecDepth 100000
set_option maxHeartbeats 16000000
namespace Go.Proofs.YteflnddphpjahaaGreatDoor
open Go.RowKit
def nls (s:ByteArray):List Int:=match Sp.parseSpec s with | .error _=>[] | .ok L=>(Sp.vs L (Sp.nv L)).map (·.frm)
def vls (s:ByteArray):List Int:=match Sp.parseSpec s with | .error _=>[] | .ok L=>(Sp.vs L (Sp.nv L)).map (·.n)
def els (s:ByteArray):List Sp.Ed:=match Sp.parseSpec s with | .error _=>[] | .ok L=>Sp.es L (Sp.nv L) (Sp.nv L)
def eno (s:ByteArray):Int:=match Sp.parseSpec s with | .error (a,_)=>a | .ok _=>0
def eat (s:ByteArray):Int:=match Sp.parseSpec s with | .error (_,b)=>b | .ok _=>0
theorem parse_form {s:ByteArray} {w w':World} {e:Ending} (h:ParsePost s w e w'):Below w.heap.size w w'∧∃ v u x,e = .returned (.tuple #[graphVal v u x,.int .i64 (eno s),.int .i64 (eat s)]) ∧
  w'.ownsRow w.heap.size 21 1 v (nls s).length ((nls s).map (Value.int .i32))∧w'.ownsRow w.heap.size 2 1 u (vls s).length ((vls s).map (Value.int .i64))∧w'.ownsRow w.heap.size 67 3 x (els s).length (edCells (els s)):=by
 obtain⟨hb,hm⟩:=h
 refine⟨hb,?_⟩
 unfold nls vls els eno eat
 cases hp:Sp.parseSpec s with
 | error ab =>
  obtain⟨a,b⟩:=ab
  rw[hp] at hm
  exact⟨_,_,_,hm,World.ownsRow_nil _ _ _ _,World.ownsRow_nil _ _ _ _,World.ownsRow_nil _ _ _ _⟩
 | ok L =>
  rw[hp] at hm
  obtain⟨v,u,x,he,r0,r1,r2⟩:=hm
  exact⟨v,u,x,he,by simpa using r0,by simpa using r1,r2⟩
theorem small_form {s:ByteArray} (h:Small s):(nls s).length≤64∧(vls s).length≤64∧(els s).length≤256:=by
 unfold nls vls els
 cases hp:Sp.parseSpec s with
 | error ab=>simp
 | ok L =>
  have:=h L hp
  simp
  omega
theorem nls_len (s:ByteArray):(nls s).length=(vls s).length:=by
 unfold nls vls
 cases Sp.parseSpec s with
 | error ab=>rfl
 | ok L=>simp
theorem eno_zero {s:ByteArray} (h:eno s=0):∃ L,Sp.parseSpec s = .ok L:=by
 unfold eno at h
 cases hp:Sp.parseSpec s with
 | ok L=>exact⟨L,rfl⟩
 | error ab =>
  exfalso
  obtain⟨a,b⟩:=ab
  rw[hp] at h
  simp only at h
  subst h
  by_cases c:4000 < s.size
  ·rw[spec_long c] at hp;cases hp
  ·cases hb:Sp.bad s with
   | some i=>rw[spec_bad c hb] at hp;cases hp
   | none =>
    cases hl:Sp.plFrom (Sp.split s 10) 0 [] with
    | error k=>rw[spec_form c hb hl] at hp;cases hp
    | ok P =>
     rw[spec_read c hb hl] at hp
     split at hp
     ·cases hp
     ·rename_i hne
      injection hp with hp
      rw[hp] at hne
      exact hne rfl
theorem job_ok {g p:ByteArray} (hg:eno g=0) (hp:(Sp.comp p).1=0) (hsm:Small g):Sp.JobOk (Sp.pgOf p) (els g) (vls g).length∧∀ x ∈ vls g,Sp.i64 x:=by
 obtain⟨L,hL⟩:=eno_zero hg
 obtain⟨f1,f2,f3⟩:=parse_facts hL
 have e1:vls g=(Sp.vs L (Sp.nv L)).map (·.n):=by unfold vls;rw[hL]
 have e2:els g=Sp.es L (Sp.nv L) (Sp.nv L):=by unfold els;rw[hL]
 have hlen:(vls g).length=Sp.nv L:=by rw[e1,List.length_map,f1]
 refine⟨⟨fun i hi=>Sp.code_good hp hi,fun i hi h2=>Sp.code_nw hp hi h2,(small_form hsm).2.2,by omega,fun x hx=>?_,(Sp.line_comb hp (by omega) (by omega)).2,(Sp.line_comb hp (by omega) (by omega)).2⟩,fun x hx=>?_⟩
 ·rw[e2] at hx
  obtain⟨h1,h2,l,hl,h3⟩:=Sp.es_mem _ hx
  have:=f3 l hl
  refine⟨by omega,by omega,?_⟩
  unfold Sp.i64;omega
 ·rw[e1] at hx
  obtain⟨l,hl,rfl⟩:=List.mem_map.1 hx
  have:=f3 l (Sp.vs_mem _ hl)
  unfold Sp.i64;omega
def askE (g p:ByteArray) (limit:Int):Int:=if eno g≠0 then eno g else if (Sp.comp p).1≠0 then (Sp.comp p).1 else if limit < 0∨200 < limit then 8 else 0
end Go.Proofs.YteflnddphpjahaaGreatDoor
namespace Go.Proofs.YteflnddphpjahaaGreatDoor.Sp
open Go
def d4 (n:Nat):List UInt8:=if n≤9 then [UInt8.ofNat (48+n)] else if n≤99 then [UInt8.ofNat (48+n / 10),UInt8.ofNat (48+n % 10)] else if n≤999 then [UInt8.ofNat (48+n / 100),UInt8.ofNat (48+n / 10 % 10),UInt8.ofNat (48+n % 10)] else [UInt8.ofNat (48+n / 1000),UInt8.ofNat (48+n / 100 % 10),UInt8.ofNat (48+n / 10 % 10),UInt8.ofNat (48+n % 10)]
theorem d4_num:∀ n,n < 1001→number (d4 n)=some (n:Int):=by decide +kernel
theorem d4_low:∀ n,n < 1001→(d4 n).all (fun b=>decide (48≤b.toNat∧b.toNat < 58))=true:=by decide +kernel
theorem d4_len (n:Nat):1≤(d4 n).length∧(d4 n).length≤4:=by unfold d4;split <;> (try split) <;> (try split) <;> simp
def vln (i:Nat):List UInt8:=UInt8.ofNat (97+i) :: 32 :: (if i=0 then [48] else [49,48,48,48,48,48,48,48,48,48])
def eln (e:Ed):List UInt8:=UInt8.ofNat (97+e.frm) :: 62 :: UInt8.ofNat (97+e.to) :: 32 :: d4 e.n.toNat
def vtx (n:Nat):List UInt8:=(List.range n).flatMap fun i=>vln i++[10]
def etx (R:List Ed):List UInt8:=R.flatMap fun e=>eln e++[10]
theorem vtx_succ (n:Nat):vtx (n+1)=vtx n++(vln n++[10]):=by unfold vtx;rw[List.range_succ,List.flatMap_append];simp
theorem etx_append (A B:List Ed):etx (A++B)=etx A++etx B:=by unfold etx;rw[List.flatMap_append]
def vL (i:Nat):Ln:=⟨false,((97+i:Nat):Int),0,if i=0 then 0 else 1000000000⟩
def eL (e:Ed):Ln:=⟨true,((97+e.frm:Nat):Int),((97+e.to:Nat):Int),e.n⟩
theorem spl_zs:∀ zs:List (List UInt8 × Ln),(∀ z ∈ zs,(10:UInt8) ∉ z.1)→spl 10 (zs.flatMap fun z=>z.1++[10])=zs.map (·.1)++[[]]:=by
 intro zs
 induction zs with
 | nil=>intro _;rfl
 | cons z r ih =>
  intro h
  simp only[List.flatMap_cons,List.append_assoc,List.cons_append,List.nil_append,List.map_cons]
  rw[spl_cut _ _ _ (h z (List.mem_cons_self ..)),ih (fun x hx=>h x (List.mem_cons_of_mem _ hx))]
theorem pl_zs:∀ (zs:List (List UInt8 × Ln)) (m:Nat) (P:List (Option Ln)) (xs:List ByteArray),(∀ z ∈ zs,∀ x:ByteArray,x.data.toList=z.1→plOf x=some (some z.2))→xs.map (·.data.toList)=zs.map (·.1)++[[]]→plFrom xs m P = .ok (P++((zs.map (·.2)).map some++[none])):=by
 intro zs
 induction zs with
 | nil =>
  intro m P xs _ h
  match xs,h with
  | [x],h =>
   simp at h
   have hz:x.size=0:=by rw[← ByteArray.size_data];simp[h]
   simp only[plFrom,plOf,if_pos hz,List.map_nil,List.nil_append]
  | x :: y :: z,h=>simp at h
 | cons z t ih =>
  intro m P xs hR h
  match xs,h with
  | x :: rest,h =>
   simp only[List.map_cons,List.cons_append,List.cons.injEq] at h
   have hp:=hR z (List.mem_cons_self ..) x h.1
   simp only[plFrom,hp]
   rw[ih (m+1) _ rest (fun y hy=>hR y (List.mem_cons_of_mem _ hy)) h.2]
   simp
theorem nm_at {x:ByteArray} {i r:Nat} {rest:List UInt8} (h:okR r) (hd:x.data.toList.drop i=en r++rest):nm x i=some ((r:Int),i+(en r).length)∧x.data.toList.drop (i+(en r).length)=rest∧i < x.size:=by
 obtain⟨hv,h32,_,h62⟩:=h
 obtain⟨e1,e2,e3,e4⟩:=dec_en hv hd
 have hne:¬ Utf8.decode x i=(65533,1):=by
  rw[e1];intro e
  have a1:=congrArg Prod.fst e
  have a2:=congrArg Prod.snd e
  simp only at a1 a2
  unfold en at a2
  rw[a1] at a2
  simp at a2
 have hb:bt x i≠32∧bt x i≠62:=by
  rw[e4]
  split
  ·exact⟨h32,h62⟩
  ·split
   ·omega
   ·split <;> omega
 refine⟨?_,e3,e2⟩
 unfold nm
 rw[if_pos ⟨e2,hb.1,hb.2⟩,ref_of_good hne,e1]
 simp
theorem fin_at {x:ByteArray} {j:Nat} {nb:List UInt8} {n:Int} (hd:x.data.toList.drop j=32 :: nb) (hn:number nb=some n) (e:Bool) (a b:Int):fin x e a b j=some ⟨e,a,b,n⟩:=by
 obtain⟨f1,f2,f3⟩:=bt_drop hd
 have f2':bt x j=32:=f2
 unfold fin
 rw[if_pos ⟨f1,f2'⟩,extract_drop,f3,hn]
 rfl
theorem pl_v {x:ByteArray} {r:Nat} {nb:List UInt8} {n:Int} (h:okR r) (hn:number nb=some n) (hx:x.data.toList=en r++32 :: nb):plOf x=some (some ⟨false,(r:Int),0,n⟩):=by
 obtain⟨h1,h2,h3⟩:=nm_at (i:=0) h (by rw[List.drop_zero];exact hx)
 obtain⟨f1,f2,f3⟩:=bt_drop h2
 have f2':bt x (0+(en r).length)=32:=f2
 have hl:lineOf x=some ⟨false,(r:Int),0,n⟩:=by
  unfold lineOf
  rw[h1]
  simp only
  rw[if_neg (fun hc=>by omega),fin_at h2 hn]
 unfold plOf
 rw[if_neg (by omega),hl]
 rfl
theorem pl_e {x:ByteArray} {a b:Nat} {nb:List UInt8} {n:Int} (ha:okR a) (hb:okR b) (hn:number nb=some n) (hx:x.data.toList=en a++62 :: (en b++32 :: nb)):plOf x=some (some ⟨true,(a:Int),(b:Int),n⟩):=by
 obtain⟨h1,h2,h3⟩:=nm_at (i:=0) ha (by rw[List.drop_zero];exact hx)
 obtain⟨f1,f2,f3⟩:=bt_drop h2
 have f2':bt x (0+(en a).length)=62:=f2
 obtain⟨g1,g2,g3⟩:=nm_at hb f3
 have hl:lineOf x=some ⟨true,(a:Int),(b:Int),n⟩:=by
  unfold lineOf
  rw[h1]
  simp only
  rw[if_pos ⟨f1,f2'⟩,g1]
  simp only
  rw[fin_at g2 hn]
 unfold plOf
 rw[if_neg (by omega),hl]
 rfl
theorem ok97 {i:Nat} (h:i < 8):okR (97+i)∧en (97+i)=[UInt8.ofNat (97+i)]:=⟨⟨⟨by omega,by omega⟩,by omega,by omega,by omega⟩,en_ascii (by omega)⟩
theorem pl_vln {x:ByteArray} {i:Nat} (h:i < 8) (hx:x.data.toList=vln i):plOf x=some (some (vL i)):=by
 obtain⟨h1,h2⟩:=ok97 h
 unfold vL
 refine pl_v (nb:=if i=0 then [48] else [49,48,48,48,48,48,48,48,48,48]) h1 ?_ (by rw[h2,hx];rfl)
 by_cases c:i=0
 ·rw[if_pos c,if_pos c];decide
 ·rw[if_neg c,if_neg c];decide
theorem pl_eln {x:ByteArray} {e:Ed} {n:Nat} (hn:n≤8) (h:e.frm < n∧e.to < n∧0≤e.n∧e.n≤1000) (hx:x.data.toList=eln e):plOf x=some (some (eL e)):=by
 obtain⟨h1,h2⟩:=ok97 (i:=e.frm) (by omega)
 obtain⟨h3,h4⟩:=ok97 (i:=e.to) (by omega)
 have h5:=d4_num e.n.toNat (by omega)
 rw[show ((e.n.toNat:Nat):Int)=e.n by omega] at h5
 exact pl_e h1 h3 h5 (by rw[h2,h4,hx];rfl)
theorem ofN_ne {k c:Nat} (hk:k < 256) (hc:c < 256) (h:k≠c):UInt8.ofNat c≠UInt8.ofNat k:=fun e=>by
 have:=congrArg UInt8.toNat e
 rw[ofNat_toNat hk,ofNat_toNat hc] at this
 exact h this.symm
theorem d4_b {n:Nat} (h:n < 1001):∀ b ∈ d4 n,48≤b.toNat∧b.toNat < 58:=fun b hb=>by
 have:=List.all_eq_true.1 (d4_low n h) b hb
 simpa using this
theorem vln_b {i:Nat} (h:i < 8):∀ b ∈ vln i,b.toNat < 128∧b≠10:=by
 intro b hb
 unfold vln at hb
 rcases List.mem_cons.1 hb with rfl | hb
 ·exact⟨by rw[ofNat_toNat (by omega)];omega,(ofN_ne (k:=10) (by omega) (by omega) (by omega))⟩
 ·rcases List.mem_cons.1 hb with rfl | hb
  ·decide
  ·split at hb
   ·simp only[List.mem_cons,List.mem_nil_iff,or_false] at hb;subst hb;decide
   ·simp only[List.mem_cons,List.mem_nil_iff,or_false] at hb
    rcases hb with rfl | rfl | rfl | rfl | rfl | rfl | rfl | rfl | rfl | rfl <;> decide
theorem eln_b {e:Ed} {n:Nat} (hn:n≤8) (h:e.frm < n∧e.to < n∧0≤e.n∧e.n≤1000):∀ b ∈ eln e,b.toNat < 128∧b≠10:=by
 intro b hb
 unfold eln at hb
 rcases List.mem_cons.1 hb with rfl | hb
 ·exact⟨by rw[ofNat_toNat (by omega)];omega,(ofN_ne (k:=10) (by omega) (by omega) (by omega))⟩
 ·rcases List.mem_cons.1 hb with rfl | hb
  ·decide
  ·rcases List.mem_cons.1 hb with rfl | hb
   ·exact⟨by rw[ofNat_toNat (by omega)];omega,(ofN_ne (k:=10) (by omega) (by omega) (by omega))⟩
   ·rcases List.mem_cons.1 hb with rfl | hb
    ·decide
    ·have:=d4_b (by omega) b hb
     refine⟨by omega,?_⟩
     rintro rfl
     revert this;decide
def zs (n:Nat) (R:List Ed):List (List UInt8 × Ln):=(List.range n).map (fun i=>(vln i,vL i))++R.map (fun e=>(eln e,eL e))
def lnsR (n:Nat) (R:List Ed):List Ln:=(List.range n).map vL++R.map eL
theorem zs_text (n:Nat) (R:List Ed):(zs n R).flatMap (fun z=>z.1++[10])=vtx n++etx R:=by
 unfold zs vtx etx
 rw[List.flatMap_append,List.flatMap_map,List.flatMap_map]
theorem zs_snd (n:Nat) (R:List Ed):(zs n R).map (·.2)=lnsR n R:=by
 unfold zs lnsR
 rw[List.map_append,List.map_map,List.map_map];rfl
theorem zs_ok {n:Nat} {R:List Ed} (hn:n≤8) (hR:EdOk R n):∀ z ∈ zs n R,(∀ b ∈ z.1,b.toNat < 128∧b≠10)∧∀ x:ByteArray,x.data.toList=z.1→plOf x=some (some z.2):=by
 intro z hz
 unfold zs at hz
 rcases List.mem_append.1 hz with h | h
 ·obtain⟨i,hi,rfl⟩:=List.mem_map.1 h
  rw[List.mem_range] at hi
  exact⟨vln_b (by omega),fun x hx=>pl_vln (by omega) hx⟩
 ·obtain⟨e,he,rfl⟩:=List.mem_map.1 h
  exact⟨eln_b hn (hR.b e he),fun x hx=>pl_eln hn (hR.b e he) hx⟩
theorem vtx_len (n:Nat):(vtx n).length≤13 * n:=by
 induction n with
 | zero=>simp[vtx]
 | succ n ih =>
  rw[vtx_succ]
  have:(vln n).length≤12:=by unfold vln;split <;> simp
  simp only[List.length_append,List.length_cons,List.length_nil]
  omega
theorem etx_len (R:List Ed):(etx R).length≤9 * R.length:=by
 induction R with
 | nil=>simp[etx]
 | cons e r ih =>
  have h1:etx (e :: r)=(eln e++[10])++etx r:=by simp[etx]
  have h2:(eln e).length≤8:=by unfold eln;have:=(d4_len e.n.toNat).2;simp only[List.length_cons];omega
  rw[h1]
  simp only[List.length_append,List.length_cons,List.length_nil]
  omega
theorem lnsR_v {n:Nat} {R:List Ed} {j:Nat} (h:j < n):(lnsR n R)[j]? = some (vL j):=by
 unfold lnsR
 rw[List.getElem?_append_left (by simpa using h),List.getElem?_map,List.getElem?_range h];rfl
theorem lnsR_e {n:Nat} {R:List Ed} {j:Nat} {l:Ln} (h:n≤j) (hl:(lnsR n R)[j]? = some l):∃ e,e ∈ R∧l=eL e:=by
 unfold lnsR at hl
 rw[List.getElem?_append_right (by simpa using h),List.getElem?_map] at hl
 cases hr:R[j - ((List.range n).map vL).length]? with
 | none=>rw[hr] at hl;cases hl
 | some e=>rw[hr] at hl;injection hl with hl;exact⟨e,List.mem_of_getElem? hr,hl.symm⟩
theorem lnsR_take {n:Nat} {R:List Ed} {j:Nat} (h:j≤n):(lnsR n R).take j=(List.range j).map vL:=by
 unfold lnsR
 rw[List.take_append_of_le_length (by simpa using h),← List.map_take,List.take_range,Nat.min_eq_left h]
theorem lnsR_twice {n:Nat} {R:List Ed}:first (twiceAt (lnsR n R)) (lnsR n R).length=none:=by
 apply first_none
 intro j hj
 unfold twiceAt
 by_cases c:j < n
 ·rw[lnsR_v c]
  simp only
  have:hasV (lnsR n R) j (vL j).frm=false:=by
   unfold hasV
   rw[lnsR_take (by omega),List.any_eq_false]
   intro l hl
   obtain⟨i,hi,rfl⟩:=List.mem_map.1 hl
   rw[List.mem_range] at hi
   simp only[isV,vL]
   simp
   omega
  rw[this]
  simp
 ·cases hl:(lnsR n R)[j]? with
  | none=>rfl
  | some l =>
   obtain⟨e,_,rfl⟩:=lnsR_e (by omega) hl
   rfl
theorem lnsR_has {n:Nat} {R:List Ed} {i:Nat} (h:i < n):hasV (lnsR n R) (lnsR n R).length ((97+i:Nat):Int)=true:=by
 unfold hasV
 rw[List.take_length,List.any_eq_true]
 refine⟨vL i,?_,by simp[isV,vL]⟩
 unfold lnsR
 exact List.mem_append_left _ (List.mem_map.2 ⟨i,List.mem_range.2 h,rfl⟩)
theorem lnsR_loose {n:Nat} {R:List Ed} (hR:EdOk R n):first (loose (lnsR n R)) (lnsR n R).length=none:=by
 apply first_none
 intro j hj
 unfold loose
 by_cases c:j < n
 ·rw[lnsR_v c];rfl
 ·cases hl:(lnsR n R)[j]? with
  | none=>rfl
  | some l =>
   obtain⟨e,he,rfl⟩:=lnsR_e (by omega) hl
   have hb:=hR.b e he
   have h1:hasV (lnsR n R) (lnsR n R).length (eL e).frm=true:=lnsR_has hb.1
   have h2:hasV (lnsR n R) (lnsR n R).length (eL e).to=true:=lnsR_has hb.2.1
   simp only
   rw[h1,h2]
   simp
theorem lnsR_edges (n:Nat) (R:List Ed):edges (lnsR n R)=R.length:=by
 unfold edges lnsR
 rw[List.filter_append,List.filter_eq_nil_iff.2 (fun l hl=>by obtain⟨i,_,rfl⟩:=List.mem_map.1 hl;simp[vL]),List.filter_eq_self.2 (fun l hl=>by obtain⟨i,_,rfl⟩:=List.mem_map.1 hl;simp[eL])]
 simp
theorem lnsR_nv (n:Nat) (R:List Ed):nv (lnsR n R)=n:=by
 unfold nv
 rw[lnsR_edges]
 unfold lnsR
 simp
theorem lnsR_verts (n:Nat) (R:List Ed):verts (lnsR n R)=(List.range n).map fun (i:Nat)=>(((97+i:Nat):Int),if i=0 then (0:Int) else 1000000000):=by
 unfold verts lnsR
 rw[List.filter_append,List.filter_eq_self.2 (fun l hl=>by obtain⟨i,_,rfl⟩:=List.mem_map.1 hl;simp[vL]),List.filter_eq_nil_iff.2 (fun l hl=>by obtain⟨i,_,rfl⟩:=List.mem_map.1 hl;simp[eL])]
 rw[List.append_nil,List.map_map]
 rfl
theorem lnsR_srt (n:Nat) (R:List Ed):tsorted (verts (lnsR n R)):=by
 rw[lnsR_verts]
 unfold tsorted
 rw[List.pairwise_map]
 exact List.pairwise_lt_range.imp (fun h=>by simp only;omega)
theorem lnsR_low {n:Nat} {R:List Ed} {a:Nat} (h:a < n):low (lnsR n R) ((97+a:Nat):Int)=a:=by
 rw[← tlow_verts,lnsR_verts]
 refine tlow_at (by simp;omega) (fun j hj hja=>?_) (fun j hj hja=>?_)
 ·simp;omega
 ·simp;omega
theorem mem_eRow {L:List Ln} {a:Nat} {x:Ed}:∀ b,x ∈ eRow L a b↔∃ c,c < b∧x ∈ eAt L a c L.length:=by
 intro b
 induction b with
 | zero=>exact⟨fun h=>(by cases h),fun ⟨c,h,_⟩=>by omega⟩
 | succ b ih =>
  simp only[eRow,List.mem_append,ih]
  constructor
  ·rintro(⟨c,h1,h2⟩ | h)
   ·exact⟨c,by omega,h2⟩
   ·exact⟨b,by omega,h⟩
  ·rintro⟨c,h1,h2⟩
   by_cases e:c=b
   ·exact Or.inr (by rw[← e];exact h2)
   ·exact Or.inl ⟨c,by omega,h2⟩
theorem mem_es {L:List Ln} {n:Nat} {x:Ed}:∀ k,x ∈ es L n k↔∃ a,a < k∧x ∈ eRow L a n:=by
 intro k
 induction k with
 | zero=>exact⟨fun h=>(by cases h),fun ⟨c,h,_⟩=>by omega⟩
 | succ b ih =>
  simp only[es,List.mem_append,ih]
  constructor
  ·rintro(⟨c,h1,h2⟩ | h)
   ·exact⟨c,by omega,h2⟩
   ·exact⟨b,by omega,h⟩
  ·rintro⟨c,h1,h2⟩
   by_cases e:c=b
   ·exact Or.inr (by rw[← e];exact h2)
   ·exact Or.inl ⟨c,by omega,h2⟩
theorem lnsR_es {n:Nat} {R:List Ed} (hR:EdOk R n) (x:Ed):x ∈ es (lnsR n R) n n↔x ∈ R:=by
 rw[mem_es]
 constructor
 ·rintro⟨a,ha,h⟩
  obtain⟨b,hb,h⟩:=(mem_eRow n).1 h
  unfold eAt at h
  obtain⟨l,hl,rfl⟩:=List.mem_map.1 h
  obtain⟨hl1,hl2⟩:=List.mem_filter.1 hl
  have hm:=List.mem_of_mem_take hl1
  unfold lnsR at hm
  rcases List.mem_append.1 hm with hm | hm
  ·obtain⟨i,_,rfl⟩:=List.mem_map.1 hm
   simp[eHit,vL] at hl2
  ·obtain⟨e,he,rfl⟩:=List.mem_map.1 hm
   have hbd:=hR.b e he
   simp only[eHit,eL,Bool.true_and,Bool.and_eq_true,beq_iff_eq] at hl2
   rw[lnsR_low hbd.1,lnsR_low hbd.2.1] at hl2
   obtain⟨e1,e2⟩:=hl2
   rw[← e1,← e2]
   exact he
 ·intro he
  have hbd:=hR.b x he
  refine⟨x.frm,hbd.1,(mem_eRow n).2 ⟨x.to,hbd.2.1,?_⟩⟩
  unfold eAt
  refine List.mem_map.2 ⟨eL x,List.mem_filter.2 ⟨?_,?_⟩,rfl⟩
  ·rw[List.take_length]
   unfold lnsR
   exact List.mem_append_right _ (List.mem_map.2 ⟨x,he,rfl⟩)
  ·simp only[eHit,eL,Bool.true_and,Bool.and_eq_true,beq_iff_eq]
   exact⟨lnsR_low hbd.1,lnsR_low hbd.2.1⟩
theorem spec_reach {s:ByteArray} {n:Nat} {R:List Ed} (hn8:n≤8) (hR:EdOk R n) (hl:R.length≤200) (hs:s.data.toList=vtx n++etx R):parseSpec s = .ok (lnsR n R):=by
 have h2:s.data.toList.length=s.size:=by simp
 have hsz:s.size≤4000:=by
  have h1:=vtx_len n
  have h3:=etx_len R
  rw[hs,List.length_append] at h2
  omega
 have hz:=zs_ok hn8 hR
 have hasc:∀ b ∈ s.data.toList,b.toNat < 128:=by
  rw[hs,← zs_text]
  intro b hb
  obtain⟨z,hz1,hz2⟩:=List.mem_flatMap.1 hb
  rcases List.mem_append.1 hz2 with h | h
  ·exact((hz z hz1).1 b h).1
  ·rw[List.mem_singleton] at h;subst h;decide
 have hgo:=goes_bytes (s:=s) s.data.toList 0 [] hasc (by rw[List.drop_zero,List.append_nil])
 have hV:V s 0:=hgo.1.valid (V_end (by omega))
 have hsp:(split s 10).map (·.data.toList)=(zs n R).map (·.1)++[[]]:=by
  have:=split_spl s 10
  rw[hs,← zs_text,spl_zs _ (fun z hz1 hc=>((hz z hz1).1 _ hc).2 rfl)] at this
  exact this
 have hpl:=pl_zs (zs n R) 0 [] _ (fun z hz1=>(hz z hz1).2) hsp
 rw[List.nil_append,zs_snd] at hpl
 have hrd:=spec_read (by omega) (bad_of_V hV) hpl
 rw[says_some] at hrd
 have hw:(wrongSpec (lnsR n R) (numsFrom ((lnsR n R).map some++[none]) 0)).1=0:=by
  unfold wrongSpec
  rw[lnsR_twice]
  simp only
  rw[lnsR_loose hR]
  simp only
  rw[if_neg]
  have h1:=lnsR_edges n R
  have h3:=lnsR_nv n R
  unfold nv at h3
  omega
 rw[if_pos hw] at hrd
 exact hrd
end Go.Proofs.YteflnddphpjahaaGreatDoor.Sp
namespace Go.Proofs.YteflnddphpjahaaGreatDoor
open Go.RowKit
theorem text_reach {s:ByteArray} {n:Nat} {R:List Sp.Ed} (hn8:n≤8) (hR:Sp.EdOk R n) (hl:R.length≤200) (hs:s.data.toList=Sp.vtx n++Sp.etx R):eno s=0∧vls s=(List.range n).map (Sp.dk (els s) 0)∧∀ e,e ∈ els s↔e ∈ R:=by
 have hp:=Sp.spec_reach hn8 hR hl hs
 refine⟨by unfold eno;rw[hp],?_,?_⟩
 ·have h1:=Sp.vs_eq (L:=Sp.lnsR n R) (Sp.lnsR_srt n R) (List.Perm.refl _)
  have h2:vls s=(Sp.vs (Sp.lnsR n R) (Sp.nv (Sp.lnsR n R))).map (·.n):=by unfold vls;rw[hp]
  rw[h2]
  have h3:=congrArg (List.map (·.2)) h1
  rw[List.map_map,Sp.lnsR_verts,List.map_map] at h3
  exact h3
 ·intro e
  have h2:els s=Sp.es (Sp.lnsR n R) n n:=by unfold els;rw[hp];simp only[Sp.lnsR_nv]
  rw[h2]
  exact Sp.lnsR_es hR e
def sightA (E:Sp.Ev):Array Value := #[.int .i64 E.value,.int .i64 E.inn,.int .i64 E.got,.int .i64 E.step,.int .i64 E.id,.int .i64 E.deg,.int .i64 E.all,.int .i64 E.old,.int .i64 E.weight]
structure SightAt (w:World) (S:Nat) (E:Sp.Ev):Prop where
 c0:w.cell? ⟨S,0,none⟩=some (.int .i64 E.value)
 c1:w.cell? ⟨S,1,none⟩=some (.int .i64 E.inn)
 c2:w.cell? ⟨S,2,none⟩=some (.int .i64 E.got)
 c3:w.cell? ⟨S,3,none⟩=some (.int .i64 E.step)
 c4:w.cell? ⟨S,4,none⟩=some (.int .i64 E.id)
 c5:w.cell? ⟨S,5,none⟩=some (.int .i64 E.deg)
 c6:w.cell? ⟨S,6,none⟩=some (.int .i64 E.all)
 c7:w.cell? ⟨S,7,none⟩=some (.int .i64 E.old)
 c8:w.cell? ⟨S,8,none⟩=some (.int .i64 E.weight)
 fz:∀ j,w.frozen? ⟨S,j,none⟩=false
theorem SightAt.lt {w:World} {S:Nat} {E:Sp.Ev} (h:SightAt w S E):S < w.heap.size:=World.block_lt_of_cell? w _ h.c0
theorem SightAt.far {w w':World} {S:Nat} {E:Sp.Ev} (h:SightAt w S E) (hc:∀ j,w'.cell? ⟨S,j,none⟩=w.cell? ⟨S,j,none⟩) (hf:∀ j,w'.frozen? ⟨S,j,none⟩=w.frozen? ⟨S,j,none⟩):SightAt w' S E :=
 ⟨(hc _).trans h.c0,(hc _).trans h.c1,(hc _).trans h.c2,(hc _).trans h.c3,(hc _).trans h.c4,(hc _).trans h.c5,(hc _).trans h.c6,(hc _).trans h.c7,(hc _).trans h.c8,fun j=>(hf j).trans (h.fz j)⟩
theorem SightAt.below {w w':World} {S:Nat} {E:Sp.Ev} (h:SightAt w S E) (hb:Below w.heap.size w w'):SightAt w' S E :=
 h.far (fun j=>hb.cell (p:=⟨S,j,none⟩) h.lt) (fun j=>hb.frozen (p:=⟨S,j,none⟩) h.lt)
theorem SightAt.new {w:World} {S t:Nat} {E:Sp.Ev} (h:w.heap[S]? = some (.cells (sightA E) t)):SightAt w S E :=
 ⟨by simp[World.cell?,h,sightA],by simp[World.cell?,h,sightA],by simp[World.cell?,h,sightA],by simp[World.cell?,h,sightA],by simp[World.cell?,h,sightA],by simp[World.cell?,h,sightA],by simp[World.cell?,h,sightA],by simp[World.cell?,h,sightA],by simp[World.cell?,h,sightA],fun j=>by simp[World.frozen?,h]⟩
theorem SightAt.setW {w:World} {S:Nat} {E:Sp.Ev} (h:SightAt w S E) (v:Int):SightAt (w.setCell ⟨S,8,none⟩ (.int .i64 v)) S (E.setW v):=by
 have ho:∀ j,j≠8→(w.setCell ⟨S,8,none⟩ (.int .i64 v)).cell? ⟨S,j,none⟩=w.cell? ⟨S,j,none⟩:=fun j hj=>cso (by omega)
 exact⟨(ho _ (by omega)).trans h.c0,(ho _ (by omega)).trans h.c1,(ho _ (by omega)).trans h.c2,(ho _ (by omega)).trans h.c3,(ho _ (by omega)).trans h.c4,(ho _ (by omega)).trans h.c5,(ho _ (by omega)).trans h.c6,(ho _ (by omega)).trans h.c7,World.cell?_setCell_same _ _ _ h.c8,fun j=>(World.frozen?_setCell _ _ _ _).trans (h.fz j)⟩
def MsPost (o:Option (List (Nat × Int))) (z f:Addr) (w:World) (e:Ending) (w':World):Prop :=
 Below w.heap.size w w'∧match o with
  | some l=>∃ v,e = .returned v∧w'.ownsRow w.heap.size 2 1 v l.length (l.map fun m=>Value.int .i64 m.2)
  | none=>Gave z f e
structure MsInv (L:List (List UInt8)) (E:Sp.Ev) (Es:List Sp.Ed) (w wr:World) (k:Nat) (l:List (Nat × Int)) (v:Value):Prop where
 ms:Sp.msgs L E (Es.take k)=some l
 si:∃ q,SightAt wr w.heap.size (E.setW q)
 row:wr.ownsRow (w.heap.size+1) 2 1 v l.length (l.map fun m=>Value.int .i64 m.2)
 bel:Below w.heap.size w wr
theorem msgs_take {L:List (List UInt8)} {E:Sp.Ev} {Es:List Sp.Ed} {k:Nat} (hk:k < Es.length) {l:List (Nat × Int)} (h:Sp.msgs L E (Es.take k)=some l):Sp.msgs L E (Es.take (k+1))=match Sp.ev L (E.setW Es[k].n) with
  | none=>none
  | some m=>some (l++[(Es[k].to,m)]):=by
 rw[List.take_succ_eq_append_getElem hk,Sp.msgs_append,h]
 simp only[Sp.msgs]
 cases Sp.ev L (E.setW Es[k].n) <;> rfl
theorem msgs_none {L:List (List UInt8)} {E:Sp.Ev} {Es:List Sp.Ed} {k:Nat} (h:Sp.msgs L E (Es.take k)=none):Sp.msgs L E Es=none:=by
 rw[← List.take_append_drop k Es,Sp.msgs_append,h]
theorem gave_panic {z f:Addr} {e:Ending} (h:Gave z f e):∃ ch,e = .panicked ch:=by
 rcases h with rfl | rfl <;> exact⟨_,rfl⟩
theorem messages_any (B:Nat) (P:Sp.Pg) (E:Sp.Ev) (Es:List Sp.Ed) (pe:Option Addr) (cap:Nat) (z f:Addr) (w:World) (hp:PrgAt w B P) (he:Errs w z f) (hE:Sp.EvOk E) (hes:EdgesAt w pe Es) (hn:∀ x ∈ Es,Sp.i64 x.n) (hl:Es.length≤1000) :
  Calls Tryz.prog 128 #[.pointer (some ⟨B,0,none⟩),sightV E,.slice pe Es.length cap] w (MsPost (Sp.msgs (P.code 2) E Es) z f w):=by
 obtain⟨t2,ht2,hva,hvb,hvc⟩:=info_parts Tryz.info_i64
 obtain⟨g,ccap,hc8,hcw⟩:=hp.code 2 (by omega)
 have hBl:=hp.lt
 have HW:=hde (And.intro hcw (And.intro he (And.intro hE hn)))
 have HES:=hde hes
 generalize hO:MsPost (Sp.msgs (P.code 2) E Es) z f w=O
 replace hO:=hde hO
 generalize hL:P.code 2=L at *
 replace hL:=hde hL
 clear hp hcw he hE hes hn
 have HI0:Hid (MsInv L E Es w (w.alloc (.cells (sightA E) 184)) 0 [] (.slice none 0 0)):=
  ⟨rfl,⟨E.weight,SightAt.new (E:=E) (heap_alloc_new w _)⟩,World.ownsRow_nil _ _ _ _,(Below.refl _ _).alloc nlr _⟩
 unfold sightV
 go_enter Tryz.func128,Tryz.ntmps128
 go_wp2_with fail
 go_loopw [7,12] (fun vv i wr=>∃ (k:Nat) (l:List (Nat × Int)) (v:Value),k≤Es.length∧i = .int .i64 k∧vv=v∧Hid (MsInv L E Es w wr k l v)) (fun _ i _=>Es.length - (intOf i).toNat)
 case atStart=>exact⟨0,[],_,Nat.zero_le _,rfl,rfl,HI0⟩
 case round =>
  clear HI0
  obtain⟨k,l,v,hk,rfl,hvv,HI⟩:=hrel
  obtain rfl:=hvv.symm
  clear hvv
  by_cases hlt:k < Es.length
  ·have hltz:(k:Int) < (Es.length:Int):=by omega
   have g0:(0:Int)≤(k:Int):=Int.natCast_nonneg _
   have hbw:=(uh HI).bel
   obtain⟨ge,rfl,hge,d0,d1,d2⟩:=(uh HES) k hlt
   have c0:wr.cell? ⟨ge,k * 3,none⟩=some (.int .i64 (Es[k].frm:Int)):=(hbw.cell (p:=⟨ge,k * 3,none⟩) hge).trans d0
   have c1:wr.cell? ⟨ge,k * 3+1,none⟩=some (.int .i64 (Es[k].to:Int)):=(hbw.cell (p:=⟨ge,k * 3+1,none⟩) hge).trans d1
   have c2:wr.cell? ⟨ge,k * 3+2,none⟩=some (.int .i64 Es[k].n):=(hbw.cell (p:=⟨ge,k * 3+2,none⟩) hge).trans d2
   obtain⟨q,hsi⟩:=(uh HI).si
   have s8:=hsi.c8
   have sf:=hsi.fz 8
   have hS:=hsi.lt
   have hll:l.length=k:=by have:=Sp.msgs_len (uh HI).ms;rw[List.length_take] at this;omega
   obtain⟨x,hx⟩:∃ x,Es[k]=x:=⟨_,rfl⟩
   rw[hx] at c0 c1 c2
   have HX:=hde hx
   clear d0 d1 d2 hx
   have hW1:Hid (∀ W,W=(wr.setCell ⟨w.heap.size,8,none⟩ (.int .i64 x.n)).alloc (.cells #[.int .i64 (x.frm:Int),.int .i64 (x.to:Int),.int .i64 x.n] 67)→SightAt W w.heap.size (E.setW x.n)∧W.ownsRow (w.heap.size+1) 2 1 v k (l.map fun m=>Value.int .i64 m.2)∧Below w.heap.size w W):=by
    show ∀ W,_
    rintro W rfl
    have hA:Below (wr.setCell ⟨w.heap.size,8,none⟩ (.int .i64 x.n)).heap.size (wr.setCell ⟨w.heap.size,8,none⟩ (.int .i64 x.n)) ((wr.setCell ⟨w.heap.size,8,none⟩ (.int .i64 x.n)).alloc (.cells #[.int .i64 (x.frm:Int),.int .i64 (x.to:Int),.int .i64 x.n] 67)):=(Below.refl _ _).alloc nlr _
    have hb1:Below w.heap.size w (wr.setCell ⟨w.heap.size,8,none⟩ (.int .i64 x.n)):=hbw.setCell (p:=⟨w.heap.size,8,none⟩) nlr _
    refine⟨(hsi.setW x.n).below hA,?_,hb1.trans (hA.mono hb1.size)⟩
    have:=(uh HI).row
    rw[hll] at this
    exact obl (((Only.refl _ _).set _ _).own this) hA
   go_upto_region 6 with fail
   generalize hW:World.alloc _ _=W
   obtain⟨hs,hr,hbW⟩:=uh hW1 W hW.symm
   clear hW hW1 hsi c0 c1 c2 s8 sf
   have y0:=hs.c0
   have y1:=hs.c1
   have y2:=hs.c2
   have y3:=hs.c3
   have y4:=hs.c4
   have y5:=hs.c5
   have y6:=hs.c6
   have y7:=hs.c7
   have y8:=hs.c8
   have hcW:=(hbW.cell (p:=⟨B,8,none⟩) hBl).trans hc8
   have hSW:=hs.lt
   have hv8:=uh HW
   have hxn:Sp.i64 x.n:=by rw[← uh HX];exact hv8.2.2.2 _ (List.getElem_mem hlt)
   have hbd:Below W.heap.size W W.drew:=(Below.refl _ _).drew
   have hcw2:CodeW W.drew g L:=(hv8.1.below (hbW)).below hbd
   have her2:Errs W.drew z f:=(hv8.2.1.below hbW).below hbd
   have HA:Hid (Calls Tryz.prog 127 #[.slice (some ⟨g,0,none⟩) L.length ccap,sightV (E.setW x.n)] W.drew (APost (Sp.ev L (E.setW x.n)) z f W.drew)):=answer_any L (E.setW x.n) (hv8.2.2.1.setW hxn) g ccap z f W.drew hcw2 her2
   have HEN:Hid (∀ (args:Array Value) (w:World),(callFunc 127 args).run Tryz.prog w = .ok (.enter 127 args) w):=cfe Tryz.func127 (by kernel_rfl) (by kernel_rfl)
   clear hcw2 her2 hv8
   have hmt:=msgs_take hlt (uh HI).ms
   rw[uh HX] at hmt
   cases hev:Sp.ev L (E.setW x.n) with
   | none =>
    rw[hev] at HA hmt
    have HF:Hid (∀ e w',Below W.heap.size W.drew w'→Gave z f e→O e w'):=by
     show ∀ e w',_
     intro e w' hb' hgv
     rw[← uh hO,msgs_none hmt]
     exact⟨hbW.trans ((hbd.trans hb').mono hbW.size),hgv⟩
    clear hmt hev hs hr hbW hbd
    go_region_with (refine(uh HA).mono ?_;rintro e w1 ⟨hb1,hgv⟩;obtain⟨ch,rfl⟩:=gave_panic hgv;refine dead_end Tryz.prog w1 ⟨rfl,uh HF _ w1 (hb1.mono nlr) hgv⟩ ?_)
    all_goals trivial
   | some m =>
    rw[hev] at HA hmt
    have HN:Hid (∀ w' v',Below w.heap.size w w'→SightAt w' w.heap.size (E.setW x.n)→w'.ownsRow (w.heap.size+1) 2 1 v' (k+1) ((l.map fun m=>Value.int .i64 m.2)++[.int .i64 m])→MsInv L E Es w w' (k+1) (l++[(x.to,m)]) v'):=by
     show ∀ w' v',_
     intro w' v' hb' hs' hr'
     refine⟨hmt,⟨_,hs'⟩,?_,hb'⟩
     rw[List.length_append,hll]
     simpa using hr'
    clear hmt hev
    go_region_law (first
     | (refine step_call (by rfl) _ _ _ (by rfl) 127 (by rfl) _ (by rfl) (uh HEN) (uh HA) ?_;rintro e w1 ⟨hb1,rfl⟩;dsimp only)
     | (refine step_append_lies _ (by rfl) _ _ _ (by rfl) (w.heap.size+1) 2 t2 _ 1 8 Tryz.underlying42 ht2 hva hvb hvc rfl (by omega) v _ _ (by rfl) ((obl hr (hbd.trans (hb1.mono nlr))).alloc _) ⟨w1.heap.size,0,none⟩ 1 1 [.int .i64 m] (by rfl) (by rfl) (World.news_of_block (cs := #[.int .i64 m]) (t:=2) (fr:=(0,0)) (heap_alloc_new w1 _)) (by simp[Value.oneCell']) (by omega) (by unfold maxLen;omega) (by omega) (by have:=hb1.size;simp at this ⊢;omega) (w1.heap.size+1) (by simp) ?_;intro gg cp w2 hown1 hgrow hat hlt1))
    all_goals
     have hbW1:Below w.heap.size w w1:=hbW.trans ((hbd.trans (hb1.mono nlr)).mono hbW.size)
     have hs1:SightAt w1 w.heap.size (E.setW x.n):=hs.below (hbd.trans (hb1.mono nlr))
     have hr1:=obl hr (hbd.trans (hb1.mono nlr))
     have hne:some w.heap.size≠v.ownBlock:=fun e=>by have:=(hr.lt _ e.symm).1;omega
     have hA1:Below w1.heap.size w1 (w1.alloc (.cells #[.int .i64 m] 2)):=(Below.refl _ _).alloc nlr _
     have hs2:SightAt w2 w.heap.size (E.setW x.n):=(hs1.below hA1).far (fun j=>hgrow.cell_far ⟨w.heap.size,j,none⟩ (by have:=hs1.lt;simp;omega) hne) (fun j=>hgrow.frozen_far ⟨w.heap.size,j,none⟩ (by have:=hs1.lt;simp;omega) hne)
     have hb2:Below w.heap.size w w2:=(hbW1.alloc hbW1.size _).grown hgrow (by have:=hbW1.size;simp;omega) (fun j hj=>by have:=(hr.lt j hj).1;omega)
     have HI2:=hde (uh HN w2 _ hb2 hs2 hown1)
     clear hbW1 hs1 hr1 hne hA1 hs2 hb2 hown1 hgrow hat hlt1 hb1 hs hr hbW hbd
     go_wp2
     go_roundw
     case rel=>exact⟨k+1,_,_,by omega,by go_num,rfl,HI2⟩
     case measure=>simp[intOf];omega
  ·have hltz:¬ (k:Int) < (Es.length:Int):=by omega
   obtain rfl:k=Es.length:=by omega
   have HF:Hid (O (.returned v) wr):=by
    show O _ _
    have hI:=uh HI
    have hms:=hI.ms
    rw[List.take_length] at hms
    rw[← uh hO,hms]
    exact⟨hI.bel,v,rfl,own_low hI.row (Nat.le_succ _)⟩
   go_wp2
   exact uh HF
theorem ptr_info:∃ i j,Tryz.prog.info? 484=some i∧i.comparable=true∧Tryz.prog.info? 509=some j∧j.size≠0:=by
 refine⟨_,_,rfl,by kernel_rfl,rfl,?_⟩
 exact of_decide_eq_true (by kernel_rfl)
theorem eql_same (a:Addr) (w:World):(binOp .eql 20 (.iface 484 (.pointer (some a))) (.iface 484 (.pointer (some a)))).run Tryz.prog w = .ok (.bool true) w:=by
 obtain⟨i,j,h1,h2,h3,h4⟩:=ptr_info
 exact run_eql_iface_ptr_same w a Tryz.underlying20 Tryz.underlying484 h1 h2 h3
theorem eql_other {z f:Addr} {w:World} (h:Errs w z f):(binOp .eql 20 (.iface 484 (.pointer (some f))) (.iface 484 (.pointer (some z)))).run Tryz.prog w = .ok (.bool false) w:=by
 obtain⟨i,j,k1,k2,k3,k4⟩:=ptr_info
 obtain⟨c,t,h1⟩:=h.bz
 obtain⟨c2,t2,h2⟩:=h.bf
 exact run_eql_iface_ptr_other w Tryz.underlying20 Tryz.underlying484 k1 k2 k3 k4 (fun e=>h.ne e.symm) h2 h1
theorem eql_nil (tp:TypeId) (v:Value) (w:World):(binOp .eql 20 (.iface tp v) .nilIface).run Tryz.prog w = .ok (.bool false) w:=by
 have h:∀ d:Nat,(Op.equalIn (d+1) 20 (.iface tp v) .nilIface).run Tryz.prog w = .ok false w:=fun d=>by simp[Op.equalIn,run_underlying Tryz.underlying20]
 simp only[binOp]
 simp[Op.equal,Op.maxDepth,h 9999]
theorem tcatch_idle (p q:Addr) (w:World) :
  CallsD Tryz.prog 126 #[.pointer (some p),.pointer (some q)] .returning w fun e u' w'=>e = .returned (.tuple #[])∧u' = .returning∧w'=w:=by
 refine callsD_of_wpS Tryz.func126 rfl fun c₀ cs hu=>?_
 apply wpS_seq
 apply wpS_region
 simp[wpOpsS,go_sem,recoverD,hu,Tryz.ntmps126,Exit.thenS]
 refine wpS_of_wp ?_
 go_wp2
 cases c₀
 simp_all [bodyPostS,results,Tryz.results126]
def caught (w:World) (T K:Nat):World:=((((w.setCell ⟨T,0,none⟩ (.int .i64 0)).setCell ⟨T,1,none⟩ (.slice none 0 0)).setCell ⟨T,2,none⟩ (.bool false)).setCell ⟨T,3,none⟩ (.int .i64 0)).setCell ⟨K,0,none⟩ (.bool false)
structure TurnAt (w:World) (T K:Nat) (a:Int) (b:Value) (c:Bool) (d:Int) (k:Bool):Prop where
 c0:w.cell? ⟨T,0,none⟩=some (.int .i64 a)
 c1:w.cell? ⟨T,1,none⟩=some b
 c2:w.cell? ⟨T,2,none⟩=some (.bool c)
 c3:w.cell? ⟨T,3,none⟩=some (.int .i64 d)
 ck:w.cell? ⟨K,0,none⟩=some (.bool k)
 fz:∀ j,w.frozen? ⟨T,j,none⟩=false
 fk:w.frozen? ⟨K,0,none⟩=false
 ne:T≠K
theorem tcatch_zero (T K:Nat) (z f:Addr) (a d:Int) (b:Value) (c k:Bool) (w:World) (h:TurnAt w T K a b c d k) (he:Errs w z f) :
  CallsD Tryz.prog 126 #[.pointer (some ⟨T,0,none⟩),.pointer (some ⟨K,0,none⟩)] (.panicking ({ v := .iface 484 (.pointer (some z)),recovered:=false } :: [])) w fun e u' w' =>
   e = .returned (.tuple #[])∧u' = .panicking ({ v := .iface 484 (.pointer (some z)),recovered:=true } :: [])∧w'=caught w T K:=by
 have cz:=he.cz
 have h1:=eql_same z w
 have h0:=eql_nil 484 (.pointer (some z)) w
 obtain⟨c0,c1,c2,c3,ck,fz,fk,ne⟩:=h
 have f0:=fz 0
 have f1:=fz 1
 have f2:=fz 2
 have f3:=fz 3
 clear he
 refine callsD_of_wpS Tryz.func126 rfl fun c₀ cs hu=>?_
 apply wpS_seq
 apply wpS_region
 simp[wpOpsS,go_sem,recoverD,hu,Tryz.ntmps126,Exit.thenS]
 refine wpS_of_wp ?_
 show Code.wp _ _ _ { tmps := #[.pointer (some ⟨T,0,none⟩),.pointer (some ⟨K,0,none⟩),.iface 484 (.pointer (some z)),.iface 484 (.pointer (some z)),undef,undef,undef,undef,undef,undef,undef,undef,undef,undef],defers:=[] } w
 go_wp2
 cases c₀
 refine⟨rfl,_,?_,.tuple #[],by simp[results,Tryz.results126,go_sem],rfl,rfl,rfl⟩
 simp_all
theorem tcatch_fuel (T K:Nat) (z f:Addr) (a d:Int) (b:Value) (c k:Bool) (w:World) (h:TurnAt w T K a b c d k) (he:Errs w z f) :
  CallsD Tryz.prog 126 #[.pointer (some ⟨T,0,none⟩),.pointer (some ⟨K,0,none⟩)] (.panicking ({ v := .iface 484 (.pointer (some f)),recovered:=false } :: [])) w fun e u' w' =>
   e = .returned (.tuple #[])∧u' = .panicking ({ v := .iface 484 (.pointer (some f)),recovered:=true } :: [])∧w'=caught w T K:=by
 have cz:=he.cz
 have cf:=he.cf
 have h1:=eql_same f w
 have h0:=eql_nil 484 (.pointer (some f)) w
 have h2:=eql_other he
 obtain⟨c0,c1,c2,c3,ck,fz,fk,ne⟩:=h
 have f0:=fz 0
 have f1:=fz 1
 have f2:=fz 2
 have f3:=fz 3
 clear he
 refine callsD_of_wpS Tryz.func126 rfl fun c₀ cs hu=>?_
 apply wpS_seq
 apply wpS_region
 simp[wpOpsS,go_sem,recoverD,hu,Tryz.ntmps126,Exit.thenS]
 refine wpS_of_wp ?_
 show Code.wp _ _ _ { tmps := #[.pointer (some ⟨T,0,none⟩),.pointer (some ⟨K,0,none⟩),.iface 484 (.pointer (some f)),.iface 484 (.pointer (some f)),undef,undef,undef,undef,undef,undef,undef,undef,undef,undef],defers:=[] } w
 go_wp2
 cases c₀
 refine⟨rfl,_,?_,.tuple #[],by simp[results,Tryz.results126,go_sem],rfl,rfl,rfl⟩
 simp_all
end Go.Proofs.YteflnddphpjahaaGreatDoor
