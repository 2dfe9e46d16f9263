import Derived.Test.YteflnddphpjahaaGreatDoorCmPlAtoRefA
import Derived.Test.YteflnddphpjahaaGreatDoorCmSrtAtoCqD
import Derived.BigRegion
import Derived.Deep.RegionHeld3
import Derived.Deep.DeepMust
import Derived.Test.YteflnddphpjahaaGreatDoorCmTabCtoGatB
set_option linter.unusedVariables false
set_option linter.unusedSimpArgs false
set_option maxRecDepth 100000
set_option maxHeartbeats 16000000
namespace Go.Proofs.YteflnddphpjahaaGreatDoor.Sp
open Go
def rlx (d:Nat→Int) (v:Nat):List Ed→Int→Int
 | [],m=>m
 | e :: r,m=>rlx d v r (if e.to=v∧d e.frm < 1000000000∧d e.frm+e.n < m then d e.frm+e.n else m)
theorem rlx_le {d:Nat→Int} {v:Nat}:∀ (Es:List Ed) (m:Int),rlx d v Es m≤m:=by
 intro Es
 induction Es with
 | nil=>intro m;exact Int.le_refl _
 | cons e r ih =>
  intro m
  have h:=ih (if e.to=v∧d e.frm < 1000000000∧d e.frm+e.n < m then d e.frm+e.n else m)
  simp only[rlx]
  split at h <;> rename_i c
  ·rw[if_pos c];omega
  ·rw[if_neg c];exact h
theorem rlx_ed {d:Nat→Int} {v:Nat}:∀ (Es:List Ed) (m:Int) (e:Ed),e ∈ Es→e.to=v→d e.frm < 1000000000→rlx d v Es m≤d e.frm+e.n:=by
 intro Es
 induction Es with
 | nil=>intro m e h;cases h
 | cons x r ih =>
  intro m e h h1 h2
  rcases List.mem_cons.1 h with rfl | h
  ·simp only[rlx]
   have h3:=rlx_le (d:=d) (v:=v) r (if e.to=v∧d e.frm < 1000000000∧d e.frm+e.n < m then d e.frm+e.n else m)
   by_cases c:e.to=v∧d e.frm < 1000000000∧d e.frm+e.n < m
   ·rw[if_pos c] at h3 ⊢;exact h3
   ·rw[if_neg c] at h3 ⊢
    have:¬ d e.frm+e.n < m:=fun h4=>c ⟨h1,h2,h4⟩
    omega
  ·exact ih _ e h h1 h2
theorem rlx_or {d:Nat→Int} {v:Nat}:∀ (Es:List Ed) (m:Int),rlx d v Es m=m∨∃ e,e ∈ Es∧e.to=v∧d e.frm < 1000000000∧rlx d v Es m=d e.frm+e.n:=by
 intro Es
 induction Es with
 | nil=>intro m;exact Or.inl rfl
 | cons x r ih =>
  intro m
  simp only[rlx]
  by_cases c:x.to=v∧d x.frm < 1000000000∧d x.frm+x.n < m
  ·rw[if_pos c]
   rcases ih (d x.frm+x.n) with h | ⟨e,h1,h2,h3,h4⟩
   ·exact Or.inr ⟨x,List.mem_cons_self ..,c.1,c.2.1,h⟩
   ·exact Or.inr ⟨e,List.mem_cons_of_mem _ h1,h2,h3,h4⟩
  ·rw[if_neg c]
   rcases ih m with h | ⟨e,h1,h2,h3,h4⟩
   ·exact Or.inl h
   ·exact Or.inr ⟨e,List.mem_cons_of_mem _ h1,h2,h3,h4⟩
def dk (Es:List Ed):Nat→Nat→Int
 | 0,v=>if v=0 then 0 else 1000000000
 | k+1,v=>rlx (dk Es k) v Es (dk Es k v)
structure EdOk (Es:List Ed) (n:Nat):Prop where
 b:∀ e ∈ Es,e.frm < n∧e.to < n∧0≤e.n∧e.n≤1000
section
variable {Es:List Ed}
theorem dk_le (k v:Nat):dk Es (k+1) v≤dk Es k v:=rlx_le Es _
theorem dk_ed (k:Nat) (e:Ed) (h:e ∈ Es) (h1:dk Es k e.frm < 1000000000):dk Es (k+1) e.to≤dk Es k e.frm+e.n:=rlx_ed Es _ e h rfl h1
theorem dk_or (k v:Nat):dk Es (k+1) v=dk Es k v∨∃ e,e ∈ Es∧e.to=v∧dk Es k e.frm < 1000000000∧dk Es (k+1) v=dk Es k e.frm+e.n:=rlx_or Es _
theorem dk_far (k v:Nat):dk Es k v≤1000000000:=by
 induction k with
 | zero=>simp only[dk];split <;> omega
 | succ k ih=>exact Int.le_trans (dk_le k v) ih
theorem dk_nn {n:Nat} (hE:EdOk Es n):∀ (k v:Nat),0≤dk Es k v:=by
 intro k
 induction k with
 | zero=>intro v;simp only[dk];split <;> omega
 | succ k ih =>
  intro v
  rcases dk_or (Es:=Es) k v with h | ⟨e,h1,h2,h3,h4⟩
  ·rw[h];exact ih v
  ·rw[h4];have:=ih e.frm;have:=(hE.b e h1).2.2.1;omega
def chg (Es:List Ed):Nat→Nat→Prop
 | 0,v=>v=0
 | k+1,v=>dk Es (k+1) v < dk Es k v
theorem chg_far {k v:Nat} (h:chg Es k v):dk Es k v < 1000000000:=by
 cases k with
 | zero=>simp only[chg] at h;subst h;simp[dk]
 | succ k=>have:=dk_far (Es:=Es) k v;simp only[chg] at h;omega
theorem chg_from {k v:Nat} (h:chg Es (k+1) v):∃ e,e ∈ Es∧e.to=v∧chg Es k e.frm∧dk Es (k+1) v=dk Es k e.frm+e.n:=by
 simp only[chg] at h
 rcases dk_or (Es:=Es) k v with h1 | ⟨e,h1,h2,h3,h4⟩
 ·omega
 ·refine⟨e,h1,h2,?_,h4⟩
  cases k with
  | zero =>
   simp only[chg]
   simp only[dk] at h3
   apply Decidable.byContradiction
   intro hn
   rw[if_neg hn] at h3
   omega
  | succ k =>
   simp only[chg]
   apply Decidable.byContradiction
   intro hn
   have h5:=dk_le (Es:=Es) k e.frm
   have h6:dk Es (k+1) e.frm=dk Es k e.frm:=by omega
   have h7:=dk_ed k e h1 (by omega)
   rw[h2] at h7
   omega
theorem nodup_len:∀ (n:Nat) (l:List Nat),l.Nodup→(∀ x ∈ l,x < n)→l.length≤n:=by
 intro n
 induction n with
 | zero =>
  intro l _ h
  cases l with
  | nil=>simp
  | cons x r=>have:=h x (List.mem_cons_self ..);omega
 | succ n ih =>
  intro l hd h
  by_cases hm:n ∈ l
  ·have h1:=ih (l.erase n) (hd.erase n) (fun x hx=>by
    have h2:=(hd.mem_erase_iff).1 hx
    have:=h x h2.2
    have:=h2.1
    omega)
   rw[List.length_erase_of_mem hm] at h1
   omega
  ·have h1:=ih l hd (fun x hx=>by
    have:=h x hx
    have:x≠n:=fun e=>hm (by rw[← e];exact hx)
    omega)
   omega
theorem chg_list {n:Nat} (hE:EdOk Es n) (hn:0 < n):∀ (k v:Nat),chg Es k v→∃ l:List Nat,(v :: l).Nodup∧l.length=k∧(∀ x ∈ v :: l,x < n)∧∀ x ∈ l,dk Es (k - 1) x≤dk Es k v:=by
 intro k
 induction k with
 | zero =>
  intro v h
  simp only[chg] at h
  subst h
  exact⟨[],by simp,rfl,by simpa using hn,by simp⟩
 | succ k ih =>
  intro v h
  obtain⟨e,h1,h2,h3,h4⟩:=chg_from h
  simp only[chg] at h
  obtain⟨l,g1,g2,g3,g4⟩:=ih e.frm h3
  have hb:=hE.b e h1
  have hall:∀ x ∈ e.frm :: l,dk Es k x≤dk Es (k+1) v:=by
   intro x hx
   rcases List.mem_cons.1 hx with rfl | hx
   ·omega
   ·have g5:=g4 x hx
    cases k with
    | zero=>rw[List.length_eq_zero_iff.1 g2] at hx;cases hx
    | succ k =>
     have g6:=dk_le (Es:=Es) k x
     simp only[Nat.add_sub_cancel] at g5
     omega
  refine⟨e.frm :: l,List.nodup_cons.2 ⟨fun hm=>?_,g1⟩,by simp[g2],fun x hx=>?_,hall⟩
  ·have:=hall v hm
   omega
  ·rcases List.mem_cons.1 hx with rfl | hx
   ·omega
   ·exact g3 x hx
theorem chg_lt {n:Nat} (hE:EdOk Es n) (hn:0 < n) {k v:Nat} (h:chg Es k v):k < n:=by
 obtain⟨l,g1,g2,g3,_⟩:=chg_list hE hn k v h
 have:=nodup_len n (v :: l) g1 g3
 simp only[List.length_cons] at this
 omega
theorem dk_stay {k:Nat} (h:∀ v,dk Es (k+1) v=dk Es k v):∀ j,dk Es (k+j)=dk Es k:=by
 intro j
 induction j with
 | zero=>rfl
 | succ j ih =>
  funext v
  show rlx (dk Es (k+j)) v Es (dk Es (k+j) v)=_
  rw[ih]
  exact h v
theorem dk_end {n:Nat} (hE:EdOk Es n) (hn:0 < n) {k:Nat} (h:∀ v,¬ chg Es (k+1) v):dk Es k=dk Es n:=by
 have h0:∀ k,(∀ v,¬ chg Es (k+1) v)→∀ v,dk Es (k+1) v=dk Es k v:=fun k hk v=>by
  have:=hk v
  simp only[chg] at this
  have:=dk_le (Es:=Es) k v
  omega
 by_cases c:k≤n
 ·have:=dk_stay (h0 k h) (n - k)
  rw[show k+(n - k)=n by omega] at this
  exact this.symm
 ·have:=dk_stay (h0 n (fun v hc=>by have:=chg_lt hE hn hc;omega)) (k - n)
  rw[show n+(k - n)=k by omega] at this
  exact this
theorem dk_fix {n:Nat} (hE:EdOk Es n) (hn:0 < n) (e:Ed) (h:e ∈ Es) (h1:dk Es n e.frm < 1000000000):dk Es n e.to≤dk Es n e.frm+e.n:=by
 have h2:=dk_ed n e h h1
 have h3:=dk_stay (Es:=Es) (k:=n) (fun v=>by
  have h4:¬ chg Es (n+1) v:=fun hc=>by have:=chg_lt hE hn hc;omega
  simp only[chg] at h4
  have:=dk_le (Es:=Es) n v
  omega) 1
 rw[h3] at h2
 exact h2
end
def upd (b:Nat→Int) (v:Nat) (x:Int):Nat→Int:=fun i=>if i=v then x else b i
def ps1 (b:Nat→Int) (e:Ed):Nat→Int:=if b e.frm < 1000000000∧b e.frm+e.n < b e.to then upd b e.to (b e.frm+e.n) else b
def psL (b:Nat→Int) (R:List Ed):Nat→Int:=R.foldl ps1 b
def psN (R:List Ed):Nat→Nat→Int
 | 0=>fun v=>if v=0 then 0 else 1000000000
 | k+1=>psL (psN R k) R
theorem ps1_le (b:Nat→Int) (e:Ed) (v:Nat):ps1 b e v≤b v:=by
 unfold ps1
 split
 ·rename_i c
  unfold upd
  split
  ·rename_i h;rw[h];omega
  ·exact Int.le_refl _
 ·exact Int.le_refl _
theorem psL_le:∀ (R:List Ed) (b:Nat→Int) (v:Nat),psL b R v≤b v:=by
 intro R
 induction R with
 | nil=>intro b v;exact Int.le_refl _
 | cons e r ih=>intro b v;exact Int.le_trans (ih (ps1 b e) v) (ps1_le b e v)
theorem ps1_ed (b:Nat→Int) (e:Ed) (h:b e.frm < 1000000000):ps1 b e e.to≤b e.frm+e.n:=by
 unfold ps1
 split
 ·unfold upd;rw[if_pos rfl];exact Int.le_refl _
 ·rename_i c
  have:¬ b e.frm+e.n < b e.to:=fun h4=>c ⟨h,h4⟩
  omega
theorem psL_ed:∀ (R:List Ed) (b:Nat→Int) (e:Ed),e ∈ R→b e.frm < 1000000000→psL b R e.to≤b e.frm+e.n:=by
 intro R
 induction R with
 | nil=>intro b e h;cases h
 | cons x r ih =>
  intro b e h h1
  rcases List.mem_cons.1 h with rfl | h
  ·exact Int.le_trans (psL_le r (ps1 b e) e.to) (ps1_ed b e h1)
  ·have h2:=ps1_le b x e.frm
   have h3:=ih (ps1 b x) e h (by omega)
   have h4:psL b (x :: r) e.to=psL (ps1 b x) r e.to:=rfl
   omega
theorem ps1_lo {F b:Nat→Int} {e:Ed} (h:F e.frm < 1000000000→F e.to≤F e.frm+e.n) (hb:∀ v,F v≤b v) (v:Nat):F v≤ps1 b e v:=by
 unfold ps1
 split
 ·rename_i c
  unfold upd
  split
  ·rename_i hv
   rw[hv]
   have h1:=hb e.frm
   have h2:=h (by omega)
   omega
  ·exact hb v
 ·exact hb v
theorem psL_lo {F:Nat→Int}:∀ (R:List Ed) (b:Nat→Int),(∀ e ∈ R,F e.frm < 1000000000→F e.to≤F e.frm+e.n)→(∀ v,F v≤b v)→∀ v,F v≤psL b R v:=by
 intro R
 induction R with
 | nil=>intro b _ hb v;exact hb v
 | cons e r ih =>
  intro b h hb v
  exact ih (ps1 b e) (fun x hx=>h x (List.mem_cons_of_mem _ hx)) (fun u=>ps1_lo (h e (List.mem_cons_self ..)) hb u) v
theorem psN_eq {Es R:List Ed} {n:Nat} (hE:EdOk Es n) (hn:0 < n) (hm:∀ e,e ∈ Es↔e ∈ R) (v:Nat):psN R n v=dk Es n v:=by
 have hup:∀ k v,psN R k v≤dk Es k v:=by
  intro k
  induction k with
  | zero=>intro v;exact Int.le_refl _
  | succ k ih =>
   intro v
   rcases dk_or (Es:=Es) k v with h | ⟨e,h1,h2,h3,h4⟩
   ·rw[h];exact Int.le_trans (psL_le R (psN R k) v) (ih v)
   ·have h5:=ih e.frm
    have h6:=psL_ed R (psN R k) e ((hm e).1 h1) (by omega)
    rw[h2] at h6
    rw[h4]
    show psL (psN R k) R v≤_
    omega
 have hdn:∀ k v,dk Es n v≤psN R k v:=by
  intro k
  induction k with
  | zero =>
   intro v
   have h:∀ j,dk Es j v≤dk Es 0 v:=by
    intro j
    induction j with
    | zero=>exact Int.le_refl _
    | succ j ih=>exact Int.le_trans (dk_le j v) ih
   exact h n
  | succ k ih =>
   intro v
   exact psL_lo R _ (fun e he h=>dk_fix hE hn e ((hm e).2 he) h) ih v
 have:=hup n v
 have:=hdn n v
 omega
end Go.Proofs.YteflnddphpjahaaGreatDoor.Sp
namespace Go.Proofs.YteflnddphpjahaaGreatDoor
open Go.RowKit
def sw (X:List Sp.Ed) (i j:Nat):List Sp.Ed:=if h:i < X.length∧j < X.length then exch X i j h.1 h.2 else X
theorem sw_len (X:List Sp.Ed) (i j:Nat):(sw X i j).length=X.length:=by
 unfold sw;split
 ·simp[exch]
 ·rfl
def swr (X:List Sp.Ed) (a b:Nat):Nat→List Sp.Ed
 | 0=>X
 | i+1=>sw (swr X a b i) (a+i) (b+i)
theorem swr_len (X:List Sp.Ed) (a b:Nat):∀ n,(swr X a b n).length=X.length
 | 0=>rfl
 | n+1=>by rw[swr,sw_len,swr_len]
theorem own_frozen {w:World} {B e g n cap:Nat} {xs:List Value} (h:w.ownsRow B e 3 (.slice (some ⟨g,0,none⟩) n cap) n xs) (k:Nat):w.frozen? ⟨g,k,none⟩=false:=by
 rcases h.2 with ⟨hv,hn⟩ | ⟨g',cap',cur,hv,hB,hg,_⟩
 ·cases hv
 ·injection hv with e1 e2 e3
  injection e1 with e1
  injection e1 with e1
  subst e1
  simp[World.frozen?,hg]
theorem own_cells {w:World} {B e g cap:Nat} {X:List Sp.Ed} (h:w.ownsRow B e 3 (.slice (some ⟨g,0,none⟩) X.length cap) X.length (edCells X)) (j:Nat) (hj:j < X.length) :
  w.cell? ⟨g,j * 3,none⟩=some (.int .i64 (X[j].frm:Int))∧w.cell? ⟨g,j * 3+1,none⟩=some (.int .i64 (X[j].to:Int))∧w.cell? ⟨g,j * 3+2,none⟩=some (.int .i64 X[j].n):=by
 obtain⟨e0,e1,e2⟩:=ed_get X j hj
 exact⟨(h.cellAt _ (by omega)).trans e0,(h.cellAt _ (by omega)).trans e1,(h.cellAt _ (by omega)).trans e2⟩
theorem own_sw {w:World} {B e g cap n:Nat} {X:List Sp.Ed} (hn:X.length=n) (h:w.ownsRow B e 3 (.slice (some ⟨g,0,none⟩) n cap) n (edCells X)) (i j:Nat) (hi:i < n) (hj:j < n):∃ xi xj:Sp.Ed,
  (w.cell? ⟨g,i * 3,none⟩=some (.int .i64 (xi.frm:Int))∧w.cell? ⟨g,i * 3+1,none⟩=some (.int .i64 (xi.to:Int))∧w.cell? ⟨g,i * 3+2,none⟩=some (.int .i64 xi.n)) ∧
  (w.cell? ⟨g,j * 3,none⟩=some (.int .i64 (xj.frm:Int))∧w.cell? ⟨g,j * 3+1,none⟩=some (.int .i64 (xj.to:Int))∧w.cell? ⟨g,j * 3+2,none⟩=some (.int .i64 xj.n)) ∧
  Hid ((putE (putE w g i xj) g j xi).drew.ownsRow B e 3 (.slice (some ⟨g,0,none⟩) n cap) n (edCells (sw X i j))∧w.grownBy (putE (putE w g i xj) g j xi).drew (some g))∧Hid (X[i]? = some xi∧X[j]? = some xj):=by
 subst hn
 have e:sw X i j=exch X i j hi hj:=by unfold sw;rw[dif_pos ⟨hi,hj⟩]
 rw[e]
 exact⟨X[i],X[j],own_cells h i hi,own_cells h j hj,own_exch h i j hi hj,List.getElem?_eq_getElem hi,List.getElem?_eq_getElem hj⟩
theorem swapRange_any (g cap B a b n:Nat) (X:List Sp.Ed) (fv:Value) (w:World) (h:w.ownsRow B 67 3 (.slice (some ⟨g,0,none⟩) X.length cap) X.length (edCells X)) (hab:a+n≤b) (hb:b+n≤X.length) (hl:X.length≤5000) :
  Calls Tryz.prog 333 #[.slice (some ⟨g,0,none⟩) X.length cap,.int .i64 a,.int .i64 b,.int .i64 n,fv] w fun e w'=>e = .returned (.tuple #[]) ∧
   w'.ownsRow B 67 3 (.slice (some ⟨g,0,none⟩) X.length cap) X.length (edCells (swr X a b n))∧w.grownBy w' (some g):=by
 go_enter Tryz.func333,Tryz.ntmps333
 go_wp2
 go_loopw [10] (fun i wr=>∃ k:Nat,k≤n∧i = .int .i64 k∧wr.ownsRow B 67 3 (.slice (some ⟨g,0,none⟩) X.length cap) X.length (edCells (swr X a b k))∧w.grownBy wr (some g)) (fun i _=>n - (intOf i).toNat)
 case atStart=>exact⟨0,Nat.zero_le _,rfl,h,grown_refl _ _⟩
 case round =>
  obtain⟨k,hk,rfl,ho,hgr⟩:=hrel
  by_cases hlt:k < n
  ·have hA:(a:Int)+(k:Int) < (X.length:Int):=by omega
   have hB:(b:Int)+(k:Int) < (X.length:Int):=by omega
   have f0:=own_frozen ho ((a+k) * 3)
   have f1:=own_frozen ho ((a+k) * 3+1)
   have f2:=own_frozen ho ((a+k) * 3+2)
   have f3:=own_frozen ho ((b+k) * 3)
   have f4:=own_frozen ho ((b+k) * 3+1)
   have f5:=own_frozen ho ((b+k) * 3+2)
   obtain⟨xa,xb,⟨x0,x1,x2⟩,⟨y0,y1,y2⟩,HO,HX⟩:=own_sw (swr_len X a b k) ho (a+k) (b+k) (by omega) (by omega)
   have HGR:=hde hgr
   have hne:a+k < b+k:=by omega
   clear ho hgr h
   go_wp2_with fail
   go_region
   go_wp2
   go_roundw
   case rel=>exact⟨k+1,by omega,by go_num,(uh HO).1,grown_trans (uh HGR) (uh HO).2⟩
   case measure=>simp[intOf];omega
  ·have hkn:n=k:=by omega
   subst hkn
   go_wp2
   go_end0
   exact⟨rfl,ho,hgr⟩
theorem sw_get (X:List Sp.Ed) (i j:Nat) (hi:i < X.length) (hj:j < X.length) (t:Nat):(sw X i j)[t]? = if t=j then X[i]? else if t=i then X[j]? else X[t]?:=by
 unfold sw;rw[dif_pos ⟨hi,hj⟩]
 unfold exch
 by_cases h1:t=j
 ·subst h1;rw[if_pos rfl];simp[hj]
 ·rw[if_neg h1,List.getElem?_set_ne (fun e=>h1 e.symm)]
  by_cases h2:t=i
  ·subst h2;rw[if_pos rfl];simp[hi,hj]
  ·rw[if_neg h2,List.getElem?_set_ne (fun e=>h2 e.symm)]
theorem swr_get (X:List Sp.Ed) (a b:Nat):∀ n,a+n≤b→b+n≤X.length→∀ t,(swr X a b n)[t]? = if a≤t∧t < a+n then X[t+(b - a)]? else if b≤t∧t < b+n then X[t - (b - a)]? else X[t]?:=by
 intro n
 induction n with
 | zero=>intro h1 h2 t;rw[if_neg (by omega),if_neg (by omega)];rfl
 | succ n ih =>
  intro h1 h2 t
  have ih:=ih (by omega) (by omega)
  rw[swr,sw_get _ _ _ (by rw[swr_len];omega) (by rw[swr_len];omega),ih,ih,ih]
  by_cases c1:t=b+n
  ·subst c1
   rw[if_pos rfl,if_neg (by omega),if_neg (by omega),if_neg (by omega),if_pos (by omega),show b+n - (b - a)=a+n by omega]
  ·rw[if_neg c1]
   by_cases c2:t=a+n
   ·subst c2
    rw[if_pos rfl,if_neg (by omega),if_neg (by omega),if_pos (by omega),show a+n+(b - a)=b+n by omega]
   ·rw[if_neg c2]
    by_cases c3:a≤t∧t < a+n
    ·rw[if_pos c3,if_pos (by omega)]
    ·rw[if_neg c3,if_neg (by omega:¬ (a≤t∧t < a+(n+1)))]
     by_cases c4:b≤t∧t < b+n
     ·rw[if_pos c4,if_pos (by omega)]
     ·rw[if_neg c4,if_neg (by omega)]
theorem swr_split (A P M Q B:List Sp.Ed) (h:P.length=Q.length):swr (A++(P++(M++(Q++B)))) A.length (A.length+P.length+M.length) P.length=A++(Q++(M++(P++B))):=by
 apply List.ext_getElem?
 intro t
 rw[swr_get _ _ _ _ (by omega) (by simp;omega)]
 by_cases c1:A.length≤t∧t < A.length+P.length
 ·rw[if_pos c1,show A.length+P.length+M.length - A.length=P.length+M.length by omega]
  rw[List.getElem?_append_right (by omega),List.getElem?_append_right (by omega),List.getElem?_append_right (by omega),List.getElem?_append_left (by omega)]
  rw[List.getElem?_append_right (by omega),List.getElem?_append_left (by omega)]
  congr 1;omega
 ·rw[if_neg c1]
  by_cases c2:A.length+P.length+M.length≤t∧t < A.length+P.length+M.length+P.length
  ·rw[if_pos c2,show A.length+P.length+M.length - A.length=P.length+M.length by omega]
   rw[List.getElem?_append_right (by omega),List.getElem?_append_left (by omega)]
   rw[List.getElem?_append_right (by omega),List.getElem?_append_right (by omega),List.getElem?_append_right (by omega),List.getElem?_append_left (by omega)]
   congr 1;omega
  ·rw[if_neg c2]
   by_cases c3:t < A.length
   ·rw[List.getElem?_append_left c3,List.getElem?_append_left c3]
   ·by_cases c4:t < A.length+P.length+M.length
    ·rw[List.getElem?_append_right (by omega),List.getElem?_append_right (by omega),List.getElem?_append_left (by omega)]
     rw[List.getElem?_append_right (by omega),List.getElem?_append_right (by omega),List.getElem?_append_left (by omega)]
     congr 1;omega
    ·rw[List.getElem?_append_right (by omega),List.getElem?_append_right (by omega),List.getElem?_append_right (by omega),List.getElem?_append_right (by omega)]
     rw[List.getElem?_append_right (by omega),List.getElem?_append_right (by omega),List.getElem?_append_right (by omega),List.getElem?_append_right (by omega)]
     congr 1;omega
def rot (X:List Sp.Ed) (a m b:Nat):List Sp.Ed:=X.take a++((X.take b).drop m++((X.take m).drop a++X.drop b))
theorem rot_split (A U V B:List Sp.Ed):rot (A++(U++(V++B))) A.length (A.length+U.length) (A.length+U.length+V.length)=A++(V++(U++B)):=by
 unfold rot
 have e1:(A++(U++(V++B))).take A.length=A:=by simp
 have e2:(A++(U++(V++B))).take (A.length+U.length)=A++U:=by
  rw[← List.append_assoc,List.take_append_of_le_length (by simp <;> omega),List.take_of_length_le (by simp <;> omega)]
 have e3:(A++(U++(V++B))).take (A.length+U.length+V.length)=A++U++V:=by
  rw[← List.append_assoc,← List.append_assoc,List.take_append_of_le_length (by simp <;> omega),List.take_of_length_le (by simp <;> omega)]
 have e4:(A++(U++(V++B))).drop (A.length+U.length+V.length)=B:=by
  rw[← List.append_assoc,← List.append_assoc,List.drop_left' (by simp <;> omega)]
 rw[e1,e2,e3,e4,List.drop_left' (by simp),List.drop_left' (by simp)]
theorem rot_cut (X:List Sp.Ed) (a m b:Nat) (h1:a≤m) (h2:m≤b) (h3:b≤X.length):∃ A U V B,X=A++(U++(V++B))∧A.length=a∧U.length=m - a∧V.length=b - m:=by
 refine⟨X.take a,(X.take m).drop a,(X.take b).drop m,X.drop b,?_,by simp;omega,by simp;omega,by simp;omega⟩
 have e1:(X.take b).drop m++X.drop b=X.drop m:=by
  have:=List.take_append_drop b X
  conv=>rhs;rw[← this]
  rw[List.drop_append_of_le_length (by simp;omega)]
 have e2:(X.take m).drop a++X.drop m=X.drop a:=by
  have:=List.take_append_drop m X
  conv=>rhs;rw[← this]
  rw[List.drop_append_of_le_length (by simp;omega)]
 rw[e1,e2,List.take_append_drop]
theorem rot_gt (Y:List Sp.Ed) (m i j:Nat) (hij:j < i) (him:i≤m) (hl:m+j≤Y.length):rot (swr Y (m - i) m j) (m - (i - j)) m (m+j)=rot Y (m - i) m (m+j):=by
 obtain⟨A,U,V,B,rfl,hA,hU,hV⟩:=rot_cut Y (m - i) m (m+j) (by omega) (by omega) hl
 obtain⟨U1,U2,rfl,h1⟩:∃ U1 U2,U=U1++U2∧U1.length=j:=⟨U.take j,U.drop j,(List.take_append_drop _ _).symm,by simp;omega⟩
 rw[List.length_append] at hU
 have e1:=swr_split A U1 U2 V B (by omega)
 have e2:=rot_split (A++V) U2 U1 B
 have e3:=rot_split A (U1++U2) V B
 rw[List.length_append] at e2 e3
 rw[show A.length+U1.length+U2.length=m by omega,h1,hA] at e1
 rw[show A.length+V.length+U2.length=m by omega,show A.length+V.length=m - (i - j) by omega,h1] at e2
 rw[show A.length+(U1.length+U2.length)=m by omega,show m+V.length=m+j by omega,hA] at e3
 rw[e3,List.append_assoc,e1,← List.append_assoc,e2]
 simp[List.append_assoc]
theorem rot_lt (Y:List Sp.Ed) (m i j:Nat) (hij:i < j) (him:i≤m) (hl:m+j≤Y.length):rot (swr Y (m - i) (m+j - i) i) (m - i) m (m+(j - i))=rot Y (m - i) m (m+j):=by
 obtain⟨A,U,V,B,rfl,hA,hU,hV⟩:=rot_cut Y (m - i) m (m+j) (by omega) (by omega) hl
 obtain⟨V1,V2,rfl,h1⟩:∃ V1 V2,V=V1++V2∧V1.length=j - i:=⟨V.take (j - i),V.drop (j - i),(List.take_append_drop _ _).symm,by simp;omega⟩
 rw[List.length_append] at hV
 have e1:=swr_split A U V1 V2 B (by omega)
 have e2:=rot_split A V2 V1 (U++B)
 have e3:=rot_split A U (V1++V2) B
 rw[List.length_append] at e3
 rw[show A.length+U.length+V1.length=m+j - i by omega,show U.length=i by omega,hA] at e1
 rw[show A.length+V2.length=m by omega,show m+V1.length=m+(j - i) by omega,hA] at e2
 rw[show A.length+U.length=m by omega,show m+(V1.length+V2.length)=m+j by omega,hA] at e3
 rw[e3,List.append_assoc,e1,e2]
 simp[List.append_assoc]
theorem rot_same (Y:List Sp.Ed) (m i:Nat) (him:i≤m) (hl:m+i≤Y.length):swr Y (m - i) m i=rot Y (m - i) m (m+i):=by
 obtain⟨A,U,V,B,rfl,hA,hU,hV⟩:=rot_cut Y (m - i) m (m+i) (by omega) (by omega) hl
 have e1:=swr_split A U [] V B (by omega)
 have e3:=rot_split A U V B
 simp only[List.nil_append,List.length_nil,Nat.add_zero] at e1
 rw[show A.length+U.length=m by omega,show U.length=i by omega,hA] at e1
 rw[show A.length+U.length=m by omega,show m+V.length=m+i by omega,hA] at e3
 rw[e1,e3]
theorem swapRange_at (g cap B a b n N:Nat) (a' b' n':Int) (X:List Sp.Ed) (fv:Value) (w:World) (ha:a'=(a:Int)) (hb':b'=(b:Int)) (hn:n'=(n:Int)) (hX:X.length=N) (h:w.ownsRow B 67 3 (.slice (some ⟨g,0,none⟩) N cap) N (edCells X)) (hab:a+n≤b) (hb:b+n≤N) (hl:N≤5000) :
  Calls Tryz.prog 333 #[.slice (some ⟨g,0,none⟩) N cap,.int .i64 a',.int .i64 b',.int .i64 n',fv] w fun e w'=>e = .returned (.tuple #[]) ∧
   w'.ownsRow B 67 3 (.slice (some ⟨g,0,none⟩) N cap) N (edCells (swr X a b n))∧w.grownBy w' (some g):=by
 subst ha hb' hn hX
 exact swapRange_any g cap B a b n X fv w h hab hb hl
theorem rotate_any (g cap B a m b N:Nat) (X:List Sp.Ed) (fv:Value) (w:World) (hX:X.length=N) (h:w.ownsRow B 67 3 (.slice (some ⟨g,0,none⟩) N cap) N (edCells X)) (ham:a < m) (hmb:m < b) (hb:b≤N) (hl:N≤5000) :
  Calls Tryz.prog 299 #[.slice (some ⟨g,0,none⟩) N cap,.int .i64 a,.int .i64 m,.int .i64 b,fv] w fun e w'=>e = .returned (.tuple #[]) ∧
   w'.ownsRow B 67 3 (.slice (some ⟨g,0,none⟩) N cap) N (edCells (rot X a m b))∧w.grownBy w' (some g):=by
 have HX:=hde hX
 clear hX
 go_enter Tryz.func299,Tryz.ntmps299
 go_wp2
 go_loopw [10,11] (fun u v wr=>∃ (i j:Nat) (Y:List Sp.Ed),u = .int .i64 i∧v = .int .i64 j∧0 < i∧0 < j∧i≤m - a∧j≤b - m∧Hid (Y.length=N)∧wr.ownsRow B 67 3 (.slice (some ⟨g,0,none⟩) N cap) N (edCells Y)∧w.grownBy wr (some g)∧Hid (rot Y (m - i) m (m+j)=rot X a m b)) (fun u v _=>(intOf u).toNat+(intOf v).toNat)
 case atStart=>exact⟨m - a,b - m,X,by go_num,by go_num,by omega,by omega,by omega,by omega,HX,h,grown_refl _ _,by show _=_;rw[show m - (m - a)=a by omega,show m+(b - m)=b by omega]⟩
 case round =>
  obtain⟨i,j,Y,rfl,rfl,hi0,hj0,hi,hj,HY,ho,hgr,HR⟩:=hrel
  have HO:=hde ho
  have HGR:=hde hgr
  clear ho hgr h
  rcases Nat.lt_trichotomy i j with hij | hij | hij
  ·have h1:((i:Int) != (j:Int))=true:=by rw[bne_iff_ne];omega
   go_wp2_with fail
   refine(swapRange_at g cap B (m - i) (m+j - i) i N _ _ _ Y fv _ (by omega) (by omega) (by omega) (uh HY) (uh HO) (by omega) (by omega) hl).mono ?_
   rintro e w2 ⟨rfl,ho2,hg2⟩
   go_wp2
   go_roundw
   case rel=>exact⟨i,j - i,_,rfl,by go_num,hi0,by omega,hi,by omega,by show _=_;rw[swr_len];exact uh HY,ho2,grown_trans (uh HGR) hg2,by show _=_;rw[← uh HR];exact rot_lt Y m i j hij (by omega) (by rw[uh HY];omega)⟩
   case measure=>simp[intOf];omega
  ·subst hij
   have h1:((i:Int) != (i:Int))=false:=by simp
   go_wp2_with fail
   refine(swapRange_at g cap B (m - i) m i N _ _ _ Y fv _ (by omega) (by omega) (by omega) (uh HY) (uh HO) (by omega) (by omega) hl).mono ?_
   rintro e w2 ⟨rfl,ho2,hg2⟩
   go_wp2
   go_end0
   refine⟨rfl,?_,grown_trans (uh HGR) hg2⟩
   rw[← uh HR,← rot_same Y m i (by omega) (by rw[uh HY];omega)]
   exact ho2
  ·have h1:((i:Int) != (j:Int))=true:=by rw[bne_iff_ne];omega
   go_wp2_with fail
   refine(swapRange_at g cap B (m - i) m j N _ _ _ Y fv _ (by omega) (by omega) (by omega) (uh HY) (uh HO) (by omega) (by omega) hl).mono ?_
   rintro e w2 ⟨rfl,ho2,hg2⟩
   go_wp2
   go_roundw
   case rel=>exact⟨i - j,j,_,by go_num,rfl,by omega,hj0,by omega,hj,by show _=_;rw[swr_len];exact uh HY,ho2,grown_trans (uh HGR) hg2,by show _=_;rw[← uh HR];exact rot_gt Y m i j hij (by omega) (by rw[uh HY];omega)⟩
   case measure=>simp[intOf];omega
end Go.Proofs.YteflnddphpjahaaGreatDoor
namespace Go.Proofs.YteflnddphpjahaaGreatDoor.Sp
open Go
def verts (L:List Ln):Tb:=(L.filter fun l=>!l.edge).map fun l=>(l.frm,l.n)
theorem verts_append (A B:List Ln):verts (A++B)=verts A++verts B:=by simp[verts]
theorem verts_len (L:List Ln):(verts L).length=nv L:=by
 have h:∀ M:List Ln,(M.filter fun l=>!l.edge).length+(M.filter fun l=>l.edge).length=M.length:=by
  intro M
  induction M with
  | nil=>rfl
  | cons l t ih=>cases hl:l.edge <;> simp[hl] <;> omega
 have:=h L
 unfold verts nv edges
 rw[List.length_map];omega
theorem hasV_all (L:List Ln) (n:Nat) (h:L.length≤n) (a:Int):hasV L n a=thas (verts L) a:=by
 unfold hasV thas verts
 rw[List.take_of_length_le h]
 induction L with
 | nil=>rfl
 | cons l t ih =>
  have:=ih (by simp at h;omega)
  cases hl:l.edge with
  | true=>simp only[List.any_cons,isV,hl,Bool.not_true,Bool.false_and,Bool.false_or,List.filter_cons];simpa [isV] using this
  | false=>simp only[List.any_cons,isV,hl,Bool.not_false,Bool.true_and,List.filter_cons,if_true,List.map_cons];rw[← this]
theorem thas_perm {T U:Tb} (h:T.Perm U) (a:Int):thas T a=thas U a:=by
 unfold thas
 apply Bool.eq_iff_iff.2
 rw[List.any_eq_true,List.any_eq_true]
 constructor
 ·rintro⟨p,hp,e⟩;exact⟨p,h.mem_iff.1 hp,e⟩
 ·rintro⟨p,hp,e⟩;exact⟨p,h.mem_iff.2 hp,e⟩
theorem tlow_perm {T U:Tb} (h:T.Perm U) (a:Int):tlow T a=tlow U a:=(h.filter _).length_eq
theorem tlow_verts (L:List Ln) (a:Int):tlow (verts L) a=low L a:=by
 unfold tlow verts low
 rw[List.filter_map,List.length_map,List.filter_filter]
 congr 2
 funext l
 simp[isLow,Bool.and_comm]
theorem tins_perm (T:Tb) (a v:Int):(tins T a v).Perm ((a,v) :: T):=by
 unfold tins
 refine List.perm_middle.trans ?_
 rw[List.take_append_drop]
theorem says_append (P Q:List (Option Ln)):says (P++Q)=says P++says Q:=by simp[says]
theorem nums_len (P:List (Option Ln)):∀ k,(numsFrom P k).length=(says P).length:=by
 induction P with
 | nil=>intro k;rfl
 | cons p t ih =>
  intro k
  cases p with
  | none=>simpa [numsFrom,says] using ih (k+1)
  | some l=>simpa [numsFrom,says] using ih (k+1)
theorem nums_at (P R:List (Option Ln)) (l:Ln):(numsFrom (P++some l :: R) 0).getD (says P).length 0=P.length:=by
 rw[nums_append,← nums_len P 0]
 simp[numsFrom,List.getD]
theorem says_at (P R:List (Option Ln)) (l:Ln):(says (P++some l :: R))[(says P).length]? = some l:=by
 rw[says_append];simp[says]
theorem gv_spec:∀ (R P:List (Option Ln)) (T:Tb),tsorted T→T.Perm (verts (says P))→(∀ i,i < (says P).length→twiceAt (says (P++R)) i=false) →
  (∃ i,first (twiceAt (says (P++R))) (says (P++R)).length=some i∧gv R P.length T = .error ((numsFrom (P++R) 0).getD i 0)) ∨
  (first (twiceAt (says (P++R))) (says (P++R)).length=none∧∃ T',gv R P.length T = .ok T'∧tsorted T'∧T'.Perm (verts (says (P++R)))):=by
 intro R
 induction R with
 | nil =>
  intro P T hs hp ht
  right
  rw[List.append_nil] at ht ⊢
  exact⟨first_none ht,T,rfl,hs,hp⟩
 | cons q r ih =>
  intro P T hs hp ht
  have e:P++q :: r=(P++[q])++r:=by simp
  have hlen:(P++[q]).length=P.length+1:=by simp
  cases q with
  | none =>
   have hsay:says (P++[none])=says P:=by rw[says_append];simp[says]
   have:=ih (P++[none]) T hs (by rw[hsay];exact hp) (by rw[hsay,← e];exact ht)
   rw[← e,hlen] at this
   exact this
  | some l =>
   have hsay:says (P++[some l])=says P++[l]:=by rw[says_append];simp[says]
   have hat:=says_at P r l
   have hlt:(says P).length < (says (P++some l :: r)).length:=by rw[says_append];simp[says]
   have htk:(says (P++some l :: r)).take (says P).length=says P:=by rw[says_append];simp
   cases hed:l.edge with
   | true =>
    have hv:verts (says (P++[some l]))=verts (says P):=by rw[hsay,verts_append];simp[verts,hed]
    have h0:twiceAt (says (P++some l :: r)) (says P).length=false:=by unfold twiceAt;rw[hat];simp[hed]
    have:=ih (P++[some l]) T hs (by rw[hv];exact hp) (by
     intro i hi
     rw[← e]
     rw[hsay] at hi
     simp at hi
     rcases Nat.lt_or_eq_of_le (Nat.le_of_lt_succ hi) with h | h
     ·exact ht i h
     ·rw[h];exact h0)
    rw[← e,hlen] at this
    have hg:gv (some l :: r) P.length T=gv r (P.length+1) T:=by simp only[gv,hed,if_true]
    rw[hg];exact this
   | false =>
    have h1:twiceAt (says (P++some l :: r)) (says P).length=thas T l.frm:=by
     unfold twiceAt;rw[hat]
     simp only[hed,Bool.not_false,Bool.true_and]
     rw[thas_perm hp,← hasV_all (says P) (says P).length (Nat.le_refl _)]
     unfold hasV
     rw[htk,List.take_length]
    cases hh:thas T l.frm with
    | true =>
     left
     refine⟨(says P).length,first_some hlt ht (by rw[h1,hh]),?_⟩
     rw[nums_at]
     simp only[gv,hed,hh];rfl
    | false =>
     have hv:verts (says (P++[some l]))=verts (says P)++[(l.frm,l.n)]:=by rw[hsay,verts_append];simp[verts,hed]
     have:=ih (P++[some l]) (tins T l.frm l.n) (tins_sorted hs hh) (by
      rw[hv]
      refine(tins_perm T l.frm l.n).trans ?_
      refine(List.Perm.cons _ hp).trans ?_
      exact(List.perm_append_singleton _ _).symm) (by
       intro i hi
       rw[← e]
       rw[hsay] at hi
       simp at hi
       rcases Nat.lt_or_eq_of_le (Nat.le_of_lt_succ hi) with h | h
       ·exact ht i h
       ·rw[h,h1,hh])
     rw[← e,hlen] at this
     have hg:gv (some l :: r) P.length T=gv r (P.length+1) (tins T l.frm l.n):=by simp only[gv,hed,hh];rfl
     rw[hg];exact this
def edsOf (L M:List Ln):List Ed:=(M.filter fun l=>l.edge).map fun l=>⟨low L l.frm,low L l.to,l.n⟩
theorem edsOf_append (L A B:List Ln):edsOf L (A++B)=edsOf L A++edsOf L B:=by simp[edsOf]
theorem edsOf_len (L:List Ln):(edsOf L L).length=edges L:=by simp[edsOf,edges]
theorem ge_spec (T:Tb) (L:List Ln) (hp:T.Perm (verts L)):∀ (R P:List (Option Ln)),says (P++R)=L→(∀ i,i < (says P).length→loose L i=false) →
  (∃ i,first (loose L) L.length=some i∧ge T R P.length (edsOf L (says P)) = .error ((numsFrom (P++R) 0).getD i 0)) ∨
  (first (loose L) L.length=none∧ge T R P.length (edsOf L (says P)) = .ok (edsOf L L)):=by
 have hhas:∀ a,thas T a=hasV L L.length a:=fun a=>by rw[thas_perm hp,hasV_all L _ (Nat.le_refl _)]
 have hlow:∀ a,tlow T a=low L a:=fun a=>by rw[tlow_perm hp,tlow_verts]
 intro R
 induction R with
 | nil =>
  intro P hL ht
  right
  rw[List.append_nil] at hL
  rw[hL] at ht
  rw[hL]
  exact⟨first_none ht,rfl⟩
 | cons q r ih =>
  intro P hL ht
  have e:P++q :: r=(P++[q])++r:=by simp
  have hlen:(P++[q]).length=P.length+1:=by simp
  cases q with
  | none =>
   have hsay:says (P++[none])=says P:=by rw[says_append];simp[says]
   have:=ih (P++[none]) (by rw[← e];exact hL) (by rw[hsay];exact ht)
   rw[← e,hlen,hsay] at this
   exact this
  | some l =>
   have hsay:says (P++[some l])=says P++[l]:=by rw[says_append];simp[says]
   have hat:=says_at P r l
   have hlt:(says P).length < (says (P++some l :: r)).length:=by rw[says_append];simp[says]
   rw[hL] at hat hlt
   have hnext:loose L (says P).length=false→∀ i,i < (says (P++[some l])).length→loose L i=false:=by
    intro h0 i hi
    rw[hsay] at hi
    simp at hi
    rcases Nat.lt_or_eq_of_le (Nat.le_of_lt_succ hi) with h | h
    ·exact ht i h
    ·rw[h];exact h0
   cases hed:l.edge with
   | false =>
    have h0:loose L (says P).length=false:=by unfold loose;rw[hat];simp[hed]
    have hv:edsOf L (says (P++[some l]))=edsOf L (says P):=by rw[hsay,edsOf_append];simp[edsOf,hed]
    have:=ih (P++[some l]) (by rw[← e];exact hL) (hnext h0)
    rw[← e,hlen,hv] at this
    have hg:ge T (some l :: r) P.length (edsOf L (says P))=ge T r (P.length+1) (edsOf L (says P)):=by simp only[ge,hed];rfl
    rw[hg];exact this
   | true =>
    by_cases hb:thas T l.frm=true∧thas T l.to=true
    ·have h0:loose L (says P).length=false:=by unfold loose;rw[hat];simp[hed,← hhas,hb.1,hb.2]
     have hv:edsOf L (says (P++[some l]))=edsOf L (says P)++[⟨low L l.frm,low L l.to,l.n⟩]:=by rw[hsay,edsOf_append];simp[edsOf,hed]
     have:=ih (P++[some l]) (by rw[← e];exact hL) (hnext h0)
     rw[← e,hlen,hv] at this
     have hg:ge T (some l :: r) P.length (edsOf L (says P))=ge T r (P.length+1) (edsOf L (says P)++[⟨low L l.frm,low L l.to,l.n⟩]):=by
      simp only[ge,hed,if_true];rw[if_pos hb,hlow,hlow]
     rw[hg];exact this
    ·left
     refine⟨(says P).length,first_some hlt ht ?_,?_⟩
     ·unfold loose;rw[hat];simp only[hed,Bool.true_and,← hhas]
      cases h1:thas T l.frm with
      | false=>rfl
      | true =>
       cases h2:thas T l.to with
       | false=>rfl
       | true=>exact absurd ⟨h1,h2⟩ hb
     ·rw[nums_at]
      simp only[ge,hed,if_true];rw[if_neg hb]
theorem tlow_get {T:Tb} (hs:tsorted T) {j:Nat} (hj:j < T.length):tlow T (T[j]).1=j :=
 tlow_at (by omega) (fun i hi hij=>tsorted_lt hs hij hj) (fun i hi hij=>tsorted_le hs hij hi)
theorem filter_place {T:Tb} (hs:tsorted T) {k:Nat} (hk:k < T.length):T.filter (fun p=>tlow T p.1 == k)=[T[k]]:=by
 have e:T=T.take k++T[k] :: T.drop (k+1):=by
  rw[← List.drop_eq_getElem_cons hk,List.take_append_drop]
 have hA:(T.take k).filter (fun p=>tlow T p.1 == k)=[]:=by
  rw[List.filter_eq_nil_iff]
  intro p hp
  obtain⟨j,hj,rfl⟩:=List.mem_iff_getElem.1 hp
  rw[List.length_take] at hj
  rw[List.getElem_take,tlow_get hs (by omega)]
  simp;omega
 have hB:(T.drop (k+1)).filter (fun p=>tlow T p.1 == k)=[]:=by
  rw[List.filter_eq_nil_iff]
  intro p hp
  obtain⟨j,hj,rfl⟩:=List.mem_iff_getElem.1 hp
  rw[List.length_drop] at hj
  rw[List.getElem_drop,tlow_get hs (by omega)]
  simp;omega
 have hC:([T[k]]:Tb).filter (fun p=>tlow T p.1 == k)=[T[k]]:=by
  rw[List.filter_cons,tlow_get hs hk];simp
 have e2:(T.take k++([T[k]]++T.drop (k+1))).filter (fun p=>tlow T p.1 == k)=[T[k]]:=by rw[List.filter_append,List.filter_append,hA,hB,hC];rfl
 exact(congrArg (List.filter (fun p=>tlow T p.1 == k)) e).trans e2
theorem vAt_place {L:List Ln} {T:Tb} (hs:tsorted T) (hp:T.Perm (verts L)) {k:Nat} (hk:k < T.length):(vAt L k L.length).map (fun l=>(l.frm,l.n))=[T[k]]:=by
 have hlow:∀ a,low L a=tlow T a:=fun a=>by rw[tlow_perm hp,tlow_verts]
 have h1:(vAt L k L.length).map (fun l=>(l.frm,l.n))=(verts L).filter (fun p=>tlow T p.1 == k):=by
  unfold vAt verts
  rw[List.take_length,List.filter_map,List.filter_filter]
  congr 2
  funext l
  simp[vHit,hlow,Bool.and_comm]
 rw[h1]
 have h2:=hp.filter (fun p=>tlow T p.1 == k)
 rw[filter_place hs hk] at h2
 exact(List.singleton_perm.1 h2).symm
theorem vs_take {L:List Ln} {T:Tb} (hs:tsorted T) (hp:T.Perm (verts L)):∀ n,n≤T.length→(vs L n).map (fun l=>(l.frm,l.n))=T.take n:=by
 intro n
 induction n with
 | zero=>intro _;rfl
 | succ n ih =>
  intro hn
  rw[vs,List.map_append,ih (by omega),vAt_place hs hp (by omega)]
  exact(List.take_succ_eq_append_getElem (by omega)).symm
theorem vs_eq {L:List Ln} {T:Tb} (hs:tsorted T) (hp:T.Perm (verts L)):(vs L (nv L)).map (fun l=>(l.frm,l.n))=T:=by
 have hl:T.length=nv L:=by rw[hp.length_eq,verts_len]
 rw[vs_take hs hp _ (by omega),List.take_of_length_le (by omega)]
theorem filter_next {α : Type} (f : α→Nat) (a:Nat):∀ X:List α,X.Pairwise (fun x y=>f x≤f y)→X.filter (fun x=>decide (f x < a+1))=X.filter (fun x=>decide (f x < a))++X.filter (fun x=>f x == a):=by
 intro X
 induction X with
 | nil=>intro _;rfl
 | cons x t ih =>
  intro h
  have h2:=(List.pairwise_cons.1 h).1
  have:=ih (List.pairwise_cons.1 h).2
  rcases Nat.lt_trichotomy (f x) a with hx | hx | hx
  ·simp[List.filter_cons,hx,show f x < a+1 by omega,show ¬ f x=a by omega,this]
  ·have hn:t.filter (fun x=>decide (f x < a))=[]:=by
    rw[List.filter_eq_nil_iff];intro y hy;have:=h2 y hy;simp;omega
   rw[hn] at this
   simp[List.filter_cons,hx,hn,this]
  ·have hn:t.filter (fun x=>decide (f x < a))=[]:=by
    rw[List.filter_eq_nil_iff];intro y hy;have:=h2 y hy;simp;omega
   simp[List.filter_cons,show ¬ f x < a by omega,show ¬ f x < a+1 by omega,show ¬ f x=a by omega,hn,this]
def lexle (x y:Ed):Prop:=x.frm < y.frm∨(x.frm=y.frm∧x.to≤y.to)
def isKey (a b:Nat) (e:Ed):Bool:=e.frm == a && e.to == b
theorem eAt_key (L:List Ln) (a b:Nat):eAt L a b L.length=(edsOf L L).filter (isKey a b):=by
 unfold eAt edsOf
 rw[List.take_length,List.filter_map,List.filter_filter]
 have e:L.filter (eHit L a b)=L.filter (fun l=>(isKey a b ∘ fun l=>(⟨low L l.frm,low L l.to,l.n⟩:Ed)) l && l.edge):=by
  congr 1
  funext l
  simp[eHit,isKey,Bool.and_comm]
 rw[e]
 apply List.map_congr_left
 intro l hl
 have:=(List.mem_filter.1 hl).2
 simp[isKey] at this
 rw[this.1.1,this.1.2]
theorem es_of {L:List Ln} {n:Nat} {X:List Ed} (hs:X.Pairwise lexle) (hb:∀ x ∈ X,x.frm < n∧x.to < n) (hf:∀ a b,X.filter (isKey a b)=(edsOf L L).filter (isKey a b)):X=es L n n:=by
 have hs1:X.Pairwise (fun x y=>x.frm≤y.frm):=hs.imp (fun h=>by rcases h with h | h <;> omega)
 have hrow:∀ a b,(X.filter (fun x=>x.frm == a)).filter (fun x=>decide (x.to < b))=eRow L a b:=by
  intro a b
  have hs2:(X.filter (fun x=>x.frm == a)).Pairwise (fun x y=>x.to≤y.to):=by
   rw[List.pairwise_filter]
   refine hs.imp (fun h=>?_)
   intro hx hy
   simp at hx hy
   rcases h with h | h <;> omega
  induction b with
  | zero=>simp[eRow]
  | succ b ih =>
   rw[filter_next (fun x:Ed=>x.to) b _ hs2,ih,eRow,eAt_key,← hf]
   congr 1
   rw[List.filter_filter]
   congr 1
   funext x
   simp[isKey,Bool.and_comm]
 have hall:∀ a,X.filter (fun x=>decide (x.frm < a))=es L n a:=by
  intro a
  induction a with
  | zero=>simp[es]
  | succ a ih =>
   rw[filter_next (fun x:Ed=>x.frm) a _ hs1,ih,es,← hrow a n]
   congr 1
   rw[List.filter_filter]
   apply List.filter_congr
   intro x hx
   have:=(hb x hx).2
   simp[this]
 rw[← hall n,List.filter_eq_self.2]
 intro x hx
 simpa using (hb x hx).1
theorem eds_bd {L:List Ln} {T:Tb} (hs:tsorted T) (hp:T.Perm (verts L)) (hl:first (loose L) L.length=none):∀ x ∈ edsOf L L,x.frm < nv L∧x.to < nv L:=by
 have hlow:∀ a,low L a=tlow T a:=fun a=>by rw[tlow_perm hp,tlow_verts]
 have hhas:∀ a,hasV L L.length a=thas T a:=fun a=>by rw[thas_perm hp,hasV_all L _ (Nat.le_refl _)]
 have hlen:T.length=nv L:=by rw[hp.length_eq,verts_len]
 intro x hx
 obtain⟨l,hl1,rfl⟩:=List.mem_map.1 hx
 obtain⟨hm,hed⟩:=List.mem_filter.1 hl1
 obtain⟨i,hi,rfl⟩:=List.mem_iff_getElem.1 hm
 unfold first at hl
 rw[List.find?_eq_none] at hl
 have h0:=hl i (List.mem_range.2 hi)
 unfold loose at h0
 rw[List.getElem?_eq_getElem hi] at h0
 simp only[hed,Bool.true_and,hhas] at h0
 have h1:thas T (L[i]).frm=true∧thas T (L[i]).to=true:=by
  cases ha:thas T (L[i]).frm <;> cases hb:thas T (L[i]).to <;> simp[ha,hb] at h0 ⊢
 simp only[hlow]
 obtain⟨q1,_⟩:=(thas_at hs _).1 h1.1
 obtain⟨q2,_⟩:=(thas_at hs _).1 h1.2
 omega
end Go.Proofs.YteflnddphpjahaaGreatDoor.Sp
