import Derived.Test.YtgkkdpegcieakaaGreatDoorCz39
import Derived.Test.YtgkkdpegcieakaaGreatDoorCz40P
set_option linter.unusedVariables false
set_option linter.unusedSimpArgs false
set_option maxRecDepth 100000
set_option maxHeartbeats 16000000
namespace Go.Proofs.YtgkkdpegcieakaaGreatDoor
open Go.Proofs.Tryz
open Value renaming int→Z
open IntKind renaming i64→Y
open Go renaming World→TJ,Value→TK,Calls→TL
namespace Hl
open Go Sp
open Rd (Rk e0 dp Fl Ch)
open Ru (qF j5 qG pL tr Af Ek pQ fU)
open Classical
def jb(g p:TM)(every keep cap:Nat):Jb:=⟨Sp.iw p,pz g,kM g,cap,every,keep,pQ g p cap⟩
theorem J0{g p:TM}{every keep cap:Nat}(h:qF g p every keep cap=0)(b:Small g):(jb g p every keep cap).Ok:=by
 obtain⟨e,u,y,z⟩:=Ru.rS h;obtain⟨j,l⟩:=Ru.ji e;obtain⟨m,r⟩:=qw j l b;exact⟨m,lP,r,by show cap<=200;omega,by show 1<=every;omega,by show 1<=keep;omega,by show keep<=5;omega⟩
def cU(g:TM)(keep:Nat):Nat:=(keep+1)*(21*(kM g).length+48)
theorem qH{g p:TM}{every keep cap:Nat}(r:qF g p every keep cap=0)(b:Small g){j l:Bool}{y:Nat}{R:Rk}(h:jA (jb g p every keep cap) j l y (cU g keep) R)(hd:R.down=false)(m:l=true->R.dS=[]):y<=qG g p every keep cap R/\qG g p every keep cap R%every=0/\((j5 g p every keep cap R).e=0\/(j5 g p every keep cap R).e=er j)/\jA (jb g p every keep cap) j l ((qG g p every keep cap R/every+(j5 g p every keep cap R).saved)*every) (cU g keep) (j5 g p every keep cap R).R/\((j5 g p every keep cap R).e=0->(j5 g p every keep cap R).res=Fw (Sp.iw p) (kM g) (pz g) cap)/\((j5 g p every keep cap R).e≠0->(j5 g p every keep cap R).res=fU):=by
 have u:R.nh=0:=by unfold Rk.nh;rw[cd (by rw[hd];decide)]
 obtain⟨z,A⟩:=Ru.yY (g:=g) (p:=p) (every:=every) (keep:=keep) (cap:=cap) (Q:=R) r u rfl;rw[z,A];exact GY (J0 r b) h hd m rfl rfl rfl
end Hl
end Go.Proofs.YtgkkdpegcieakaaGreatDoor
