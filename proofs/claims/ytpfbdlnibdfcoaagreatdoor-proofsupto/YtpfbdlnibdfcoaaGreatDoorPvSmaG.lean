import Derived.Test.YtpfbdlnibdfcoaaGreatDoorPvReaG
namespace Go.Proofs.YtpfbdlnibdfcoaaGreatDoor
open Go.RowKit Go.Extern.Stop Go.Stop Go.Extern
open Value renaming int->Ia,string->La,slice->Ma,bool->Oa,pointer->Qa,agg->Sa,tuple->Wa,iface->ca,nilIface->da
open IntKind renaming i64->ka
open Obj renaming cells->ma
open Ending renaming returned->na
open Tryz renaming prog->oa
open Tryz
set_option maxRecDepth 100000
set_option maxHeartbeats 0
section
theorem XG(z:Sem Value)(f:TypeId->Addr->Nat->Nat->Sem Value)(v:Value):ReflectliteValue.method z f #[v]=(do match<-ReflectliteValue.parts v with |none=>z|some (t,a,fl)=>f t a fl (fl%32)):=rfl
theorem pK(v x:Value):ReflectliteValue.set #[v,x]=(do
 let (some (dst,a,fl),some (src,b,_)):=(<-ReflectliteValue.parts v,<-ReflectliteValue.parts x)
  |unsupported (.noEntry "extern/(internal/reflectlite.Value).Set.zeroValue")
 if fl/ReflectliteValue.flagAddr%2==0 then unsupported (.noEntry "extern/(internal/reflectlite.Value).Set.unaddressable")
 let val<-loadVar src b
 if <-Rtype.directlyAssignable dst src then storeVar dst a val
 else if <-Rtype.implements dst src then
  if(<-Rtype.kind src)==20 then
   match val with
   | da=>unsupported (.noEntry "extern/reflectlite: a nil value of one interface type handed on as a value of another")
   |_=>storeVar dst a val
  else storeVar dst a (ca src val)
 else panicString ("reflectlite.Set: value of type " ++(<-Rtype.spelt src)++ " is not assignable to type " ++(<-Rtype.spelt dst))
 pure (Wa #[])):=rfl
theorem dL(h:Value)(w:Fa):(Go.method 535 328 (Sa #[h]) "Kind").run oa w=.ok (256,h) w:=by kernel_rfl
theorem gR(h:Value)(w:Fa):(Go.method 535 328 (Sa #[h]) "Elem").run oa w=.ok (288,Sa #[h]) w:=by kernel_rfl
theorem kO(h:Value)(w:Fa):(Go.method 535 328 (Sa #[h]) "Implements").run oa w=.ok (289,Sa #[h]) w:=by kernel_rfl
theorem EP(h:Value)(w:Fa):(Go.method 535 328 (Sa #[h]) "AssignableTo").run oa w=.ok (286,Sa #[h]) w:=by kernel_rfl
theorem TS(t:Value)(w:Fa):Calls oa 139 #[da,t] w λe w'=>e=na (Oa false)/\w'=w:=by go_enter func139,ntmps139;go_wp2;go_ret;exact⟨rfl,rfl⟩
theorem KL(v:Value)(xT:TypeId)(w:Fa):(Instr.typeAssert (ca 395 v) xT 347 true).run oa w=.ok (Wa #[da,Oa false]) w:=Xt underlying347 (by kernel_rfl) (by kernel_rfl) v xT w
theorem RP(v:Value)(w:Fa):(ReflectliteType.typeOf #[ca 381 v]).run oa w=.ok (ca 328 (Sa #[Qa (some ⟨17,381,none⟩)])) w:=by kernel_rfl
theorem JU(v:Value)(xT:TypeId)(w:Fa):(Instr.typeAssert (ca 381 v) xT 347 true).run oa w=.ok (Wa #[da,Oa false]) w:=Xt underlying347 (by kernel_rfl) (by kernel_rfl) v xT w
def Er.sr:Er->Option (Nat×Er)
 | .base _=>none
 | .place k e=>some (k,e)
 | .noNode e=>e.sr
 | .inNode _ e=>e.sr
 | .inProof _ e=>e.sr
def Er.Ls:Er->Option (Nat×Er)
 | .base _=>none
 | .place _ e=>e.Ls
 | .noNode e=>e.Ls
 | .inNode k e=>some (k,e)
 | .inProof _ e=>e.Ls
def Er.tt:Er->Option (Nat×Er)
 | .base _=>none
 | .place _ e=>e.tt
 | .noNode e=>e.tt
 | .inNode _ e=>e.tt
 | .inProof k e=>some (k,e)
def yi(r:Option (Nat×Er))(sent:Nat->Addr)(tb:Nat)(w:Fa)(e:Ending)(w':Fa):Prop:=(r=none->e=na (Oa false)/\Ba w w')/\
  ∀k x,r=some (k,x)->e=na (Oa true)/\∃w1,Ba w w1/\w'=(w1.setCell ⟨tb,0,none⟩ (Ia ka (k:Int))).setCell ⟨tb,1,none⟩ (x.val sent)
end
section
def wT:Nat->Nat
 |0=>215
 |1=>219
 |_=>222
def pT:Nat->Nat
 |0=>217
 |1=>220
 |_=>223
def uF:Nat->Nat
 |0=>260
 |1=>262
 |_=>264
def Uo(d m:Nat)(e:Er):Er:=match d with
 |0=>.place m e
 |1=>.inNode m e
 |_=>.inProof m e
def Er.Cp(c:Nat)(e:Er):Option (Nat×Er):=match c with
 |0=>e.sr
 |1=>e.Ls
 |_=>e.tt
theorem VJ(d m:Nat)(e:Er)(sent:Nat->Addr):(Uo d m e).val sent=ca (wT d) (Sa #[Ia ka (m:Int),e.val sent]):=by rcases d with _|_|d<;>rfl
theorem UO(d m:Nat)(e:Er):(Uo d m e).depth=e.depth+1:=by rcases d with _|_|d<;>rfl
theorem jN{d m:Nat}{e:Er}(h:(Uo d m e).Wb):e.Wb:=by rcases d with _|_|d<;>exact h
theorem qQ{d m:Nat}(e:Er)(hd:d<3):(Uo d m e).Cp d=some (m,e):=by rcases d with _|_|d<;>rfl
theorem VO{c d m:Nat}(e:Er)(hc:c<3)(hd:d<3)(h:d≠c):(Uo d m e).Cp c=e.Cp c:=by
 match c,d with
 |0,0|1,1|2,2=>exact absurd rfl h
 |0,1|0,2|1,0|1,2|2,0|2,1=>rfl
 |c+3,_|0,d+3|1,d+3|2,d+3=>omega
theorem Er.kinds(e:Er):(∃n,e=.base n)\/(∃x,e=.noNode x)\/∃d m x,d<3/\e=Uo d m x:=by
 cases e with
 |base n=>exact .inl ⟨n,rfl⟩
 |place m x=>exact .inr (.inr ⟨0,m,x,by omega,rfl⟩)
 |noNode x=>exact .inr (.inl ⟨x,rfl⟩)
 |inNode m x=>exact .inr (.inr ⟨1,m,x,by omega,rfl⟩)
 |inProof m x=>exact .inr (.inr ⟨2,m,x,by omega,rfl⟩)
theorem TU(d:Nat)(k:Int)(t:TypeId)(v:Value)(w:Fa):Calls oa (uF d) #[Sa #[Ia ka k,ca t v]] w λe w'=>e=na (ca t v)/\Ba w w':=by
 rcases d with _|_|d;.exact aF k t v w
 .exact sE k t v w
 .exact QH k t v w
theorem NR(d:Nat)(v:Value)(xT:TypeId)(w:Fa):(Instr.typeAssert (ca (wT d) v) xT 333 true).run oa w=.ok (Wa #[ca (wT d) v,Oa true]) w:=by
 rcases d with _|_|d;.exact XI v xT w
 .exact zI v xT w
 .exact dH v xT w
theorem WN(d:Nat)(v:Value)(xT:TypeId)(w:Fa):(Instr.typeAssert (ca (wT d) v) xT 347 true).run oa w=.ok (Wa #[da,Oa false]) w:=by rcases d with _|_|d<;>exact Xt underlying347 (by kernel_rfl) (by kernel_rfl) v xT w
theorem uT(d:Nat)(a b:Value)(w:Fa):(Go.method 535 (wT d) (Sa #[a,b]) "Unwrap").run oa w=.ok (uF d,Sa #[a,b]) w:=by rcases d with _|_|d<;>kernel_rfl
theorem ZL(d:Nat)(v:Value)(w:Fa):(ReflectliteType.typeOf #[ca (wT d) v]).run oa w=.ok (ca 328 (Sa #[Qa (some ⟨17,wT d,none⟩)])) w:=by rcases d with _|_|d<;>kernel_rfl
theorem sL(d c:Nat)(hd:d<3)(hc:c<3)(w:Fa):(ReflectliteType.relation "AssignableTo" ReflectliteType.assignableTo #[Sa #[Qa (some ⟨17,wT d,none⟩)],ca 328 (Sa #[Qa (some ⟨17,wT c,none⟩)])]).run oa w=.ok (Oa (decide (d=c))) w:=by
 obtain rfl|rfl|rfl:c=0\/c=1\/c=2:=by omega
 all_goals obtain rfl|rfl|rfl:d=0\/d=1\/d=2:=by omega
 all_goals kernel_rfl
theorem lN(d:Nat)(v:Value)(w:Fa):(callFunc (uF d) #[v]).run oa w=.ok (.enter (uF d) #[v]) w:=by rcases d with _|_|d<;>kernel_rfl
theorem Bv(c:Nat):oa.underlying (pT c)=some (.pointer (wT c)):=by rcases c with _|_|c<;>kernel_rfl
theorem tA(c:Nat):∃fs,oa.underlying (wT c)=some (.struct fs):=by
 rcases c with _|_|c;.exact⟨_,underlying215⟩
 .exact⟨_,underlying219⟩
 .exact⟨_,underlying222⟩
theorem OO(c:Nat)(w:Fa):(ReflectliteType.relation "AssignableTo" ReflectliteType.assignableTo #[Sa #[Qa (some ⟨17,395,none⟩)],ca 328 (Sa #[Qa (some ⟨17,wT c,none⟩)])]).run oa w=.ok (Oa false) w:=by rcases c with _|_|c<;>kernel_rfl
theorem bK(c:Nat)(w:Fa):(ReflectliteType.relation "AssignableTo" ReflectliteType.assignableTo #[Sa #[Qa (some ⟨17,381,none⟩)],ca 328 (Sa #[Qa (some ⟨17,wT c,none⟩)])]).run oa w=.ok (Oa false) w:=by rcases c with _|_|c<;>kernel_rfl
theorem zN(c:Nat)(t:Addr)(w:Fa):(ReflectliteValue.unpack (ca (pT c) (Qa (some t)))).run oa w=.ok (Sa #[Qa (some ⟨17,pT c,none⟩),Qa (some ⟨w.heap.size,0,none⟩),Ia .u64 150]) (w.alloc (ma #[Qa (some t)] (pT c))):=by rcases c with _|_|c<;>kernel_rfl
theorem LP(c:Nat)(a:Addr)(w:Fa):(ReflectliteValue.methodAny (ReflectliteValue.valueError "reflectlite.Value.Type" 0) (λt _ _ _=>ReflectliteType.toType t) #[Sa #[Qa (some ⟨17,pT c,none⟩),Qa (some a),Ia .u64 150]]).run oa w=.ok (ca 328 (Sa #[Qa (some ⟨17,pT c,none⟩)])) w:=by rcases c with _|_|c<;>kernel_rfl
theorem OT(c:Nat)(w:Fa):((ReflectliteType.abiMethod λt=>(λa:Nat=>Value.int IntKind.u8 (a:Int)) <$> Rtype.kind t) #[Qa (some ⟨17,pT c,none⟩)]).run oa w=.ok (Ia .u8 22) w:=by rcases c with _|_|c<;>kernel_rfl
theorem JL(c:Nat)(w:Fa):((ReflectliteType.abiMethod λt=>(λa:Nat=>Value.int IntKind.u8 (a:Int)) <$> Rtype.kind t) #[Qa (some ⟨17,wT c,none⟩)]).run oa w=.ok (Ia .u8 25) w:=by rcases c with _|_|c<;>kernel_rfl
theorem gF(c:Nat)(a:Addr)(w:Fa):(ReflectliteValue.parts (Sa #[Qa (some ⟨17,pT c,none⟩),Qa (some a),Ia .u64 150])).run oa w=.ok (some (pT c,a,150)) w:=by rcases c with _|_|c<;>kernel_rfl
theorem yR(c:Nat)(a p:Addr)(W:Fa)(ha:W.cell? a=some (Qa (some p))):(ReflectliteValue.method (ReflectliteValue.valueError "reflectlite.Value.IsNil" 0) ReflectliteValue.isNil #[Sa #[Qa (some ⟨17,pT c,none⟩),Qa (some a),Ia .u64 150]]).run oa W=.ok (Oa false) W:=by rw[XG];simp only[Je,gF,Result.andThen];simp[ReflectliteValue.isNil,loadVar,isAgg,underlying,Bv c,ha,Result.andThen]
theorem oL(c:Nat)(w:Fa):(ReflectliteType.method ReflectliteType.elem #[Sa #[Qa (some ⟨17,pT c,none⟩)]]).run oa w=.ok (ca 328 (Sa #[Qa (some ⟨17,wT c,none⟩)])) w:=by rcases c with _|_|c<;>kernel_rfl
theorem UP(c:Nat)(w:Fa):(ReflectliteType.relation "Implements" ReflectliteType.implements_ #[Sa #[Qa (some ⟨17,wT c,none⟩)],ca 328 (Sa #[Qa (some ⟨17,142,none⟩)])]).run oa w=.ok (Oa true) w:=by rcases c with _|_|c<;>kernel_rfl
theorem ZR(c:Nat)(a b:Value)(w:Fa):(ReflectliteValue.unpack (ca (wT c) (Sa #[a,b]))).run oa w=.ok (Sa #[Qa (some ⟨17,wT c,none⟩),Qa (some ⟨w.heap.size,0,none⟩),Ia .u64 153]) (w.alloc (ma #[a,b] (wT c))):=by rcases c with _|_|c<;>kernel_rfl
theorem GU(c:Nat)(w:Fa):(Rtype.elem? (pT c)).run oa w=.ok (some (wT c)) w:=by rcases c with _|_|c<;>kernel_rfl
theorem yK(c:Nat)(p:Addr)(w:Fa):(ReflectliteValue.mk (wT c) p ReflectliteValue.flagAddr).run oa w=.ok (Sa #[Qa (some ⟨17,wT c,none⟩),Qa (some p),Ia .u64 409]) w:=by rcases c with _|_|c<;>kernel_rfl
theorem JS(c:Nat)(a p:Addr)(W:Fa)(ha:W.cell? a=some (Qa (some p))):(ReflectliteValue.method (ReflectliteValue.valueError "reflectlite.Value.Elem" 0) ReflectliteValue.elem #[Sa #[Qa (some ⟨17,pT c,none⟩),Qa (some a),Ia .u64 150]]).run oa W=.ok (Sa #[Qa (some ⟨17,wT c,none⟩),Qa (some p),Ia .u64 409]) W:=by rw[XG];simp only[Je,gF,Result.andThen];simp[ReflectliteValue.elem,loadVar,isAgg,underlying,Bv c,ha,Result.andThen,GU,yK]
theorem wP(c:Nat)(a:Addr)(w:Fa):(ReflectliteValue.parts (Sa #[Qa (some ⟨17,wT c,none⟩),Qa (some a),Ia .u64 409])).run oa w=.ok (some (wT c,a,409)) w:=by rcases c with _|_|c<;>kernel_rfl
theorem fR(c:Nat)(a:Addr)(w:Fa):(ReflectliteValue.parts (Sa #[Qa (some ⟨17,wT c,none⟩),Qa (some a),Ia .u64 153])).run oa w=.ok (some (wT c,a,153)) w:=by rcases c with _|_|c<;>kernel_rfl
theorem gM(c:Nat)(w:Fa):(Rtype.directlyAssignable (wT c) (wT c)).run oa w=.ok true w:=by rcases c with _|_|c<;>kernel_rfl
theorem AR(c:Nat)(w:Fa):(sizeOf (wT c)).run oa w=.ok 2 w:=by rcases c with _|_|c<;>kernel_rfl
theorem PM(c:Nat)(tb bb:Nat)(x y o0 o1:Value)(hx:x.oneCell'=true)(hy:y.oneCell'=true)(W:Fa)(hb0:W.cell? ⟨bb,0,none⟩=some x)(hb1:W.cell? ⟨bb,1,none⟩=some y)(h0:W.cell? ⟨tb,0,none⟩=some o0)(h1:W.cell? ⟨tb,1,none⟩=some o1)(f0:W.frozen? ⟨tb,0,none⟩=false)(f1:W.frozen? ⟨tb,1,none⟩=false):(ReflectliteValue.set #[Sa #[Qa (some ⟨17,wT c,none⟩),Qa (some ⟨tb,0,none⟩),Ia .u64 409],Sa #[Qa (some ⟨17,wT c,none⟩),Qa (some ⟨bb,0,none⟩),Ia .u64 153]]).run oa W=.ok (Wa #[]) ((W.setCell ⟨tb,0,none⟩ x).setCell ⟨tb,1,none⟩ y):=by
 rw[pK];simp only[Je,wP,fR,Result.andThen];have b:=run_loadCells_list (P:=oa) W ⟨bb,0,none⟩ [x,y] (λj v hv=>by
  match j,hv with
  |0,hv=>cases hv;exact hb0
  |1,hv=>cases hv;exact hb1)
 simp only[Zu,Yq]at b;have d:=run_storeCells_cells (P:=oa) tb 0 [x,y] 0 W (λj a=>by
  match j,a with
  |0,_=>rw[show(⟨tb,0+0+0,none⟩:Addr)=⟨tb,0,none⟩from rfl,h0];rfl
  |1,_=>rw[show(⟨tb,0+0+1,none⟩:Addr)=⟨tb,1,none⟩from rfl,h1];rfl) (λj a=>by
  match j,a with
  |0,_=>exact f0
  |1,_=>exact f1) (λv hv=>by
  simp only[Yf,Vi,or_false]at hv;rcases hv with rfl|rfl;.exact hx
  .exact hy)
 obtain⟨f,e⟩:=tA c;simp[ReflectliteValue.flagAddr,loadVar,isAgg,underlying,e,Result.andThen,gM,AR,storeVar,Value.cells];rw[b];simp;rw[d];rfl
theorem lJ(c:Nat)(hc:c<3)(sent:Nat->Addr)(e0:Er)(h0:e0.Wb)(ab tb:Nat)(o0 o1:Value)(w:Fa)(ha:w.cell? ⟨ab,0,none⟩=some (Qa (some ⟨tb,0,none⟩)))(ht0:w.cell? ⟨tb,0,none⟩=some o0)(ht1:w.cell? ⟨tb,1,none⟩=some o1)(hf0:w.frozen? ⟨tb,0,none⟩=false)(hf1:w.frozen? ⟨tb,1,none⟩=false):Calls oa 181 #[e0.val sent,ca (pT c) (Qa (some ⟨tb,0,none⟩)),Sa #[Qa (some ⟨17,pT c,none⟩),Qa (some ⟨ab,0,none⟩),Ia .u64 150],ca 328 (Sa #[Qa (some ⟨17,wT c,none⟩)])] w (yi (e0.Cp c) sent tb w):=by
 have S:=@Xo oa 170 _ ReflectliteType.typeOf func170 (by kernel_rfl) (by kernel_rfl) (by kernel_rfl) (by kernel_rfl);have P:=@Xo oa 286 _ (ReflectliteType.relation "AssignableTo" ReflectliteType.assignableTo) func286 (by kernel_rfl) (by kernel_rfl) (by kernel_rfl) (by kernel_rfl);have T:=@Xo oa 178 _ (λC=>ReflectliteValue.unpack (C.getD 0 (Wa #[]))) func178 (by kernel_rfl) (by kernel_rfl) (by kernel_rfl) (by kernel_rfl);have Q:=@Xo oa 201 _ (ReflectliteValue.method (ReflectliteValue.valueError "reflectlite.Value.Elem" 0) ReflectliteValue.elem) func201 (by kernel_rfl) (by kernel_rfl) (by kernel_rfl) (by kernel_rfl);have R:=@Xo oa 202 _ ReflectliteValue.set func202 (by kernel_rfl) (by kernel_rfl) (by kernel_rfl) (by kernel_rfl);have mA:=EP;obtain⟨L,N,s⟩:=e0.shape sent;have D:=Hq (A2 s h0);have l:=Yo w _ ha;have g:=Yo w _ ht0;have H:=Hq (A6 ha ht0 ht1 hf0 hf1 (A2 l g));rw[s];clear s h0 ha ht0 ht1 hf0 hf1 l g;go_enter func181,ntmps181;go_wp2;go_loopg [0] e0.depth (λgh x wr=>∃e t v,gh=Er.depth e/\x=ca t v/\e.val sent=ca t v/\e.Wb/\e.Cp c=(e0.Cp c)/\Below (w.alloc (ma #[Qa (some ⟨17,pT c,none⟩),Qa (some ⟨ab,0,none⟩),Ia .u64 150] 288)).heap.size (w.alloc (ma #[Qa (some ⟨17,pT c,none⟩),Qa (some ⟨ab,0,none⟩),Ia .u64 150] 288)) wr)
 case atStart=>exact⟨e0,L,N,rfl,rfl,D.1,D.2,rfl,Zb _ _⟩
 case round=>
  obtain⟨e,t,v,rfl,rfl,b,j,f,a⟩:=hrel;rcases e.kinds with⟨n,rfl⟩|⟨e',rfl⟩|⟨d,m,e',hd,rfl⟩;.unfold Er.val at b;simp only[Jl]at b;obtain⟨rfl,rfl⟩:=b;have G:=BH;have u:=OO c;have F:=KL;have uE:=CH;have vE:=XH;have A:=Hq (A2 (f.symm.trans (by rcases c with _|_|c<;>rfl)) (Below.up a));clear j f a;go_wp2;go_ret;exact⟨λ_=>⟨rfl,A.2⟩,λk x q=>by rw[A.1]at q;cases q⟩
  .obtain rfl:e'=.base 3:=j;unfold Er.val at b;rw[show(Er.base 3).val sent=ca 395 (Qa (some (sent 3)))from rfl]at b;simp only[Jl]at b;obtain⟨rfl,rfl⟩:=b;have G:=RP;have u:=bK c;have F:=JU;have M:=DG;have K:=aH;have B:=Hq (λW=>eF 395 (Qa (some (sent 3))) W);have A:=Hq (A2 f a);clear f a;go_wp2_with (go_at_call 298;refine(B _).mono ?_;rintro J O ⟨rfl,r⟩)
   go_roundg 0
   case measure=>exact Jo _
   case rel=>exact⟨.base 3,_,_,rfl,rfl,rfl,by simp[Er.Wb,Gq],A.1▸(by rcases c with _|_|c<;>rfl),Below.behind A.2 r⟩
  .obtain⟨y,z,o⟩:=e'.shape sent;rw[VJ,o]at b;simp only[Jl]at b;obtain⟨rfl,rfl⟩:=b;have G:=ZL d;have u:=sL d c hd hc;have I:=Hq (UO d m e');by_cases h:d=c;.subst h;rw[Z5 rfl]at u;obtain⟨ha,ht0,ht1,hf0,hf1,l,g⟩:=H.o;have vS:=ZR d;obtain⟨U,_⟩:=Bf a 0 (v:=Qa (some ⟨17,pT d,none⟩)) rfl;obtain⟨X,_⟩:=Bf a 1 (v:=Qa (some ⟨ab,0,none⟩)) rfl;obtain⟨Y,_⟩:=Bf a 2 (v:=Ia .u64 150) rfl;have i:=Below.up a;have E:=i.size;have el:=JS d ⟨ab,0,none⟩ ⟨tb,0,none⟩ wr ((i.cell l).trans ha);have st:=PM d tb wr.heap.size (Ia ka (m:Int)) (ca y z) o0 o1 rfl rfl (wr.alloc (ma #[Ia ka (m:Int),ca y z] (wT d))) (by rw[Ze];rfl) (by rw[Ze];rfl) ((Z8 _ _ _ (by omega)).trans ((i.cell g).trans ht0)) ((Z8 _ _ _ (by omega)).trans ((i.cell (p:=⟨tb,1,none⟩) g).trans ht1)) ((Vr _ _ _ (by omega)).trans ((i.frozen g).trans hf0)) ((Vr _ _ _ (by omega)).trans ((i.frozen (p:=⟨tb,1,none⟩) g).trans hf1));have A:=Hq (A3 (f.symm.trans (qQ e' hd)) o i);clear o j f a i E ha ht0 ht1 hf0 hf1 l g hc hd;go_wp2;go_ret;refine⟨λq=>(by rw[A.1]at q;cases q),λk x q=>?_⟩;rw[A.1]at q;cases q;exact⟨rfl,_,A.2.2.alloc A.2.2.size _,by rw[A.2.1]⟩
   .rw[Zt h]at u;have F:=WN d;have M:=NR d;have K:=uT d;have Z:=lN d;have B:=Hq (λW=>TU d (m:Int) y z W);have A:=Hq (A4 o (jN j) ((VO e' hc hd h).symm.trans f) a);clear o j f a h hc hd;go_wp2_with fail
    refine(B _).mono ?_;rintro J O ⟨rfl,r⟩;go_wp2_with fail
    go_roundg e'.depth
    case measure=>rw[I.o];exact Jo _
    case rel=>exact⟨e',y,z,rfl,rfl,A.1,A.2.1,A.2.2.1,Below.behind A.2.2.2 r⟩
theorem Br(c:Nat)(hc:c<3)(sent:Nat->Addr)(e0:Er)(h0:e0.Wb)(tb:Nat)(o0 o1:Value)(w:Fa)(hg:w.cell? ⟨14,0,none⟩=some (ca 328 (Sa #[Qa (some ⟨17,142,none⟩)])))(ht0:w.cell? ⟨tb,0,none⟩=some o0)(ht1:w.cell? ⟨tb,1,none⟩=some o1)(hf0:w.frozen? ⟨tb,0,none⟩=false)(hf1:w.frozen? ⟨tb,1,none⟩=false):Calls oa 139 #[e0.val sent,ca (pT c) (Qa (some ⟨tb,0,none⟩))] w (yi (e0.Cp c) sent tb w):=by
 have H:=@Xo oa 178 _ (λl=>ReflectliteValue.unpack (l.getD 0 (Wa #[]))) func178 (by kernel_rfl) (by kernel_rfl) (by kernel_rfl) (by kernel_rfl);have I:=@Xo oa 179 _ (ReflectliteValue.methodAny (ReflectliteValue.valueError "reflectlite.Value.Type" 0) (λt _ _ _=>ReflectliteType.toType t)) func179 (by kernel_rfl) (by kernel_rfl) (by kernel_rfl) (by kernel_rfl);have G:=@Xo oa 180 _ (ReflectliteValue.method (ReflectliteValue.valueError "reflectlite.Value.IsNil" 0) ReflectliteValue.isNil) func180 (by kernel_rfl) (by kernel_rfl) (by kernel_rfl) (by kernel_rfl);have E:=@Xo oa 256 _ (ReflectliteType.abiMethod λt=>do pure (Ia .u8 (<-Rtype.kind t))) func256 (by kernel_rfl) (by kernel_rfl) (by kernel_rfl) (by kernel_rfl);have F:=@Xo oa 288 _ (ReflectliteType.method ReflectliteType.elem) func288 (by kernel_rfl) (by kernel_rfl) (by kernel_rfl) (by kernel_rfl);have D:=@Xo oa 289 _ (ReflectliteType.relation "Implements" ReflectliteType.implements_) func289 (by kernel_rfl) (by kernel_rfl) (by kernel_rfl) (by kernel_rfl);have L:=dL;have J:=gR;have K:=kO;have O:=zN c;have P:=LP c;have Q:=OT c;have R:=JL c;have S:=oL c;have T:=UP c;have i:=Yo w _ hg;have b:=Yo w _ ht0;obtain⟨W,g⟩:∃W,W=(w.alloc (ma #[Qa (some ⟨tb,0,none⟩)] (pT c))).alloc (ma #[Qa (some ⟨17,pT c,none⟩),Qa (some ⟨w.heap.size,0,none⟩),Ia .u64 150] 288):=⟨_,rfl⟩;have a:Ba w W:=by rw[g];exact((Zb _ _).alloc (Za _) _).alloc (by simp) _
 have n:W.cell? ⟨w.heap.size,0,none⟩=some (Qa (some ⟨tb,0,none⟩)):=by rw[g,Z8 _ _ _ (by simp),Ze];rfl
 have v:=yR c ⟨w.heap.size,0,none⟩ ⟨tb,0,none⟩ W n;have r:=(a.cell i).trans hg;have d:=Hq (lJ c hc sent e0 h0 w.heap.size tb o0 o1 W n ((a.cell b).trans ht0) ((a.cell (p:=⟨tb,1,none⟩) b).trans ht1) ((a.frozen b).trans hf0) ((a.frozen (p:=⟨tb,1,none⟩) b).trans hf1));have A:Aside (Ba w W):=a;obtain⟨M,N,j⟩:=e0.shape sent;rw[j]at d⊢;rw[g]at v r d A;clear j a n i b hg ht0 ht1 hf0 hf1 g;rcases hr:e0.Cp c with _|⟨m,x⟩
 .have f:=Hq (d.mono λe z h=>h.1 hr);clear d hr h0;go_enter func139,ntmps139;go_wp2_with (go_at_call 181;refine(f.o).mono ?_;rintro s B ⟨rfl,o⟩)
  go_ret;exact⟨λ_=>⟨rfl,Below.behind A o⟩,λk x q=>by cases q⟩
 .have f:=Hq (d.mono λe z h=>h.2 m x hr);clear d hr h0;go_enter func139,ntmps139;go_wp2_with (go_at_call 181;refine(f.o).mono ?_;rintro s B ⟨rfl,C,o,rfl⟩)
  go_ret;refine⟨λq=>(by cases q),λk y u=>?_⟩;cases u;exact⟨rfl,C,Below.behind A o,rfl⟩
end
section
open Go.RowKit
structure Fc(tb:Nat)(w w':Fa):Prop where
 os:w'.os=w.os
 tape:w'.tape=w.tape
 output:w'.output=w.output
 size:w.heap.size<=w'.heap.size
 block:∀k,k<w.heap.size->k≠tb->w'.heap[k]? =w.heap[k]?
variable{tb:Nat}{w w':Fa}
theorem Fc.below{B:Nat}{w0:Fa}(h:Fc tb w w')(hb:Below B w0 w)(h1:B<=tb)(h2:B<=w.heap.size):Below B w0 w':=⟨h.os.trans hb.os,h.tape.trans hb.tape,h.output.trans hb.output,Z2 hb.size h.size,λk hk=>(h.block k (by omega) (by omega)).trans (hb.block k hk)⟩
theorem Fc.refl(tb:Nat)(w:Fa):Fc tb w w:=⟨rfl,rfl,rfl,Za _,λ_ _ _=>rfl⟩
theorem Fc.trans{tb:Nat}{w w1 w2:Fa}(h:Fc tb w w1)(k:Fc tb w1 w2):Fc tb w w2:=⟨k.os.trans h.os,k.tape.trans h.tape,k.output.trans h.output,Z2 h.size k.size,λi hi hne=>(k.block i (Zm hi h.size) hne).trans (h.block i hi hne)⟩
theorem Fc.xa(h:Ba w w'):Fc tb w w':=⟨h.os,h.tape,h.output,h.size,λk hk _=>h.block k hk⟩
def Lb(w:Fa)(b:Nat)(cs:List Value):Prop:=b<w.heap.size/\∀j v,cs[j]? =some v->w.cell? ⟨b,j,none⟩=some v/\w.frozen? ⟨b,j,none⟩=false
theorem Lb.fresh(w:Fa)(cs:List Value)(t:TypeId):Lb (w.alloc (ma cs.toArray t)) w.heap.size cs:=⟨by simp,λj v h=>⟨by rw[Ze];simpa using h,Xg _ _ _ _⟩⟩
variable{b:Nat}{cs:List Value}
theorem Lb.Cb(h:Lb w b cs)(e:w'.heap[b]? =w.heap[b]?)(hs:w.heap.size<=w'.heap.size):Lb w' b cs:=⟨Zm h.1 hs,λj v hj=>⟨(Zc e).trans (h.2 j v hj).1,(Yd e).trans (h.2 j v hj).2⟩⟩
theorem Lb.below(h:Lb w b cs)(hb:Ba w w'):Lb w' b cs:=h.Cb (hb.block b h.1) hb.size
theorem Lb.alloc{w:Fa}{b:Nat}{cs:List Value}(h:Lb w b cs)(o:Obj):Lb (w.alloc o) b cs:=h.Cb (Z0 _ _ _ h.1) (by simp)
theorem Lb.only(h:Lb w b cs)(ho:Fc tb w w')(hne:b≠tb):Lb w' b cs:=h.Cb (ho.block b h.1 hne) ho.size
theorem Lb.drew{w:Fa}{b:Nat}{cs:List Value}(h:Lb w b cs):Lb w.drew b cs:=h
open Go.RowKit Go.Stop
theorem xu(w:Fa):Calls oa 75 #[da] w λe w'=>e=na (Ia ka 0)/\w'=w:=by go_enter func75,ntmps75;go_wp2;go_ret;exact⟨rfl,rfl⟩
theorem Sz:∀e:Er,e.Wb->e.num∈Gq
 | .base _,h=>h
 | .place _ e,h=>Sz e h
 | .noNode _,_=>by simp[Er.num,Gq]
 | .inNode _ e,h=>Sz e h
 | .inProof _ e,h=>Sz e h
theorem lF(sent:Nat->Addr)(e0:Er)(h0:e0.Wb)(w:Fa)(hF:Qb w sent):Calls oa 75 #[e0.val sent] w λe w'=>e=na (Ia ka (e0.num:Int))/\Ba w w':=by
 obtain⟨t0,v0,u⟩:=e0.shape sent;have c:Hid (∀W,Ba w W->∀b∈Gq,b≠3->Calls oa 126 #[ca t0 v0,ca 395 (Qa (some (sent b)))] W λe w'=>e=na (Oa (decide (e0.num=b)))/\Ba W w'):=by intro W hW b a h3;have :=oT sent b a h3 e0 h0 W (hF.below hW);rw[u]at this;exact this
 have d:Hid (Qb w sent):=hF;have N:=Sz e0 h0;obtain⟨n,I⟩:=nm e0.num;rw[I]at N c⊢;rw[u];clear u h0 hF I;have v:Hid (Ba w w):=Zb _ _;have Z:w.cell? ⟨1,0,none⟩=some (ca 395 (Qa (some (sent 1)))):=d.var 1 (by decide);go_enter func75,ntmps75;go_wp2_with fail
 refine(c _ v 1 (by decide) (by decide)).mono ?_;rintro e O ⟨rfl,a⟩;have h:Hid (Ba w O):=Below.behind v a;clear a Z;have g1:O.cell? ⟨2,0,none⟩=some (ca 395 (Qa (some (sent 2)))):=(d.below h.o).var 2 (by decide);by_cases x:n=1;.subst x;go_wp2;go_ret;exact⟨rfl,h.o⟩
 have ag:decide (n=1)=false:=Zt x;go_wp2_with fail
 refine(c _ h 2 (by decide) (by decide)).mono ?_;rintro e Q ⟨rfl,a⟩;have i:Hid (Ba w Q):=Below.behind h a;clear a g1;have g2:Q.cell? ⟨3,0,none⟩=some (ca 395 (Qa (some (sent 4)))):=(d.below i.o).var 4 (by decide);by_cases y:n=2;.subst y;go_wp2;go_ret;exact⟨rfl,i.o⟩
 have ah:decide (n=2)=false:=Zt y;go_wp2_with fail
 refine(c _ i 4 (by decide) (by decide)).mono ?_;rintro e R ⟨rfl,a⟩;have j:Hid (Ba w R):=Below.behind i a;clear a g2;have g3:R.cell? ⟨0,0,none⟩=some (ca 395 (Qa (some (sent 5)))):=(d.below j.o).var 5 (by decide);by_cases z:n=4;.subst z;go_wp2;go_ret;exact⟨rfl,j.o⟩
 have ai:decide (n=4)=false:=Zt z;go_wp2_with fail
 refine(c _ j 5 (by decide) (by decide)).mono ?_;rintro e S ⟨rfl,a⟩;have k:Hid (Ba w S):=Below.behind j a;clear a g3;have g4:S.cell? ⟨4,0,none⟩=some (ca 395 (Qa (some (sent 6)))):=(d.below k.o).var 6 (by decide);by_cases B:n=5;.subst B;go_wp2;go_ret;exact⟨rfl,k.o⟩
 have aj:decide (n=5)=false:=Zt B;go_wp2_with fail
 refine(c _ k 6 (by decide) (by decide)).mono ?_;rintro e T ⟨rfl,a⟩;have l:Hid (Ba w T):=Below.behind k a;clear a g4;have g5:T.cell? ⟨5,0,none⟩=some (ca 395 (Qa (some (sent 7)))):=(d.below l.o).var 7 (by decide);by_cases C:n=6;.subst C;go_wp2;go_ret;exact⟨rfl,l.o⟩
 have ak:decide (n=6)=false:=Zt C;go_wp2_with fail
 refine(c _ l 7 (by decide) (by decide)).mono ?_;rintro e U ⟨rfl,a⟩;have m:Hid (Ba w U):=Below.behind l a;clear a g5;have g6:U.cell? ⟨6,0,none⟩=some (ca 395 (Qa (some (sent 8)))):=(d.below m.o).var 8 (by decide);by_cases D:n=7;.subst D;go_wp2;go_ret;exact⟨rfl,m.o⟩
 have al:decide (n=7)=false:=Zt D;go_wp2_with fail
 refine(c _ m 8 (by decide) (by decide)).mono ?_;rintro e V ⟨rfl,a⟩;have o:Hid (Ba w V):=Below.behind m a;clear a g6;have g7:V.cell? ⟨7,0,none⟩=some (ca 395 (Qa (some (sent 9)))):=(d.below o.o).var 9 (by decide);by_cases E:n=8;.subst E;go_wp2;go_ret;exact⟨rfl,o.o⟩
 have am:decide (n=8)=false:=Zt E;go_wp2_with fail
 refine(c _ o 9 (by decide) (by decide)).mono ?_;rintro e X ⟨rfl,a⟩;have p:Hid (Ba w X):=Below.behind o a;clear a g7;have g8:X.cell? ⟨8,0,none⟩=some (ca 395 (Qa (some (sent 10)))):=(d.below p.o).var 10 (by decide);by_cases F:n=9;.subst F;go_wp2;go_ret;exact⟨rfl,p.o⟩
 have ao:decide (n=9)=false:=Zt F;go_wp2_with fail
 refine(c _ p 10 (by decide) (by decide)).mono ?_;rintro e Y ⟨rfl,a⟩;have q:Hid (Ba w Y):=Below.behind p a;clear a g8;have g9:Y.cell? ⟨9,0,none⟩=some (ca 395 (Qa (some (sent 11)))):=(d.below q.o).var 11 (by decide);by_cases G:n=10;.subst G;go_wp2;go_ret;exact⟨rfl,q.o⟩
 have aq:decide (n=10)=false:=Zt G;go_wp2_with fail
 refine(c _ q 11 (by decide) (by decide)).mono ?_;rintro e J ⟨rfl,a⟩;have f:Hid (Ba w J):=Below.behind q a;clear a g9;have L:J.cell? ⟨10,0,none⟩=some (ca 395 (Qa (some (sent 12)))):=(d.below f.o).var 12 (by decide);by_cases H:n=11;.subst H;go_wp2;go_ret;exact⟨rfl,f.o⟩
 have ar:decide (n=11)=false:=Zt H;go_wp2_with fail
 refine(c _ f 12 (by decide) (by decide)).mono ?_;rintro e K ⟨rfl,a⟩;have g:Hid (Ba w K):=Below.behind f a;clear a L;have M:K.cell? ⟨11,0,none⟩=some (ca 395 (Qa (some (sent 13)))):=(d.below g.o).var 13 (by decide);by_cases s:n=12;.subst s;go_wp2;go_ret;exact⟨rfl,g.o⟩
 have ac:decide (n=12)=false:=Zt s;go_wp2_with fail
 refine(c _ g 13 (by decide) (by decide)).mono ?_;rintro e P ⟨rfl,a⟩;have r:Hid (Ba w P):=Below.behind g a;clear a M;by_cases t:n=13;.subst t;go_wp2;go_ret;exact⟨rfl,r.o⟩
 have ae:decide (n=13)=false:=Zt t;obtain rfl:n=3:=by simp only[Gq,Yf,Vi,or_false]at N;omega
 go_wp2;go_ret;exact⟨rfl,r.o⟩
def Er.at_(e:Er):Nat:=(e.sr.map (·.1)).getD 0
def Er.node(e:Er):Nat:=(e.Ls.map (·.1)).getD 0
def Er.proof(e:Er):Nat:=(e.tt.map (·.1)).getD 0
abbrev Ki(err proof node at_:Nat):Value:=Sa #[Ia ka (err:Int),Ia ka (proof:Int),Ia ka (node:Int),Ia ka (at_:Int)]
theorem yi.soft{r:Option (Nat×Er)}{sent:Nat->Addr}{o0:Value}(ht:w.cell? ⟨tb,0,none⟩=some o0){e:Ending}(h:yi r sent tb w e w'):∃b:Bool,e=na (Oa b)/\Fc tb w w'/\(b=true->w'.cell? ⟨tb,0,none⟩=some (Ia ka (((r.map (·.1)).getD 0:Nat):Int)))/\(b=false->(r.map (·.1)).getD 0=0):=by
 have d:=Yo w _ ht;rcases r with _|⟨k,x⟩;.obtain⟨rfl,a⟩:=h.1 rfl;exact⟨false,rfl,⟨a.os,a.tape,a.output,a.size,λk g _=>a.block k g⟩,by simp,by simp⟩
 .obtain⟨rfl,i,a,rfl⟩:=h.2 k x rfl;refine⟨true,rfl,⟨a.os,a.tape,a.output,by simpa using a.size,λj f c=>?_⟩,λ_=>?_,by simp⟩;.rw[Zd _ _ _ _ c,Zd _ _ _ _ c];exact a.block j f
  .rw[Zp _ _ _ _ (by simp)];exact Ys _ _ _ ((a.cell d).trans ht)
structure Qc(w:Fa)(b:Nat)(x0 x1 x2 x3:Nat):Prop where
 lt:b<w.heap.size
 c0:w.cell? ⟨b,0,none⟩=some (Ia ka (x0:Int))
 c1:w.cell? ⟨b,1,none⟩=some (Ia ka (x1:Int))
 c2:w.cell? ⟨b,2,none⟩=some (Ia ka (x2:Int))
 c3:w.cell? ⟨b,3,none⟩=some (Ia ka (x3:Int))
 free:∀j,j<4->w.frozen? ⟨b,j,none⟩=false
variable{x0 x1 x2 x3:Nat}
theorem Qc.Cb(h:Qc w b x0 x1 x2 x3)(e:w'.heap[b]? =w.heap[b]?)(hs:w.heap.size<=w'.heap.size):Qc w' b x0 x1 x2 x3:=⟨Zm h.lt hs,(Zc e).trans h.c0,(Zc e).trans h.c1,(Zc e).trans h.c2,(Zc e).trans h.c3,λj hj=>(Yd e).trans (h.free j hj)⟩
theorem Qc.fresh(w:Fa)(x0 x1 x2 x3:Nat)(t:TypeId):Qc (w.alloc (ma #[Ia ka (x0:Int),Ia ka (x1:Int),Ia ka (x2:Int),Ia ka (x3:Int)] t)) w.heap.size x0 x1 x2 x3:=⟨by simp,by rw[Ze];rfl,by rw[Ze];rfl,by rw[Ze];rfl,by rw[Ze];rfl,λ_ _=>Xg _ _ _ _⟩
theorem Qc.Sk(h:Qc w b x0 x1 x2 x3)(o:Obj):Qc (w.alloc o) b x0 x1 x2 x3:=h.Cb (Z0 _ _ _ h.lt) (by simp)
theorem Qc.only(h:Qc w b x0 x1 x2 x3)(ho:Fc tb w w')(hne:b≠tb):Qc w' b x0 x1 x2 x3:=h.Cb (ho.block b h.lt hne) ho.size
theorem Qc.other(h:Qc w b x0 x1 x2 x3){a:Addr}(hne:b≠a.block)(u:Value):Qc (w.setCell a u) b x0 x1 x2 x3:=h.Cb (Zd _ _ _ _ hne) (by simp)
theorem Qc.kj(h:Qc w b x0 x1 x2 x3)(y:Nat):Qc (w.setCell ⟨b,1,none⟩ (Ia ka (y:Int))) b x0 y x2 x3:=⟨by simpa using h.lt,(Zp _ _ _ _ (by simp)).trans h.c0,Ys _ _ _ h.c1,(Zp _ _ _ _ (by simp)).trans h.c2,(Zp _ _ _ _ (by simp)).trans h.c3,λj hj=>by rw[Z7];exact h.free j hj⟩
theorem Qc.tm(h:Qc w b x0 x1 x2 x3)(y:Nat):Qc (w.setCell ⟨b,2,none⟩ (Ia ka (y:Int))) b x0 x1 y x3:=⟨by simpa using h.lt,(Zp _ _ _ _ (by simp)).trans h.c0,(Zp _ _ _ _ (by simp)).trans h.c1,Ys _ _ _ h.c2,(Zp _ _ _ _ (by simp)).trans h.c3,λj hj=>by rw[Z7];exact h.free j hj⟩
theorem Qc.eB(h:Qc w b x0 x1 x2 x3)(y:Nat):Qc (w.setCell ⟨b,3,none⟩ (Ia ka (y:Int))) b x0 x1 x2 y:=⟨by simpa using h.lt,(Zp _ _ _ _ (by simp)).trans h.c0,(Zp _ _ _ _ (by simp)).trans h.c1,(Zp _ _ _ _ (by simp)).trans h.c2,Ys _ _ _ h.c3,λj hj=>by rw[Z7];exact h.free j hj⟩
def Ht(w:Fa):Prop:=w.cell? ⟨14,0,none⟩=some (ca 328 (Sa #[Qa (some ⟨17,142,none⟩)]))
def Rk(f:Er->Option (Nat×Er))(e0:Er)(tb:Nat)(W:Fa)(e:Ending)(w':Fa):Prop:=∃b:Bool,e=na (Oa b)/\Fc tb W w'/\(b=true->w'.cell? ⟨tb,0,none⟩=some (Ia ka ((((f e0).map (·.1)).getD 0:Nat):Int)))/\(b=false->((f e0).map (·.1)).getD 0=0)
theorem wH(w:Fa):Calls oa 92 #[da] w λe w'=>e=na (Ki 0 0 0 0)/\Ba w w':=by
 have a:=Hq (λt W=>TS t W);go_enter func92,ntmps92;go_wp2_with (first| (go_at_call 75;refine(xu _).mono ?_;rintro e b ⟨rfl,rfl⟩)| (go_at_call 139;refine(a _ _).mono ?_;rintro e b ⟨rfl,rfl⟩))
 refine Zv (v:=Ki 0 0 0 0) (by simp[results,results92,go_sem]) rfl ⟨rfl,?_⟩;exact(((((Zb _ _).alloc (Za _) _).alloc (by simp) _).alloc (by simp;omega) _).alloc (by simp;omega) _).alloc (by simp;omega) _
theorem jG(sent:Nat->Addr)(e0:Er)(h0:e0.Wb)(w:Fa)(hF:Qb w sent)(hT:Ht w):Calls oa 92 #[e0.val sent] w λe w'=>e=na (Ki e0.num e0.proof e0.node e0.at_)/\Ba w w':=by
 obtain⟨E,F,p⟩:=e0.shape sent;have z:14<w.heap.size:=Yo w _ hT;have HN:Hid (∀W,Ba w W->Calls oa 75 #[ca E F] W λe w'=>e=na (Ia ka (e0.num:Int))/\Ba W w'):=λW x=>p▸lF sent e0 h0 W (hF.below x);have HP:Hid (∀W f n o,Ba w W->W.cell? ⟨f,0,none⟩=some n->W.cell? ⟨f,1,none⟩=some o->W.frozen? ⟨f,0,none⟩=false->W.frozen? ⟨f,1,none⟩=false->Calls oa 139 #[ca E F,ca 217 (Qa (some ⟨f,0,none⟩))] W (Rk Er.sr e0 f W)):=λW f n o x a b c d=>p▸(Br 0 (by decide) sent e0 h0 f n o W ((x.cell z).trans hT) a b c d).mono λ_ _ h=>h.soft a;have HQ:Hid (∀W f n o,Ba w W->W.cell? ⟨f,0,none⟩=some n->W.cell? ⟨f,1,none⟩=some o->W.frozen? ⟨f,0,none⟩=false->W.frozen? ⟨f,1,none⟩=false->Calls oa 139 #[ca E F,ca 220 (Qa (some ⟨f,0,none⟩))] W (Rk Er.Ls e0 f W)):=λW f n o x a b c d=>p▸(Br 1 (by decide) sent e0 h0 f n o W ((x.cell z).trans hT) a b c d).mono λ_ _ h=>h.soft a;have HR:Hid (∀W f n o,Ba w W->W.cell? ⟨f,0,none⟩=some n->W.cell? ⟨f,1,none⟩=some o->W.frozen? ⟨f,0,none⟩=false->W.frozen? ⟨f,1,none⟩=false->Calls oa 139 #[ca E F,ca 223 (Qa (some ⟨f,0,none⟩))] W (Rk Er.tt e0 f W)):=λW f n o x a b c d=>p▸(Br 2 (by decide) sent e0 h0 f n o W ((x.cell z).trans hT) a b c d).mono λ_ _ h=>h.soft a;rw[p];clear p h0 hF hT z;go_enter func92,ntmps92;go_wp2_with fail
 refine(HN _ ((Zb _ _).alloc (Za _) _)).mono ?_;rintro e g ⟨rfl,y⟩;have l:Aside (Ba w g):=Below.up y;have D:Aside (Qc g w.heap.size 0 0 0 0):=(Qc.fresh w 0 0 0 0 _).Cb (y.block _ (by simp)) y.size;clear y;go_wp2_with fail
 refine(HP _ (g.heap.size+1) (Ia ka 0) da ?b1 ?c1 ?d1 ?f1 ?g1).mono ?_;case b1=>exact(l.alloc l.size _).alloc (by have :=l.size;simp;omega) _
 case c1=>go_simp
 case d1=>go_simp
 case f1=>go_simp
 case g1=>go_simp
 rintro e I ⟨b,rfl,i,m,j⟩;have r:Aside (Ba w I/\Qc I w.heap.size 0 0 0 0/\Qc I g.heap.size e0.num 0 0 0):=by
  have q:=D.o;have u:=Qc.fresh g e0.num 0 0 0 91;have X:=q.lt;have Y:=u.lt;have h6:=l.size;refine⟨i.below ((l.alloc l.size _).alloc (by have :=l.size;simp;omega) _) (by omega) (by simp;omega),?_,?_⟩;.exact Qc.only ((q.Sk _).Sk _) i (by omega)
  .exact Qc.only ((Qc.fresh g e0.num 0 0 0 _).Sk _) i (by omega)
 have Z:Aside (_/\_):=⟨m,j⟩;clear i m j;go_upto_if 12 with fail
 go_cut [] (λwc=>Ba w wc/\Qc wc w.heap.size 0 0 0 0/\Qc wc g.heap.size e0.num 0 0 e0.at_)
 case first=>
  cases b with
  |false=>go_wp2;go_meet;have j:e0.at_=0:=Z.2 (by first|trivial|rfl);rw[j];exact r.o
  |true=>have m:I.cell? ⟨g.heap.size+1,0,none⟩=some (Ia ka ((e0.at_:Nat):Int)):=Z.1 rfl;have L:=r.2.2.c3;have M:=r.2.2.free 3 (by omega);go_wp2;go_meet;exact⟨r.1.setCell (by simp only;exact l.size) _,r.2.1.other (by have :=D.lt;simp only;omega) _,r.2.2.eB _⟩
 obtain⟨N,Q,T⟩:=hcut;have B:Aside (Ba w wc/\Qc wc w.heap.size 0 0 0 0/\Qc wc g.heap.size e0.num 0 0 e0.at_):=⟨N,Q,T⟩;clear N Q T r Z;obtain⟨G,rfl⟩:∃G:Fa,G=wc:=⟨_,rfl⟩;go_wp2_with fail
 refine(HQ _ (G.heap.size) (Ia ka 0) da ?b2 ?c2 ?d2 ?f2 ?g2).mono ?_;case b2=>exact B.1.alloc B.1.size _
 case c2=>go_simp
 case d2=>go_simp
 case f2=>go_simp
 case g2=>go_simp
 rintro e J ⟨b,rfl,i,m,j⟩;have s:Aside (Ba w J/\Qc J w.heap.size 0 0 0 0/\Qc J g.heap.size e0.num 0 0 e0.at_):=by
  have q:=B.2.1;have u:=B.2.2;have X:=q.lt;have Y:=u.lt;have h6:=l.size;refine⟨i.below (B.1.alloc B.1.size _) (by omega) (by simp;omega),?_,?_⟩;.exact Qc.only (q.Sk _) i (by omega)
  .exact Qc.only (u.Sk _) i (by omega)
 have Z:Aside (_/\_):=⟨m,j⟩;clear i m j;go_upto_if 18 with fail
 go_cut [] (λwc=>Ba w wc/\Qc wc w.heap.size 0 0 0 0/\Qc wc g.heap.size e0.num 0 e0.node e0.at_)
 case first=>
  cases b with
  |false=>go_wp2;go_meet;have j:e0.node=0:=Z.2 (by first|trivial|rfl);rw[j];exact s.o
  |true=>have m:J.cell? ⟨G.heap.size,0,none⟩=some (Ia ka ((e0.node:Nat):Int)):=Z.1 rfl;have L:=s.2.2.c2;have M:=s.2.2.free 2 (by omega);go_wp2;go_meet;exact⟨s.1.setCell (by simp only;exact l.size) _,s.2.1.other (by have :=D.lt;simp only;omega) _,s.2.2.tm _⟩
 obtain⟨O,R,U⟩:=hcut;have C:Aside (Ba w wc/\Qc wc w.heap.size 0 0 0 0/\Qc wc g.heap.size e0.num 0 e0.node e0.at_):=⟨O,R,U⟩;clear O R U s Z;obtain⟨H,rfl⟩:∃H:Fa,H=wc:=⟨_,rfl⟩;go_wp2_with fail
 refine(HR _ (H.heap.size) (Ia ka 0) da ?b3 ?c3 ?d3 ?f3 ?g3).mono ?_;case b3=>exact C.1.alloc C.1.size _
 case c3=>go_simp
 case d3=>go_simp
 case f3=>go_simp
 case g3=>go_simp
 rintro e K ⟨b,rfl,i,m,j⟩;have t:Aside (Ba w K/\Qc K w.heap.size 0 0 0 0/\Qc K g.heap.size e0.num 0 e0.node e0.at_):=by
  have q:=C.2.1;have u:=C.2.2;have X:=q.lt;have Y:=u.lt;have h6:=l.size;refine⟨i.below (C.1.alloc C.1.size _) (by omega) (by simp;omega),?_,?_⟩;.exact Qc.only (q.Sk _) i (by omega)
  .exact Qc.only (u.Sk _) i (by omega)
 have Z:Aside (_/\_):=⟨m,j⟩;clear i m j;go_upto_if 24 with fail
 go_cut [] (λwc=>Ba w wc/\Qc wc w.heap.size 0 0 0 0/\Qc wc g.heap.size e0.num e0.proof e0.node e0.at_)
 case first=>
  cases b with
  |false=>go_wp2;go_meet;have j:e0.proof=0:=Z.2 (by first|trivial|rfl);rw[j];exact t.o
  |true=>have m:K.cell? ⟨H.heap.size,0,none⟩=some (Ia ka ((e0.proof:Nat):Int)):=Z.1 rfl;have L:=t.2.2.c1;have M:=t.2.2.free 1 (by omega);go_wp2;go_meet;exact⟨t.1.setCell (by simp only;exact l.size) _,t.2.1.other (by have :=D.lt;simp only;omega) _,t.2.2.kj _⟩
 obtain⟨P,S,V⟩:=hcut;have k:Aside (Ba w wc/\Qc wc w.heap.size 0 0 0 0/\Qc wc g.heap.size e0.num e0.proof e0.node e0.at_):=⟨P,S,V⟩;clear P S V t Z;obtain⟨v4,rfl⟩:∃v4:Fa,v4=wc:=⟨_,rfl⟩;have L:=k.2.2.c0;have M:=k.2.2.c1;have k2:=k.2.2.c2;have k3:=k.2.2.c3;have r0:=k.2.1.c0;have r1:=k.2.1.c1;have r2:=k.2.1.c2;have r3:=k.2.1.c3;have f0:=k.2.1.free 0 (by omega);have f1:=k.2.1.free 1 (by omega);have f2:=k.2.1.free 2 (by omega);have f3:=k.2.1.free 3 (by omega);go_wp2;refine Zv (v:=Ki e0.num e0.proof e0.node e0.at_) (by simp[results,results92,go_sem,r0,r1,r2,r3]) rfl ⟨rfl,?_⟩;exact(((k.1.setCell (Za _) _).setCell (Za _) _).setCell (Za _) _).setCell (Za _) _
open Go.RowKit
theorem tD(e p n k:Nat)(w:Fa):Calls oa 41 #[Ki e p n k,Ki e p n k] w λr w'=>r=na (Oa true)/\Ba w w':=by go_enter func41,ntmps41;go_wp2;go_ret;exact⟨rfl,((Zb _ _).alloc (Za _) _).alloc (by simp) _⟩
end
end Go.Proofs.YtpfbdlnibdfcoaaGreatDoor
