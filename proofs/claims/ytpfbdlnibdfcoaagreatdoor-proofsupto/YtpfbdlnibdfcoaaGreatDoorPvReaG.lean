import Derived.Test.YtpfbdlnibdfcoaaGreatDoorPvNibG
namespace Go.Proofs.YtpfbdlnibdfcoaaGreatDoor
open Go.RowKit Tryz
open Value renaming int->Ia,string->La,slice->Ma,bool->Oa,pointer->Qa,agg->Sa,tuple->Wa,iface->ca,nilIface->da
open IntKind renaming i64->ka
open Obj renaming cells->ma
open Ending renaming returned->na
open Tryz renaming prog->oa
set_option maxRecDepth 100000
set_option maxHeartbeats 0
section
inductive Er where
 |base (n:Nat)
 |place (at_:Nat) (e:Er)
 |noNode (e:Er)
 |inNode (n:Nat) (e:Er)
 |inProof (n:Nat) (e:Er)
theorem Hq{p:Prop}(h:p):Hid p:=h
variable{w:Fa}
theorem Below.up{w':Fa}{o:Obj}(h:Below (w.alloc o).heap.size (w.alloc o) w'):Ba w w':=((Zb w.heap.size w).alloc (Za _) _).trans (h.mono (by simp))
theorem Below.behind{W W':Fa}(h:Ba w W)(k:Ba W W'):Ba w W':=h.trans (k.mono h.size)
theorem Bf{w1:Fa}{cs:Array Value}{t:TypeId}(hb:Below (w.alloc (ma cs t)).heap.size (w.alloc (ma cs t)) w1)(j:Nat){v:Value}(h:cs[j]? =some v):w1.cell? ⟨w.heap.size,j,none⟩=some v/\w1.frozen? ⟨w.heap.size,j,none⟩=false:=⟨((hb.cell (p:=⟨w.heap.size,j,none⟩) (by simp)).trans (Ze _ _ _ _)).trans h,(hb.frozen (p:=⟨w.heap.size,j,none⟩) (by simp)).trans (Xg _ _ _ _)⟩
def Er.val(sent:Nat->Addr):Er->Value
 | .base n=>ca 395 (Qa (some (sent n)))
 | .place k e=>ca 215 (Sa #[Ia ka (k:Int),e.val sent])
 | .noNode e=>ca 381 (Sa #[e.val sent])
 | .inNode k e=>ca 219 (Sa #[Ia ka (k:Int),e.val sent])
 | .inProof k e=>ca 222 (Sa #[Ia ka (k:Int),e.val sent])
theorem Er.shape(sent:Nat->Addr)(e:Er):∃t v,e.val sent=ca t v:=by cases e<;>exact⟨_,_,rfl⟩
def Ri:Nat->Nat
 |1=>1
 |2=>2
 |3=>12
 |4=>3
 |5=>0
 |6=>4
 |7=>5
 |8=>6
 |9=>7
 |10=>8
 |11=>9
 |12=>10
 |_=>11
def Gq:List Nat:=[1,2,3,4,5,6,7,8,9,10,11,12,13]
structure Qb(w:Fa)(sent:Nat->Addr):Prop where
 var:∀n∈Gq,w.cell? ⟨Ri n,0,none⟩=some (ca 395 (Qa (some (sent n))))
 plain:∀n∈Gq,Plain w (sent n).block
 apart:∀m∈Gq,∀n∈Gq,m≠n->sent m≠sent n
variable{sent:Nat->Addr}
theorem Qb.low(h:Qb w sent){n:Nat}(hn:n∈Gq):Ri n<w.heap.size:=Yo w _ (h.var n hn)
theorem Plain.lt{g:Nat}(h:Plain w g):g<w.heap.size:=by obtain⟨c,t,h⟩:=h;exact(Zg.1 h).1
theorem Qb.below{W:Fa}(h:Qb w sent)(hb:Ba w W):Qb W sent:=⟨λn hn=>(hb.cell (h.low hn)).trans (h.var n hn),λn hn=>(h.plain n hn).Cb (hb.block _ (h.plain n hn).lt),h.apart⟩
theorem Qb.Cb{w W:Fa}{sent:Nat->Addr}(h:Qb w sent){B:Nat}(hb:Below B w W)(h1:∀n∈Gq,Ri n<B)(h2:∀n∈Gq,(sent n).block<B):Qb W sent:=⟨λn hn=>(hb.cell (h1 n hn)).trans (h.var n hn),λn hn=>(h.plain n hn).Cb (hb.block _ (h2 n hn)),h.apart⟩
open Go.RowKit Go.Stop
def Er.Wb:Er->Prop
 | .base n=>n∈Gq
 | .place _ e=>e.Wb
 | .noNode e=>e=.base 3
 | .inNode _ e=>e.Wb
 | .inProof _ e=>e.Wb
def Er.num:Er->Nat
 | .base n=>n
 | .place _ e=>e.num
 | .noNode _=>8
 | .inNode _ e=>e.num
 | .inProof _ e=>e.num
def Er.depth:Er->Nat
 | .base _=>0
 | .place _ e=>e.depth+1
 | .noNode e=>e.depth+1
 | .inNode _ e=>e.depth+1
 | .inProof _ e=>e.depth+1
theorem BH(v:Value)(w:Fa):(Extern.ReflectliteType.typeOf #[ca 395 v]).run oa w=.ok (ca 328 (Sa #[Qa (some ⟨17,395,none⟩)])) w:=by kernel_rfl
theorem IM(w:Fa):((Extern.ReflectliteType.method λt=>do Extern.Rtype.noPackHeld "Comparable" t;pure (Oa (<-typeInfo t).comparable)) #[Sa #[Qa (some ⟨17,395,none⟩)]]).run oa w=.ok (Oa true) w:=by kernel_rfl
theorem pQ(w:Fa):(callFunc 287 #[Sa #[Qa (some ⟨17,395,none⟩)]]).run oa w=.ok (.value (Oa true)) w:=by rw[@Xo oa 287 _ (Extern.ReflectliteType.method λt=>do Extern.Rtype.noPackHeld "Comparable" t;pure (Oa (<-typeInfo t).comparable)) func287 (by kernel_rfl) (by kernel_rfl) (by kernel_rfl) (by kernel_rfl),IM];rfl
theorem VN(v:Value)(w:Fa):(Go.method 535 328 v "Comparable").run oa w=.ok (287,v) w:=by kernel_rfl
theorem jE:(oa.info? 395).map (·.comparable)=some true:=by kernel_rfl
theorem yG:(oa.info? 424).map (·.size)=some 1:=by kernel_rfl
theorem DP(v:Value)(xT:TypeId)(w:Fa):(Instr.typeAssert (ca 395 v) xT 330 true).run oa w=.ok (Wa #[da,Oa false]) w:=Xt underlying330 (by kernel_rfl) (by kernel_rfl) v xT w
theorem CH(v:Value)(xT:TypeId)(w:Fa):(Instr.typeAssert (ca 395 v) xT 333 true).run oa w=.ok (Wa #[da,Oa false]) w:=Xt underlying333 (by kernel_rfl) (by kernel_rfl) v xT w
theorem XH(v:Value)(xT:TypeId)(w:Fa):(Instr.typeAssert (ca 395 v) xT 335 true).run oa w=.ok (Wa #[da,Oa false]) w:=Xt underlying335 (by kernel_rfl) (by kernel_rfl) v xT w
theorem IL(v:Value)(xT:TypeId)(w:Fa):(Instr.typeAssert (ca 215 v) xT 330 true).run oa w=.ok (Wa #[da,Oa false]) w:=Xt underlying330 (by kernel_rfl) (by kernel_rfl) v xT w
theorem sQ(v:Value)(xT:TypeId)(w:Fa):(Instr.typeAssert (ca 219 v) xT 330 true).run oa w=.ok (Wa #[da,Oa false]) w:=Xt underlying330 (by kernel_rfl) (by kernel_rfl) v xT w
theorem qJ(v:Value)(xT:TypeId)(w:Fa):(Instr.typeAssert (ca 222 v) xT 330 true).run oa w=.ok (Wa #[da,Oa false]) w:=Xt underlying330 (by kernel_rfl) (by kernel_rfl) v xT w
theorem XI(v:Value)(xT:TypeId)(w:Fa):(Instr.typeAssert (ca 215 v) xT 333 true).run oa w=.ok (Wa #[ca 215 v,Oa true]) w:=run_typeAssert_hasB underlying333 (by kernel_rfl) v xT w
theorem zI(v:Value)(xT:TypeId)(w:Fa):(Instr.typeAssert (ca 219 v) xT 333 true).run oa w=.ok (Wa #[ca 219 v,Oa true]) w:=run_typeAssert_hasB underlying333 (by kernel_rfl) v xT w
theorem dH(v:Value)(xT:TypeId)(w:Fa):(Instr.typeAssert (ca 222 v) xT 333 true).run oa w=.ok (Wa #[ca 222 v,Oa true]) w:=run_typeAssert_hasB underlying333 (by kernel_rfl) v xT w
theorem BS(v:Value)(xT:TypeId)(w:Fa):(Instr.typeAssert (ca 381 v) xT 330 true).run oa w=.ok (Wa #[ca 381 v,Oa true]) w:=run_typeAssert_hasB underlying330 (by kernel_rfl) v xT w
theorem DG(v:Value)(xT:TypeId)(w:Fa):(Instr.typeAssert (ca 381 v) xT 333 true).run oa w=.ok (Wa #[ca 381 v,Oa true]) w:=run_typeAssert_hasB underlying333 (by kernel_rfl) v xT w
theorem iP(a:Value)(w:Fa):(Go.method 535 381 (Sa #[a]) "Is").run oa w=.ok (297,Sa #[a]) w:=by kernel_rfl
theorem aH(a:Value)(w:Fa):(Go.method 535 381 (Sa #[a]) "Unwrap").run oa w=.ok (298,Sa #[a]) w:=by kernel_rfl
theorem OK(a b:Value)(w:Fa):(Go.method 535 215 (Sa #[a,b]) "Unwrap").run oa w=.ok (260,Sa #[a,b]) w:=by kernel_rfl
theorem DO(a b:Value)(w:Fa):(Go.method 535 219 (Sa #[a,b]) "Unwrap").run oa w=.ok (262,Sa #[a,b]) w:=by kernel_rfl
theorem YS(a b:Value)(w:Fa):(Go.method 535 222 (Sa #[a,b]) "Unwrap").run oa w=.ok (264,Sa #[a,b]) w:=by kernel_rfl
theorem aF(k:Int)(t:TypeId)(v:Value)(w:Fa):Calls oa 260 #[Sa #[Ia ka k,ca t v]] w λe w'=>e=na (ca t v)/\Ba w w':=by go_enter func260,ntmps260;go_wp2;go_ret;exact⟨rfl,(Zb _ _).alloc (Za _) _⟩
theorem sE(k:Int)(t:TypeId)(v:Value)(w:Fa):Calls oa 262 #[Sa #[Ia ka k,ca t v]] w λe w'=>e=na (ca t v)/\Ba w w':=by go_enter func262,ntmps262;go_wp2;go_ret;exact⟨rfl,(Zb _ _).alloc (Za _) _⟩
theorem QH(k:Int)(t:TypeId)(v:Value)(w:Fa):Calls oa 264 #[Sa #[Ia ka k,ca t v]] w λe w'=>e=na (ca t v)/\Ba w w':=by go_enter func264,ntmps264;go_wp2;go_ret;exact⟨rfl,(Zb _ _).alloc (Za _) _⟩
theorem eF(t:TypeId)(v:Value)(w:Fa):Calls oa 298 #[Sa #[ca t v]] w λe w'=>e=na (ca t v)/\Ba w w':=by go_enter func298,ntmps298;go_wp2;go_ret;exact⟨rfl,(Zb _ _).alloc (Za _) _⟩
theorem iR(sent:Nat->Addr)(b:Nat)(hb:b∈Gq)(t:TypeId)(v:Value)(w:Fa)(hF:Qb w sent):Calls oa 297 #[Sa #[ca t v],ca 395 (Qa (some (sent b)))] w λe w'=>e=na (Oa (decide (b=8)))/\Ba w w':=by
 obtain⟨i,m,c⟩:=Option.map_eq_some_iff.1 jE;obtain⟨j,n,o⟩:=Option.map_eq_some_iff.1 yG;have h:=hF.var 8 (by decide);have a:=hF.below ((Zb w.heap.size w).alloc (Za _) (ma #[ca t v] 381));by_cases f:b=8;.subst f;have l:=run_eql_iface_ptr_same (P:=oa) (w.alloc (ma #[ca t v] 381)) (sent 8) underlying142 underlying395 m c n;have g:=a.var 8 (by decide);rw[show Ri 8=6 from rfl]at g;clear hF a h;go_enter func297,ntmps297;go_wp2;go_ret;exact⟨rfl,(Zb _ _).alloc (Za _) _⟩
 .obtain⟨p,r,k⟩:=a.plain b hb;obtain⟨q,s,d⟩:=a.plain 8 (by decide);have l:=run_eql_iface_ptr_other (P:=oa) (w.alloc (ma #[ca t v] 381)) underlying142 underlying395 m c n (by rw[o];decide) (a.apart b hb 8 (by decide) f) k d;have g:=a.var 8 (by decide);rw[show Ri 8=6 from rfl]at g;rw[Zt f];clear hF a h k d;go_enter func297,ntmps297;go_wp2;go_ret;exact⟨rfl,(Zb _ _).alloc (Za _) _⟩
theorem EM(sent:Nat->Addr)(b:Nat)(hb:b∈Gq)(h3:b≠3)(e0:Er)(h0:e0.Wb)(w:Fa)(hF:Qb w sent):Calls oa 171 #[e0.val sent,(Er.base b).val sent,Oa true] w λe w'=>e=na (Oa (decide (e0.num=b)))/\Ba w w':=by
 obtain⟨i,N,u⟩:=Option.map_eq_some_iff.1 jE;obtain⟨j,O,Q⟩:=Option.map_eq_some_iff.1 yG;obtain⟨S,T,B⟩:=e0.shape sent;have I:=Hq (A2 B h0);have r:=Hq (A2 hF hb);have R:=Hq h3;rw[B];clear hF hb B h0 h3;unfold Er.val;go_enter func171,ntmps171;go_wp2;go_loopg [0] e0.depth (λgh x wr=>∃e t v,gh=Er.depth e/\x=ca t v/\e.val sent=ca t v/\e.Wb/\(e.num=b↔e0.num=b)/\Ba w wr)
 case atStart=>exact⟨e0,S,T,rfl,rfl,I.1,I.2,Iff.rfl,Zb _ _⟩
 case round=>
  obtain⟨e,t,v,rfl,rfl,a,f,d,c⟩:=hrel;cases e with
  |base n=>
   unfold Er.val at a;simp only[Jl]at a;obtain⟨rfl,rfl⟩:=a;by_cases y:n=b;.subst y;have M:=run_eql_iface_ptr_same (P:=oa) wr (sent n) underlying142 underlying395 N u O;have A:=Hq (A2 (Z5 (d.1 rfl)) c);clear f d c;go_wp2;go_ret;exact⟨by rw[A.1];rfl,A.2⟩
   .have q:=r.1.below c;obtain⟨U,Z,J⟩:=q.plain n f;obtain⟨V,tb,hb⟩:=q.plain b r.2;have M:=run_eql_iface_ptr_other (P:=oa) wr underlying142 underlying395 N u O (by rw[Q];decide) (q.apart n f b r.2 y) J hb;have Y:=DP;have uE:=CH;have vE:=XH;have A:=Hq (A2 (Zt λh=>y (d.2 h)) c);clear f d c q J hb;go_wp2;go_ret;exact⟨by rw[A.1];rfl,A.2⟩
  |noNode e'=>
   obtain rfl:e'=.base 3:=f;unfold Er.val at a;rw[show(Er.base 3).val sent=ca 395 (Qa (some (sent 3)))from rfl]at a;simp only[Jl]at a;obtain⟨rfl,rfl⟩:=a;have z:=run_eql_iface_types (P:=oa) 381 395 (Sa #[ca 395 (Qa (some (sent 3)))]) (Qa (some (sent b))) underlying142 (by decide);have G:=BS;have X:=iP;have H:=DG;have F:=aH;have D:=Hq (iR sent b r.2 395 (Qa (some (sent 3))) wr (r.1.below c));have p:=Hq (λW=>eF 395 (Qa (some (sent 3))) W);by_cases E:b=8
   .subst E;have A:=Hq (A2 (Z5 (d.1 rfl)) c);clear d c;go_wp2_with (go_at_call 297;refine D.mono ?_;rintro s C ⟨rfl,l⟩)
    go_ret;exact⟨by rw[A.1];rfl,Below.behind A.2 l⟩
   .have L:=Zt E;have A:=Hq (A2 (⟨λh=>absurd h.symm R.o,λh=>absurd (d.2 h).symm E⟩:((Er.base 3).num=b↔e0.num=b)) c);rw[L]at D;clear d c;go_wp2_with (first| (go_at_call 297;refine D.mono ?_;rintro s C ⟨rfl,l⟩)| (go_at_call 298;refine(p _).mono ?_;rintro s w2 ⟨rfl,K⟩))
    go_roundg 0
    case measure=>exact Jo _
    case rel=>exact⟨.base 3,_,_,rfl,rfl,rfl,by simp[Er.Wb,Gq],A.1,Below.behind (Below.behind A.2 l) K⟩
  |place k e'=>
   obtain⟨m,o,g⟩:=e'.shape sent;unfold Er.val at a;rw[g]at a;simp only[Jl]at a;obtain⟨rfl,rfl⟩:=a;have z:=run_eql_iface_types (P:=oa) 215 395 (Sa #[Ia ka (k:Int),ca m o]) (Qa (some (sent b))) underlying142 (by decide);have G:=IL;have H:=XI;have F:=OK;have p:=Hq (λW=>aF (k:Int) m o W);have A:=Hq (A4 g f d c);clear g f d c;go_wp2_with (go_at_call 260;refine(p _).mono ?_;rintro s C ⟨rfl,l⟩)
   go_roundg e'.depth
   case measure=>exact Jo _
   case rel=>exact⟨e',m,o,rfl,rfl,A.1,A.2.1,A.2.2.1,Below.behind A.2.2.2 l⟩
  |inNode k e'=>
   obtain⟨m,o,g⟩:=e'.shape sent;unfold Er.val at a;rw[g]at a;simp only[Jl]at a;obtain⟨rfl,rfl⟩:=a;have z:=run_eql_iface_types (P:=oa) 219 395 (Sa #[Ia ka (k:Int),ca m o]) (Qa (some (sent b))) underlying142 (by decide);have G:=sQ;have H:=zI;have F:=DO;have p:=Hq (λW=>sE (k:Int) m o W);have A:=Hq (A4 g f d c);clear g f d c;go_wp2_with (go_at_call 262;refine(p _).mono ?_;rintro s C ⟨rfl,l⟩)
   go_roundg e'.depth
   case measure=>exact Jo _
   case rel=>exact⟨e',m,o,rfl,rfl,A.1,A.2.1,A.2.2.1,Below.behind A.2.2.2 l⟩
  |inProof k e'=>
   obtain⟨m,o,g⟩:=e'.shape sent;unfold Er.val at a;rw[g]at a;simp only[Jl]at a;obtain⟨rfl,rfl⟩:=a;have z:=run_eql_iface_types (P:=oa) 222 395 (Sa #[Ia ka (k:Int),ca m o]) (Qa (some (sent b))) underlying142 (by decide);have G:=qJ;have H:=dH;have F:=YS;have p:=Hq (λW=>QH (k:Int) m o W);have A:=Hq (A4 g f d c);clear g f d c;go_wp2_with (go_at_call 264;refine(p _).mono ?_;rintro s C ⟨rfl,l⟩)
   go_roundg e'.depth
   case measure=>exact Jo _
   case rel=>exact⟨e',m,o,rfl,rfl,A.1,A.2.1,A.2.2.1,Below.behind A.2.2.2 l⟩
theorem oT(sent:Nat->Addr)(b:Nat)(hb:b∈Gq)(h3:b≠3)(e0:Er)(h0:e0.Wb)(w:Fa)(hF:Qb w sent):Calls oa 126 #[e0.val sent,(Er.base b).val sent] w λe w'=>e=na (Oa (decide (e0.num=b)))/\Ba w w':=by
 have i:=@Xo oa 170 _ Extern.ReflectliteType.typeOf func170 (by kernel_rfl) (by kernel_rfl) (by kernel_rfl) (by kernel_rfl);have l:=BH;have g:=pQ;have j:=VN;have a:=EM sent b hb h3 e0 h0 w hF;obtain⟨k,m,c⟩:=e0.shape sent;rw[c]at a⊢;clear c;rw[show(Er.base b).val sent=ca 395 (Qa (some (sent b)))from rfl]at a⊢;have f:=Hq a;clear a hF;go_enter func126,ntmps126;go_wp2_with (go_at_call 171;refine(f.o).mono ?_;rintro h n ⟨rfl,d⟩)
 go_ret;exact⟨rfl,d⟩
end
section
def Nk(l:List Nat):Nat:=l.foldl (λn x=>n*256+x) 0
theorem Dv(l:List Nat)(x:Nat):Nk (l++[x])=Nk l*256+x:=by unfold Nk;rw[List.foldl_append];rfl
theorem yy:∀(l:List Nat),(∀x∈l,x<256)->Nk l<256^l.length:=by
 intro l;induction hl:l.length generalizing l with
 |zero=>intro _;have :l=[]:=Ye hl;subst this;decide
 |succ n ih=>
  intro h;have a:l≠[]:=λe=>by rw[e]at hl;simp at hl
  rw[<-List.dropLast_concat_getLast a,Dv];have c:=ih l.dropLast (by simp[hl]) (λx b=>h x (List.dropLast_subset l b));have d:=h _ (List.getLast_mem a);rw[Jk];omega
theorem YK(n x:Nat)(hn:n<256^7)(hx:x<256):bits .or .u64 ((n:Int)*256) (x:Int)=((n*256+x:Nat):Int):=by
 have e:((n:Int)*256)=((n*256:Nat):Int):=by omega
 rw[e,u64_or_nat _ _ (by omega) (by omega),nat_join 8 (n*256) x (Nat.mul_mod_left _ _) hx]
theorem IG(s:Da)(w:Fa)(hs:s.size<=8):Calls oa 200 #[La s] w λe w'=>e=na (Ia .u64 ((Nk (Ke s):Nat):Int))/\w'=w:=by
 have b:=ta s;have l:=Hq (A2 b hs);clear b hs;go_enter func200,ntmps200;go_wp2;go_loopg [3,7] s.size (λg n i wr=>∃x:Nat,x<=s.size/\g=s.size-x/\i=Ia ka (x:Int)/\n=Ia .u64 ((Nk ((Ke s).take x):Nat):Int)/\wr=w)
 case atStart=>exact⟨0,by omega,rfl,rfl,rfl,rfl⟩
 case round=>
  obtain⟨x,D,rfl,rfl,rfl,rfl⟩:=hrel;by_cases f:x<s.size
  .obtain⟨b,hs⟩:=l.o;obtain⟨c,r⟩:=nm (s[x]'f).toNat;have j:c<256:=by rw[<-r];exact Vy _
   have d:Nk ((Ke s).take (x+1))=Nk ((Ke s).take x)*256+c:=by rw[Z1 (by omega),Dv,<-r,yg s x f,Z9 _ x (by omega)]
   have a:Nk ((Ke s).take x)<256^7:=by have q:=yy ((Ke s).take x) (λy C=>Qk s y (Y4 C));rw[Zx,Vf (by omega)]at q;exact Zm q (Jg (by omega) (by omega))
   obtain⟨n,u⟩:=nm (Nk ((Ke s).take x));rw[u]at d a⊢;have h:=YK n c a j;obtain⟨m,t⟩:=nm (n*256+c);rw[t]at h d;have z:=Hq d;have B:=Hq (Im x (by omega));have v:(x:Int)<(s.size:Int):=by omega
   have o:Hid (bits .or .u64 (IntKind.u64.wrap ((n:Int)*256)) (IntKind.u64.wrap (c:Int))=(m:Int)):=by
    have p:((n:Int)*256)=((n*256:Nat):Int):=by omega
    rw[zm c (by omega),p,zm (n*256) (by omega),<-p];exact h
   clear b hs u d j t h a;go_wp2;go_roundg (s.size-(x+1))
   case measure=>omega
   case rel=>exact⟨x+1,by omega,rfl,ld B.o,by rw[z.o];exact ld o.o,rfl⟩
  .have v:(s.size:Int)<=(x:Int):=by omega
   have k:(Ke s).take x=Ke s:=Zz (by have :=l.1;omega);rw[k];clear k f;go_wp2;go_ret;exact⟨rfl,rfl⟩
def Ad(l:List Nat)(kind:Nat):Except Bool (Nat×Nat):=let k:=l[0]! -kind
 if k<=55 then(if l.length-1<k then .error false else .ok (1,k))
 else if l.length<k-54 then .error false
 else
  let n:=Nk ((l.drop 1).take (k-55))
  if l[1]! =0\/n<=55 then .error true
  else if l.length-(k-54)<n then .error false else .ok (k-54,n)
def G5(W:Fa)(g:Nat)(v:Value):Prop:=W.cell? ⟨g,0,none⟩=some v
variable{l:List Nat}{kind:Nat}
theorem Cv(h:l[0]! -kind<=55):Ad l kind=if l.length-1<l[0]! -kind then .error false else .ok (1,l[0]! -kind):=by unfold Ad;simp only[h,if_true]
theorem nF(n a:Nat)(ha:a<=n)(hn:n<=1048576):wrap64 ((n:Int)-(a:Int))=((n-a:Nat):Int)/\IntKind.u64.wrap (((n-a:Nat):Int))=((n-a:Nat):Int):=by refine⟨?_,zm _ (by omega)⟩;unfold wrap64;omega
theorem cI(s:Da)(kind:Nat)(w:Fa)(es:Value)(hes:G5 w 2 es)(hp:0<s.size)(hs:s.size<=1048576)(hc:kind<=(Ke s)[0]!)(h55:(Ke s)[0]! -kind<=55):Calls oa 218 #[La s,Ia .u8 (kind:Int)] w λe w'=>e=na (Wa (match Ad (Ke s) kind with | .ok (a,b)=>#[Ia ka (a:Int),Ia ka (b:Int),da]| .error _=>#[Ia ka 0,Ia ka 0,es]))/\Ba w w':=by
 rw[Cv h55,ta];obtain⟨c,d⟩:=nm (s[0]'hp).toNat;have h:=yg s 0 hp;rw[d]at h;rw[<-h]at hc h55⊢;have i:c<256:=by rw[<-d];exact Vy _
 obtain⟨k,f⟩:=nm (c-kind);rw[f]at h55⊢;have r:((c:Int)-(kind:Int))%256=(k:Int):=by omega
 have t:(k:Int)<=55:=by omega
 obtain⟨l,o⟩:=nF s.size 1 hp hs;have n:wrap64 ((s.size:Int)-1)=((s.size-1:Nat):Int):=l;clear l;obtain⟨q,j⟩:=nm (s.size-1);rw[j]at n o⊢;have p:w.cell? ⟨2,0,none⟩=some es:=hes;clear h hc h55 f i hs hes j;by_cases g:q<k
 .rw[Zo g];have m:(q:Int)<(k:Int):=by omega
  go_enter func218,ntmps218;go_wp2;go_region;go_wp2;go_region;go_wp2;go_ret3;exact⟨rfl,(Zb _ _).drew.drew⟩
 .rw[Zj g];have m:(k:Int)<=(q:Int):=by omega
  go_enter func218,ntmps218;go_wp2;go_region;go_wp2;go_ret3;exact⟨rfl,(Zb _ _).drew⟩
theorem TM(s:Da)(a:Nat):Ke (s.extract 1 a)=((Ke s).drop 1).take (a-1):=by unfold Ke;rw[<-J6,<-J7];congr 1;simp only[Jh,Js,V6]
theorem Oy(m:Nat)(h:m<=1048576):wrap64 (m:Int)=(m:Int):=by unfold wrap64;omega
theorem lO(k a m:Nat)(ha:k-54=a)(hm:a-1=m)(h1:¬k<=55)(h2:k<=63):wrap64 (1+(m:Int))=(a:Int):=by
 have e:(a:Int)=(m:Int)+1:=by omega
 have c:(m:Int)<=8:=by omega
 have b:(0:Int)<=(m:Int):=by omega
 rw[e];clear ha hm h1 h2 e;unfold wrap64;omega
theorem vN(k m:Nat)(h:k-55=m)(h1:¬k<=55)(h2:k<=63):IntKind.u64.wrap ((k:Int)-55)=(m:Int):=by
 have e:(k:Int)-55=(m:Int):=by omega
 have a:m<18446744073709551616:=Vx (show m<=8 by omega) (by decide);rw[e];exact zm m a
theorem tT(k a m:Nat)(ha:k-54=a)(hm:a-1=m)(h1:¬k<=55)(h2:k<=63):IntKind.u64.wrap ((k:Int)-55)=(m:Int)/\wrap64 (1+(m:Int))=(a:Int)/\1<=m/\m<=8/\a=m+1:=⟨vN k m (by omega) h1 h2,lO k a m ha hm h1 h2,by omega,by omega,by omega⟩
theorem EC(h:¬l[0]! -kind<=55):Ad l kind=if l.length<l[0]! -kind-54 then .error false else if l[1]! =0\/Nk ((l.drop 1).take (l[0]! -kind-55))<=55 then .error true else if l.length-(l[0]! -kind-54)<Nk ((l.drop 1).take (l[0]! -kind-55))then .error false else .ok (l[0]! -kind-54,Nk ((l.drop 1).take (l[0]! -kind-55))):=by unfold Ad;simp only[h,if_false]
theorem sJ(s:Da)(kind c k sz m:Nat)(w:Fa)(e:Value)(hp:0<s.size)(hcc:(s[0]'hp).toNat=c)(e1:((c:Int)-(kind:Int))%256=(k:Int))(i1:(55:Int)<(k:Int))(e2:IntKind.u64.wrap ((k:Int)-55)=(m:Int))(e3:wrap64 (1+(m:Int))=(sz:Int))(e4:wrap64 (m:Int)=(m:Int))(i2:(s.size:Int)<(sz:Int))(es:w.cell? ⟨2,0,none⟩=some e):Calls oa 218 #[La s,Ia .u8 (kind:Int)] w λr w'=>r=na (Wa #[Ia ka 0,Ia ka 0,e])/\Ba w w':=by go_enter func218,ntmps218;go_wp2;go_region;go_wp2;go_region;go_wp2;go_ret3;exact⟨rfl,(Zb _ _).drew.drew⟩
theorem eO(s:Da)(kind c k sz m:Nat)(w:Fa)(e:Value)(hp:0<s.size)(hcc:(s[0]'hp).toNat=c)(e1:((c:Int)-(kind:Int))%256=(k:Int))(i1:(55:Int)<(k:Int))(e2:IntKind.u64.wrap ((k:Int)-55)=(m:Int))(e3:wrap64 (1+(m:Int))=(sz:Int))(e4:wrap64 (m:Int)=(m:Int))(i2:(sz:Int)<=(s.size:Int))(i0:(1:Int)<=(sz:Int))(cut:Da)(hx:s.extract 1 sz=cut)(n d:Nat)(hN:∀W,Calls oa 200 #[La cut] W λr w'=>r=na (Ia .u64 (n:Int))/\w'=W)(hp1:1<s.size)(hd:(s[1]'hp1).toNat=d)(ef:w.cell? ⟨12,0,none⟩=some e)(hd0:((d:Int)==0)=true):Calls oa 218 #[La s,Ia .u8 (kind:Int)] w λr w'=>r=na (Wa #[Ia ka 0,Ia ka 0,e])/\Ba w w':=by
 have a:=Hq hN;clear hN;go_enter func218,ntmps218;go_wp2;go_region;go_wp2_with (go_at_call 200;refine(a _).mono ?_;rintro b w' ⟨rfl,rfl⟩)
 go_region;go_wp2;go_ret3;exact⟨rfl,(Zb _ _).drew.drew⟩
theorem oO(s:Da)(kind c k sz m:Nat)(w:Fa)(e:Value)(hp:0<s.size)(hcc:(s[0]'hp).toNat=c)(e1:((c:Int)-(kind:Int))%256=(k:Int))(i1:(55:Int)<(k:Int))(e2:IntKind.u64.wrap ((k:Int)-55)=(m:Int))(e3:wrap64 (1+(m:Int))=(sz:Int))(e4:wrap64 (m:Int)=(m:Int))(i2:(sz:Int)<=(s.size:Int))(i0:(1:Int)<=(sz:Int))(cut:Da)(hx:s.extract 1 sz=cut)(n d:Nat)(hN:∀W,Calls oa 200 #[La cut] W λr w'=>r=na (Ia .u64 (n:Int))/\w'=W)(hp1:1<s.size)(hd:(s[1]'hp1).toNat=d)(ef:w.cell? ⟨12,0,none⟩=some e)(hd0:((d:Int)==0)=false)(i3:(n:Int)<=55):Calls oa 218 #[La s,Ia .u8 (kind:Int)] w λr w'=>r=na (Wa #[Ia ka 0,Ia ka 0,e])/\Ba w w':=by
 have a:=Hq hN;clear hN;go_enter func218,ntmps218;go_wp2;go_region;go_wp2_with (go_at_call 200;refine(a _).mono ?_;rintro b w' ⟨rfl,rfl⟩)
 go_region;go_wp2;go_ret3;exact⟨rfl,(Zb _ _).drew.drew⟩
theorem wK(s:Da)(kind c k sz m:Nat)(w:Fa)(e:Value)(hp:0<s.size)(hcc:(s[0]'hp).toNat=c)(e1:((c:Int)-(kind:Int))%256=(k:Int))(i1:(55:Int)<(k:Int))(e2:IntKind.u64.wrap ((k:Int)-55)=(m:Int))(e3:wrap64 (1+(m:Int))=(sz:Int))(e4:wrap64 (m:Int)=(m:Int))(i2:(sz:Int)<=(s.size:Int))(i0:(1:Int)<=(sz:Int))(cut:Da)(hx:s.extract 1 sz=cut)(n d:Nat)(hN:∀W,Calls oa 200 #[La cut] W λr w'=>r=na (Ia .u64 (n:Int))/\w'=W)(hp1:1<s.size)(hd:(s[1]'hp1).toNat=d)(q:Nat)(r1:wrap64 ((s.size:Int)-(sz:Int))=(q:Int))(r2:IntKind.u64.wrap (q:Int)=(q:Int))(es:w.cell? ⟨2,0,none⟩=some e)(hd0:((d:Int)==0)=false)(i3:(55:Int)<(n:Int))(i4:(q:Int)<(n:Int)):Calls oa 218 #[La s,Ia .u8 (kind:Int)] w λr w'=>r=na (Wa #[Ia ka 0,Ia ka 0,e])/\Ba w w':=by
 have a:=Hq hN;clear hN;go_enter func218,ntmps218;go_wp2;go_region;go_wp2_with (go_at_call 200;refine(a _).mono ?_;rintro b w' ⟨rfl,rfl⟩)
 go_region;go_wp2;go_ret3;exact⟨rfl,(Zb _ _).drew.drew⟩
theorem yP(s:Da)(kind c k sz m:Nat)(w:Fa)(hp:0<s.size)(hcc:(s[0]'hp).toNat=c)(e1:((c:Int)-(kind:Int))%256=(k:Int))(i1:(55:Int)<(k:Int))(e2:IntKind.u64.wrap ((k:Int)-55)=(m:Int))(e3:wrap64 (1+(m:Int))=(sz:Int))(e4:wrap64 (m:Int)=(m:Int))(i2:(sz:Int)<=(s.size:Int))(i0:(1:Int)<=(sz:Int))(cut:Da)(hx:s.extract 1 sz=cut)(n d:Nat)(hN:∀W,Calls oa 200 #[La cut] W λr w'=>r=na (Ia .u64 (n:Int))/\w'=W)(hp1:1<s.size)(hd:(s[1]'hp1).toNat=d)(q:Nat)(r1:wrap64 ((s.size:Int)-(sz:Int))=(q:Int))(r2:IntKind.u64.wrap (q:Int)=(q:Int))(hd0:((d:Int)==0)=false)(i3:(55:Int)<(n:Int))(i4:(n:Int)<=(q:Int))(e5:wrap64 (n:Int)=(n:Int)):Calls oa 218 #[La s,Ia .u8 (kind:Int)] w λr w'=>r=na (Wa #[Ia ka (sz:Int),Ia ka (n:Int),da])/\Ba w w':=by
 have b:=Hq hN;have a:=Hq e5;clear hN e5;go_enter func218,ntmps218;go_wp2;go_region;go_wp2_with (go_at_call 200;refine(b _).mono ?_;rintro e w' ⟨rfl,rfl⟩)
 go_ret3;refine⟨?_,(Zb _ _).drew⟩;show Ending.returned (Wa #[Ia ka (sz:Int),Ia ka (wrap64 (n:Int)),da])=_;rw[a.o]
theorem rF(s:Da)(kind:Nat)(w:Fa)(es ef:Value)(hes:G5 w 2 es)(hef:G5 w 12 ef)(hp:0<s.size)(hs:s.size<=1048576)(hc:kind<=(Ke s)[0]!)(h55:¬(Ke s)[0]! -kind<=55)(h63:(Ke s)[0]! -kind<=63):Calls oa 218 #[La s,Ia .u8 (kind:Int)] w λe w'=>e=na (Wa (match Ad (Ke s) kind with | .ok (a,b)=>#[Ia ka (a:Int),Ia ka (b:Int),da]| .error false=>#[Ia ka 0,Ia ka 0,es]| .error true=>#[Ia ka 0,Ia ka 0,ef]))/\Ba w w':=by
 have d:=EC h55;rw[ta]at d;obtain⟨c,g⟩:=nm (s[0]'hp).toNat;have H:=yg s 0 hp;rw[g]at H;rw[<-H]at hc h55 h63 d;have S:c<256:=by rw[<-g];exact Vy _
 obtain⟨k,J⟩:=nm (c-kind);rw[J]at h55 h63 d;have l:((c:Int)-(kind:Int))%256=(k:Int):=by omega
 have x:(55:Int)<(k:Int):=by omega
 obtain⟨f,G⟩:=nm (k-54);obtain⟨m,K⟩:=nm (f-1);have I:k-55=m:=by omega
 rw[G,I]at d;have C:(1:Int)<=(f:Int):=by omega
 have F:f<=s.size->1<s.size:=by omega
 have hcut:=TM s f;rw[K]at hcut;have R:m<=8:=by omega
 obtain⟨o,p,_,E,_⟩:=tT k f m G K h55 h63;have q:=Oy m (Z2 E (by decide));by_cases z:s.size<f;.rw[Zo z]at d;rw[d];exact sJ s kind c k f m w es hp g l x o p q (Int.ofNat_lt.2 z) hes
 .rw[Zj z,<-hcut]at d;have v:=Xn z;have i:=F v;have M:(s.extract 1 f).size<=8:=by rw[<-ta,hcut,Zx];exact Z2 (Nat.min_le_left _ _) E
  have Q:=λW=>IG (s.extract 1 f) W M;obtain⟨n,L⟩:=nm (Nk (Ke (s.extract 1 f)));rw[L]at d;have j:∀W,Calls oa 200 #[La (s.extract 1 f)] W λr w'=>r=na (Ia .u64 (n:Int))/\w'=W:=λW=>by have :=Q W;rw[L]at this;exact this
  obtain⟨O,P⟩:=nF s.size f v hs;have D:=Vk.2 v;rw[<-yg s 1 i]at d;by_cases y:(s[1]'i).toNat=0;.rw[Zo (Or.inl y)]at d;rw[d];exact eO s kind c k f m w ef hp g l x o p q D C _ rfl n _ j i rfl hef (by simp[y])
  .have u:(((s[1]'i).toNat:Int)==0)=false:=by simp[y]
   by_cases B:n<=55;.rw[Zo (Or.inr B)]at d;rw[d];exact oO s kind c k f m w ef hp g l x o p q D C _ rfl n _ j i rfl hef u (Vk.2 B)
   .rw[Zj (λh=>h.elim y B)]at d;have N:=Int.ofNat_lt.2 (Nat.lt_of_not_le B);by_cases t:s.size-f<n;.rw[Zo t]at d;rw[d];exact wK s kind c k f m w es hp g l x o p q D C _ rfl n _ j i rfl _ O P hes u N (Int.ofNat_lt.2 t)
    .rw[Zj t]at d;rw[d];exact yP s kind c k f m w hp g l x o p q D C _ rfl n _ j i rfl _ O P u N (Vk.2 (Xn t)) (Oy n (Z2 (Xn t) (Z2 (Nat.sub_le _ _) hs)))
theorem yL:∀(k:Nat) (d:List Nat),(∀x∈d,x<256)->k<=d.length->Nk d/256^k=Nk (d.take (d.length-k)):=by
 intro k;induction k with
 |zero=>intro d _ _;simp
 |succ k ih=>
  intro d b c;have a:d≠[]:=λe=>by subst e;simp at c
  obtain⟨r,x,rfl⟩:∃r x,d=r++[x]:=⟨d.dropLast,d.getLast a,(List.dropLast_concat_getLast a).symm⟩;have g:=b x (by simp);simp only[Zq,Zu,Yq]at c⊢;rw[Dv,Jk,Nat.mul_comm (256^k) 256,<-Nat.div_div_eq_div_mul,show(Nk r*256+x)/256=Nk r by omega,ih r (λy f=>b y (by simp[f])) (by omega)];rw[show r.length+(0+1)-(k+1)=r.length-k by omega,V9 (by omega)]
theorem kJ:∀(r:List Nat) (x:Nat),x≠0->Nk (x::r)≠0:=by
 have h:∀(r:List Nat) (n:Nat),n≠0->r.foldl (λn x=>n*256+x) n≠0:=by
  intro r;induction r with
  |nil=>intro n a;exact a
  |cons y r ih=>intro n a;exact ih _ (by simp only;omega)
 intro r x b;unfold Nk;rw[X6];exact h r _ (by omega)
theorem jw(d:List Nat)(hd:∀x∈d,x<256)(h8:d.length<=8)(h0:d≠[]->d[0]! ≠0):G4 (Nk d)=d:=by
 have g:∀i,i<=8->Gi (Nk d) i=d.take (i-(8-d.length)):=by
  intro i;induction i with
  |zero=>intro _;simp[Gi]
  |succ i ih=>
   intro m;rw[Gi,ih (by omega)];have e:2^(56-8*i)=256^(7-i):=by rw[show(256:Nat)=2^8 by decide,<-Nat.pow_mul];congr 1;omega
   rw[e];by_cases k:d.length<=7-i;.have c:=yy d hd;have :Nk d/256^(7-i)=0:=Nat.div_eq_of_lt (Zm c (Jg (by decide) k));rw[Zo this,show i-(8-d.length)=0 by omega,show i+1-(8-d.length)=0 by omega]
   .rw[yL (7-i) d hd (by omega)];obtain⟨j,h⟩:∃j,d.length-(7-i)=j+1:=⟨d.length-(7-i)-1,by omega⟩;have b:j<d.length:=by omega
    rw[h,show i-(8-d.length)=j by omega,show i+1-(8-d.length)=j+1 by omega];have l:=(List.take_append_getElem b).symm;have f:Nk (d.take (j+1))≠0:=by
     cases hdd:d with
     |nil=>rw[hdd]at b;simp at b
     |cons a r=>have :=h0 (by rw[hdd];simp);rw[hdd]at this;rw[Y7];exact kJ _ _ (by simpa using this)
    rw[Zj f,l,Dv];have :=hd d[j] (Zy b);rw[show(Nk (d.take j)*256+d[j])%256=d[j]by omega]
 have :=g 8 (Za _);unfold G4;rw[this,Zz (by omega)]
theorem iI(h:0<l.length):l.take 1=[l[0]!]:=by
 cases l with
 |nil=>simp at h
 |cons a r=>simp
variable{a b:Nat}
theorem sC(hl:∀x∈l,x<256)(hp:0<l.length)(hk:kind<=l[0]!)(h63:l[0]! -kind<=63)(h:Ad l kind=.ok (a,b)):l.take a=K4 kind b/\a+b<=l.length/\1<=a/\a<=9:=by
 have d:l[0]! <256:=by rw[Z9 l 0 hp];exact hl _ (Zy hp)
 by_cases c:l[0]! -kind<=55
 .rw[Cv c]at h;split at h;.cases h
  .injection h with h;injection h with h1 h2;subst h1 h2;refine⟨?_,by omega,by omega,by omega⟩;unfold K4;rw[Zo c,iI hp];congr 1;omega
 .rw[EC c]at h;split at h;.cases h
  .rename_i hlen
   split at h;.cases h
   .rename_i hz
    split at h;.cases h
    .rename_i hr
     injection h with h;injection h with h1 h2;have j:l[1]! ≠0:=λe=>hz (.inl e);have f:¬Nk ((l.drop 1).take (l[0]! -kind-55))<=55:=λe=>hz (.inr e);have i:((l.drop 1).take (l[0]! -kind-55)).length=l[0]! -kind-55:=by rw[Zx,Yi];omega
     have g:G4 (Nk ((l.drop 1).take (l[0]! -kind-55)))=(l.drop 1).take (l[0]! -kind-55):=by
      refine jw _ (λx k=>hl x (Yu (Y4 k))) (by omega) (λ_=>?_);have e:((l.drop 1).take (l[0]! -kind-55))[0]! =l[1]! :=by rw[Z9 _ 0 (by omega),Z9 l 1 (by omega),Vu,Vt]
      rw[e];exact j
     rw[h2]at g f;refine⟨?_,by omega,by omega,by omega⟩;unfold K4;rw[Zj f,g,i,<-h1];cases hll:l with
     |nil=>rw[hll]at hp;simp at hp
     |cons x r=>rw[hll]at c d hk hlen h63;simp only[List.getElem!_cons_zero,Y6,Yx]at c d hk hlen h63⊢;rw[show x-kind-54=(x-kind-55)+1 by omega,Y7];congr 1;omega
def ze(l:List Nat)(list:Bool)(size len:Nat):Prop:=size+len<=l.length/\0<size+len/\size<=9/\(list=true->l.take size=K4 192 len)/\(list=false->l.take (size+len)=Kh ((l.drop size).take len))
theorem ze.byte(hp:0<l.length)(h:l[0]! <128):ze l false 0 1:=by refine⟨by omega,by omega,by omega,by simp,λ_=>?_⟩;rw[Zf,Yx,iI hp];unfold Kh;rw[Zo ⟨rfl,by simpa using h⟩];rfl
theorem ze.text(hl:∀x∈l,x<256)(hp:0<l.length)(hk:128<=l[0]!)(hk2:l[0]! <192)(h:Ad l 128=.ok (a,b))(hn:¬(b=1/\l[a]! <128)):ze l false a b:=by
 obtain⟨f,g,j,i⟩:=sC hl hp hk (by omega) h;refine⟨g,by omega,i,by simp,λ_=>?_⟩;have c:((l.drop a).take b).length=b:=by rw[Zx,Yi];omega
 unfold Kh;rw[Zj,c,<-f,List.take_add];rintro⟨d,e⟩;rw[c]at d;refine hn ⟨d,?_⟩;rw[Z9 _ 0 (by omega),Vu,Vt]at e;rw[Z9 l a (by omega)];simpa using e
theorem ze.list(hl:∀x∈l,x<256)(hp:0<l.length)(hk:192<=l[0]!)(h:Ad l 192=.ok (a,b)):ze l true a b:=by
 have f:l[0]! <256:=by rw[Z9 l 0 hp];exact hl _ (Zy hp)
 obtain⟨c,d,g,e⟩:=sC hl hp hk (by omega) h;exact⟨d,by omega,e,λ_=>c,by simp⟩
inductive It where
 |text (fr ra:Nat) (t:List Nat)
 |list (fr ra:Nat) (l:List It)
def It.fr:It->Nat
 | .text a _ _=>a
 | .list a _ _=>a
def It.ra:It->Nat
 | .text _ a _=>a
 | .list _ a _=>a
mutual
def It.code:It->List Nat
 | .text _ _ t=>Kh t
 | .list _ _ l=>Ks (P3 l)
def P3:List It->List Nat
 | []=>[]
 |x::l=>x.code++P3 l
end
def Ny(l:List Nat):Except Nat (Bool×Nat×Nat):=if l.length=0 then .error 2
 else if l[0]! <128 then .ok (false,0,1)
 else if l[0]! <192 then
  match Ad l 128 with
  | .error x=>.error (if x then 3 else 2)
  | .ok (a,b)=>if b=1/\l[a]! <128 then .error 3 else .ok (false,a,b)
 else
  match Ad l 192 with
  | .error x=>.error (if x then 3 else 2)
  | .ok (a,b)=>.ok (true,a,b)
def Na(rd:Nat->Except Er It)(n:Nat):Nat->Nat->Except Er (List It)
 |0,_=>.ok []
 |k+1,fr=>
  if fr<n then
   match rd fr with
   | .error e=>.error e
   | .ok x=>
    match Na rd n k x.ra with
    | .error e=>.error e
    | .ok l=>.ok (x::l)
  else .ok []
def Kx:Nat->List Nat->Nat->Except Er It
 |0,l,fr=>
  match Ny (l.drop fr)with
  | .error e=>.error (.place fr (.base e))
  | .ok (mc,a,b)=>if mc then .error (.place fr (.base 5))else .ok (.text fr (fr+a+b) ((l.drop (fr+a)).take b))
 |d+1,l,fr=>
  match Ny (l.drop fr)with
  | .error e=>.error (.place fr (.base e))
  | .ok (mc,a,b)=>
   if mc then
    match Na (Kx d (l.take (fr+a+b))) (fr+a+b) b (fr+a)with
    | .error e=>.error e
    | .ok its=>.ok (.list fr (fr+a+b) its)
   else .ok (.text fr (fr+a+b) ((l.drop (fr+a)).take b))
def Gb(l:List Nat):Except Er It:=if 2048<l.length then .error (.base 1)
 else
  match Kx 6 l 0 with
  | .error e=>.error e
  | .ok x=>if x.ra<l.length then .error (.place x.ra (.base 4))else .ok x
theorem jv(hl:∀x∈l,x<256){mc:Bool}(h:Ny l=.ok (mc,a,b)):ze l mc a b:=by
 unfold Ny at h;by_cases i:l.length=0;.rw[Zo i]at h;cases h
 .rw[Zj i]at h;by_cases c:l[0]! <128;.rw[Zo c]at h;cases h;exact ze.byte (by omega) c
  .rw[Zj c]at h;by_cases d:l[0]! <192
   .rw[Zo d]at h;cases hf:Ad l 128 with
    |error x=>rw[hf]at h;cases h
    |ok p=>
     obtain⟨f,g⟩:=p;rw[hf]at h;simp only at h;by_cases e:g=1/\l[f]! <128;.rw[Zo e]at h;cases h
     .rw[Zj e]at h;cases h;exact ze.text hl (by omega) (by omega) d hf e
   .rw[Zj d]at h;cases hf:Ad l 192 with
    |error x=>rw[hf]at h;cases h
    |ok p=>obtain⟨f,g⟩:=p;rw[hf]at h;cases h;exact ze.list hl (by omega) (by omega) hf
def mh(l:List Nat)(fr:Nat)(x:It):Prop:=x.fr=fr/\fr<x.ra/\x.ra<=l.length/\x.code=(l.drop fr).take (x.ra-fr)
theorem qM{rd:Nat->Except Er It}{n:Nat}(hn:n=l.length)(hr:∀fr x,fr<=l.length->rd fr=.ok x->mh l fr x):∀(k fr:Nat) (its:List It),fr<=n->n-fr<=k->Na rd n k fr=.ok its->P3 its=l.drop fr:=by
 intro k;induction k with
 |zero=>intro fr its b d h;cases h;rw[Ji (by omega)];rfl
 |succ k ih=>
  intro fr its b d h;rw[Na]at h;by_cases a:fr<n
  .rw[Zo a]at h;cases h1:rd fr with
   |error e=>rw[h1]at h;cases h
   |ok x=>
    rw[h1]at h;simp only at h;obtain⟨_,f,g,c⟩:=hr fr x (by omega) h1;cases h2:Na rd n k x.ra with
    |error e=>rw[h2]at h;cases h
    |ok its2=>rw[h2]at h;cases h;rw[P3,c,ih x.ra its2 (by omega) (by omega) h2,show l.drop x.ra=(l.drop fr).drop (x.ra-fr)by rw[Jt];congr 1;omega,Xc]
  .rw[Zj a]at h;cases h;rw[Ji (by omega)];rfl
theorem Iu(hl:∀x∈l,x<256)(k:Nat):∀x∈l.drop k,x<256:=λx hx=>hl x (Yu hx)
theorem CC(hl:∀x∈l,x<256)(k:Nat):∀x∈l.take k,x<256:=λx hx=>hl x (Y4 hx)
theorem QF(hl:∀x∈l,x<256){fr:Nat}(hfr:fr<=l.length)(h:Ny (l.drop fr)=.ok (false,a,b)):mh l fr (.text fr (fr+a+b) ((l.drop (fr+a)).take b)):=by obtain⟨c,e,_,_,d⟩:=jv (Iu hl fr) h;rw[Yi]at c;refine⟨rfl,by simp only[It.ra];omega,by simp only[It.ra];omega,?_⟩;simp only[It.ra,It.code];rw[show fr+a+b-fr=a+b by omega,d rfl,Jt]
theorem ss:∀(d:Nat) (l:List Nat) (fr:Nat) (x:It),(∀y∈l,y<256)->fr<=l.length->Kx d l fr=.ok x->mh l fr x:=by
 intro d;induction d with
 |zero=>
  intro l fr x f c h;rw[Kx]at h;cases h1:Ny (l.drop fr)with
  |error e=>rw[h1]at h;cases h
  |ok p=>
   obtain⟨g,a,b⟩:=p;rw[h1]at h;cases g with
   |true=>cases h
   |false=>cases h;exact QF f c h1
 |succ d ih=>
  intro l fr x f c h;rw[Kx]at h;cases h1:Ny (l.drop fr)with
  |error e=>rw[h1]at h;cases h
  |ok p=>
   obtain⟨g,a,b⟩:=p;rw[h1]at h;cases g with
   |false=>cases h;exact QF f c h1
   |true=>
    simp only[if_true]at h;cases h2:Na (Kx d (l.take (fr+a+b))) (fr+a+b) b (fr+a)with
    |error e=>rw[h2]at h;cases h
    |ok its=>
     rw[h2]at h;cases h;obtain⟨o,u,_,q,_⟩:=jv (Iu f fr) h1;rw[Yi]at o;have j:(l.take (fr+a+b)).length=fr+a+b:=by rw[Zx];omega
     have s:=qM j.symm (λk t m n=>ih _ k t (CC f _) m n) b (fr+a) its (by omega) (by omega) h2;refine⟨rfl,by simp only[It.ra];omega,by simp only[It.ra];omega,?_⟩;simp only[It.ra,It.code];have r:(l.take (fr+a+b)).drop (fr+a)=((l.drop fr).drop a).take b:=by rw[List.drop_take,Jt,show fr+a+b-(fr+a)=b by omega]
     rw[s,r];unfold Ks;have i:(((l.drop fr).drop a).take b).length=b:=by rw[Zx,Yi,Yi];omega
     rw[i,<-q rfl,show fr+a+b-fr=a+b by omega,List.take_add]
theorem mC(hl:∀y∈l,y<256){x:It}(h:Gb l=.ok x):l.length<=2048/\x.fr=0/\x.ra=l.length/\x.code=l:=by
 unfold Gb at h;by_cases b:2048<l.length;.rw[Zo b]at h;cases h
 .rw[Zj b]at h;cases h1:Kx 6 l 0 with
  |error e=>rw[h1]at h;cases h
  |ok y=>
   rw[h1]at h;simp only at h;obtain⟨d,g,i,f⟩:=ss 6 l 0 y hl (by omega) h1;by_cases c:y.ra<l.length;.rw[Zo c]at h;cases h
   .rw[Zj c]at h;cases h;have a:x.ra=l.length:=by omega
    refine⟨by omega,d,a,?_⟩;rw[f,a,Yx,Ka,Zz (Za _)]
end
end Go.Proofs.YtpfbdlnibdfcoaaGreatDoor
