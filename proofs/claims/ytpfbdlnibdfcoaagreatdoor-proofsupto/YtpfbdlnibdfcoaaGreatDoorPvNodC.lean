import Derived.Test.YtpfbdlnibdfcoaaGreatDoorPvNodB
namespace Go.Proofs.YtpfbdlnibdfcoaaGreatDoor
open Go.RowKit Tryz
open Value renaming int->Ia,string->La,slice->Ma,bool->Oa,pointer->Qa,agg->Sa,tuple->Wa,iface->ca,nilIface->da
open IntKind renaming i64->ka
open Obj renaming cells->ma
open Ending renaming returned->na
open Tryz renaming prog->oa
set_option maxRecDepth 100000
set_option maxHeartbeats 0
def Wc:List Nd:=List.replicate 16 .no
theorem mS:E4 Wc:=Cw λx hx=>by rw[Jp hx,Nd.ok];trivial
theorem XQ(S:Bb):Kids S (List.replicate 16 da) Wc:=by refine⟨by simp,by simp[Wc],λi b a=>?_⟩;rw[List.getElem_replicate];exact .inl ⟨Jp (Zy a),rfl⟩
variable{ks:List Nd}{t:Nd}
theorem bO(h:E4 ks)(n:Nat)(ht:t.ok):E4 (ks.set n t):=Cw λx hx=>by
 rcases List.mem_or_eq_of_mem_set hx with h1|h1;.exact wu h h1
 .rw[h1];exact ht
theorem kA(h:E4 ks)(hl:ks.length=16)(n:Nat)(ht:t.ok):(Nd.br (ks.set n t)).ok:=by rw[Nd.ok];exact⟨by simp[hl],bO h n ht⟩
variable{B n:Nat}{S:Bb}{w:Fa}{v:Value}
theorem RI(hf:ua B S w)(hn:n<16)(hv:od S v t)(hok:t.ok):Calls oa 276 #[Ia .u8 (n:Int),v] w λe w'=>∃c,e=na (Qa (some ⟨c,0,none⟩))/\w.heap.size<=c/\Fr B S (S.put c (.br (Wc.set n t))) w w':=by
 have a:Ba w (w.alloc (ma lk.toArray 386)):=(Zb _ _).alloc (Za _) _;have d:(w.alloc (ma lk.toArray 386)).rangeAt w.heap.size 1 (List.replicate 16 da):=λj u k=>by rw[Ze];have l:lk=La ⟨#[]⟩::List.replicate 16 da:=rfl;rw[l,List.getElem?_toArray,J3 1 j,List.getElem?_cons_succ];exact k
 have f:=Hq (oC (hf.below a) d (XQ S) hn hv (kA mS rfl n hok));simp only[lk]at f a;have i:Hid (Fr B S S w _):=Fr.xa hf a;clear hf hn hv hok a d;go_enter func276,ntmps276;go_wp2_with fail
 refine f.mono ?_;rintro e m ⟨c,rfl,g,b⟩;have h:Hid (w.heap.size<=c/\Fr B S (S.put c (.br (Wc.set n t))) w m):=⟨Z2 (by simp) g,i.trans b⟩;clear g b;go_wp2;go_ret;exact⟨c,rfl,h.o⟩
def Gj(p:Da)(t:Nd):Nd:=if p.size=0 then t else .ext p t
variable{p:Da}
theorem dM(h:p.size=0):p=⟨#[]⟩:=by
 cases p with
 |mk d=>congr;exact Array.eq_empty_of_size_eq_zero h
def mf(B:Nat)(S:Bb)(w:Fa)(t:Nd)(e:Ending)(w':Fa):Prop:=∃v S',e=na v/\od S' v t/\Fr B S S' w w'
theorem Dx(hf:ua B S w)(hv:od S v t)(hne:t≠ .no)(hp:Oc p)(hok:t.ok):Calls oa 277 #[La p,v] w (mf B S w (Gj p t)):=by
 obtain⟨d,rfl,a⟩:=hv.full hne;by_cases h:p.size=0;.have i:=dM h;subst i;have f:=Hq hf;have g:=Hq hv;rw[Gj,Zo h];clear hf hv a hok h hp;go_enter func277,ntmps277;go_wp2;go_ret;exact⟨_,S,rfl,g.o,Fr.refl f.o⟩
 .have c:=lj p (by omega);have b:(Nd.ext p t).ok:=by rw[Nd.ok];exact⟨hp,hok,hne⟩
  have e:=Hq (Fr.alloc hf (t:=.ext p t) (h:=⟨#[]⟩) (r:=[La p,ca (K9 t) (Qa (some ⟨d,0,none⟩))]) (Bd.empty (by simp)) ⟨_,rfl,hv⟩ b);rw[Gj,Zj h];clear hf hv a hok h hp b;go_enter func277,ntmps277;go_wp2;go_ret;exact⟨_,_,rfl,.inr ⟨by simp,w.heap.size,rfl,Bb.Ob _ _ _⟩,e.o⟩
theorem Fr.leaf{B:Nat}{S:Bb}{w:Fa}(hf:ua B S w){p v:Da}(hp:Oc p)(hv:v.size<=1024):Fr B S (S.put w.heap.size (.leaf p v)) w (w.alloc (ma #[La ⟨#[]⟩,La p,La v] 304)):=Fr.alloc hf (t:=.leaf p v) (h:=⟨#[]⟩) (r:=[La p,La v]) (Bd.empty (by simp)) rfl (by rw[Nd.ok];exact⟨hp,hv⟩)
theorem Kids.sub{S S':Bb}(hs:∀b t,S b=some t->S' b=some t){r:List Value}{ks:List Nd}(h:Kids S r ks):Kids S' r ks:=⟨h.1,h.2.1,λi a b=>(h.2.2 i a b).sub hs⟩
variable{b:Nat}
theorem Qx(hf:ua B S w)(hb:S b=some (.br ks)):∃r,Kids S r ks/\w.rangeAt b 1 r:=by obtain⟨g,e,_,c,_,d,_,_⟩:=(hf.node b _ hb).cell;have a:=hf.ok b _ hb;rw[Nd.ok]at a;exact⟨e,⟨c.1,a.1,c.2⟩,d⟩
theorem zc{w':Fa}{o:Nat}{r:List Value}(h:w.rangeAt b o r)(hb:w'.heap[b]? =w.heap[b]?):w'.rangeAt b o r:=λj u hu=>(Zc hb).trans (h j u hu)
variable{r u:Da}
theorem RB(hf:ua B S w)(hb:S b=some (.br ks))(hr:0<r.size)(hn:(Ke r)[0]! =n)(hn16:n<16)(hr1:Oc (r.extract 1 r.size))(hu:u.size<=1024):Calls oa 278 #[Qa (some ⟨b,0,none⟩),La r,La u] w (mf B S w (.br (ks.set n (.leaf (r.extract 1 r.size) u)))):=by
 have k:(r[0]'hr).toNat=n:=by rw[<-hn];exact yg r 0 hr
 have v:(0:Int)<(r.size:Int):=by omega
 have y:(1:Int)<=(r.size:Int):=by omega
 obtain⟨x,s⟩:=nm (r.extract 1 r.size);rw[s]at hr1⊢;have d:=hf.ok b _ hb;rw[Nd.ok]at d;have g:=hf.lt hb;obtain⟨z,l,m⟩:=Qx hf hb;have i:ua B S w.drew:=hf.Cb (Za _) λ_ _ _=>rfl;have a:=Fr.leaf i hr1 hu;obtain⟨S1,f⟩:=nm (S.put w.drew.heap.size (.leaf x u));rw[f]at a;have j:od S1 (ca 255 (Qa (some ⟨w.heap.size,0,none⟩))) (.leaf x u):=.inr ⟨by simp,w.heap.size,rfl,by rw[<-f];exact Bb.Ob _ _ _⟩;have q:=Hq (oC a.wa (zc m (Z0 w.drew _ _ g)) (l.sub a.sub) hn16 j (kA d.2 d.1 n (by rw[Nd.ok];exact⟨hr1,hu⟩)));have p:=Hq ((Fr.xa hf (Kb (Zb _ _))).trans a);clear hf hb hn hn16 hr1 hu d l m i a f j g;go_enter func278,ntmps278;go_upto_region 1 with fail
 go_region_with (go_at_call 280;refine q.mono ?_;rintro e t ⟨c,rfl,k,h⟩;have o:Hid (Fr B S (S1.put c (.br (ks.set n (.leaf x u)))) w t):=p.trans h;clear k h)
 all_goals go_wp2
 all_goals go_ret
 all_goals exact⟨_,_,rfl,.inr ⟨by simp,c,rfl,Bb.Ob _ _ _⟩,o.o⟩
def Gm(x:Nat)(t:Nd)(y:Nat)(r u:Da):Nd:=.br ((Wc.set x t).set y (.leaf (r.extract 1 r.size) u))
def Nd.putAt:Nd->Da->Da->Nd
 | .leaf p v,r,u=>
  let n:=Gf (Ke p) (Ke r)
  if n=r.size then .leaf r u else Gj (r.extract 0 n) (Gm ((Ke p)[n]!) (.leaf (p.extract (n+1) p.size) v) ((Ke (r.extract n r.size))[0]!) (r.extract n r.size) u)
 | .ext p t,r,u=>
  let n:=Gf (Ke p) (Ke r)
  Gj (r.extract 0 n) (Gm ((Ke p)[n]!) (Gj (p.extract (n+1) p.size) t) ((Ke (r.extract n r.size))[0]!) (r.extract n r.size) u)
 | .br ks,r,u=>.br (ks.set ((Ke r)[0]!) (.leaf (r.extract 1 r.size) u))
 |_,r,u=>.leaf r u
theorem Oc.tail(h:Oc p)(n:Nat):Oc (p.extract n p.size):=⟨by rw[Cf];have :=h.1;omega,zp h.2 n⟩
theorem Oc.head(h:Oc p)(n:Nat):Oc (p.extract 0 n):=by refine⟨?_,VB h.2 n⟩;rw[<-ta,Qp,Zx,ta];have :=h.1;omega
theorem Oc.at(h:Oc p)(hn:n<p.size):(Ke p)[n]! <16:=by
 have :n<(Ke p).length:=by rw[ta];exact hn
 rw[Z9 (Ke p) n this];exact h.2 _ (Zy _)
theorem mf.ok{B:Nat}{S:Bb}{w:Fa}{v:Value}{t:Nd}(hf:ua B S w)(hv:od S v t)(hn:t≠ .no):t.ok:=by obtain⟨b,_,a⟩:=hv.full hn;exact hf.ok b t a
theorem Fw{v:Da}(hf:ua B S w)(hb:S b=some (.leaf p v)):w.cell? ⟨b,1,none⟩=some (La p)/\w.cell? ⟨b,2,none⟩=some (La v):=by obtain⟨g,d,_,a,_,c,_,_⟩:=(hf.node b _ hb).cell;have a:=a;subst a;exact⟨c 0 _ rfl,c 1 _ rfl⟩
theorem RG(hf:ua B S w)(hb:S b=some (.ext p t)):∃v,w.cell? ⟨b,1,none⟩=some (La p)/\w.cell? ⟨b,2,none⟩=some v/\od S v t:=by obtain⟨g,f,_,a,_,c,_,_⟩:=(hf.node b _ hb).cell;obtain⟨v,d,e⟩:∃v,f=[La p,v]/\od S v t:=a;subst d;exact⟨v,c 0 _ rfl,c 1 _ rfl,e⟩
theorem yN{v:Da}(hf:ua B S w)(hb:S b=some (.leaf p v))(hpr:p.size=r.size)(hr:Oc r)(hu:u.size<=1024):Calls oa 272 #[Qa (some ⟨b,0,none⟩),La r,La u] w (mf B S w ((Nd.leaf p v).putAt r u)):=by
 obtain⟨g,rr,_,K,c0,rg,_,_⟩:=(hf.node b _ hb).cell;have K:=K;subst K;have c1:=rg 0 _ rfl;have c2:=rg 1 _ rfl;have D:=hf.lt hb;have k:=hf.ok b _ hb;rw[Nd.ok]at k;have W:=Hq (OI p r w (by have :=k.1.1;omega));rw[Nd.putAt];have o:=Dt (Ke p) (Ke r);rw[ta,ta]at o;obtain⟨n,hN⟩:=nm (Gf (Ke p) (Ke r));rw[hN]at W o⊢;have z:=Hq hf;have HB:=Hq hb;have f:=Hq (A6 k.1 k.2 hr hu hpr hr.1);clear hf hb rg k c0 hN;by_cases F:n=r.size
 .rw[Zo F];subst F;clear o hr hu hpr;go_enter func272,ntmps272;go_wp2_with fail
  refine W.mono ?_;rintro e l ⟨rfl,a⟩;have X:=Hq ((Fr.xa z a).trans (Fr.leaf (z.below a) f.2.2.1 f.2.2.2.1));clear a;go_wp2;go_ret;exact⟨_,_,rfl,.inr ⟨by simp,l.heap.size,rfl,Bb.Ob _ _ _⟩,X.o⟩
 .rw[Zj F];have al:n<r.size:=by omega
  have G:n<p.size:=by omega
  obtain⟨x,M⟩:=nm ((Ke p)[n]!);have L:x<16:=by rw[<-M];exact f.1.at G
  have No:(p[n]'G).toNat=x:=by rw[<-M];exact yg p n G
  obtain⟨d,H⟩:=nm (p.extract (n+1) p.size);obtain⟨r0,T⟩:=nm (r.extract 0 n);obtain⟨r1,J⟩:=nm (r.extract n r.size);obtain⟨y,N⟩:=nm ((Ke r1)[0]!);rw[M,H,T,J,N];have ac:r1.size=r.size-n:=by rw[<-J,Cf]
  have h:Oc r1:=by rw[<-J];exact hr.tail n
  have j:=Hq (A6 (by rw[<-H];exact f.1.tail _:Oc d) (by rw[<-T];exact hr.head n:Oc r0) h (h.tail 1) (by omega :0<r1.size) (A3 N (by rw[<-N];exact h.at (by omega):y<16) L));have i1:(n:Int)<(p.size:Int):=by omega
  have i2:(n:Int)<(r.size:Int):=by omega
  have i3:(n:Int)<=(r.size:Int):=by omega
  have i4:(n:Int)+1<=(p.size:Int):=by omega
  have i5:(0:Int)<=(n:Int)+1:=by omega
  have i6:(0:Int)<=(n:Int):=by omega
  have k1:IntKind.i64.wrap ((n:Int)+1)=(n:Int)+1:=Ci _ (by have :=f.o;omega) (by have :=f.o;omega);have k2:((n:Int)+1).toNat=n+1:=by omega
  have ak:((n:Int)==(r.size:Int))=false:=by simp;omega
  have aj:¬n=r.size:=F;clear F o hr hu hpr M N ac h L;go_enter func272,ntmps272;go_upto_region 4 with(go_at_call 275;refine W.mono ?_;rintro e l ⟨rfl,a⟩;have m:=Hq a;have Y:=(a.cell (p:=⟨b,1,none⟩) D).trans c1;have Z:=(a.cell (p:=⟨b,2,none⟩) D).trans c2;clear a)
  have E:b<l.heap.size:=Zm D m.size;have R:ua B S l.drew:=(z.below m.o).Cb (Za _) λ_ _ _=>rfl;have s:=Fr.leaf R j.1 f.2.1;obtain⟨S1,C⟩:=nm (S.put l.drew.heap.size (.leaf d v));rw[C]at s;have U:od S1 (ca 255 (Qa (some ⟨l.heap.size,0,none⟩))) (.leaf d v):=.inr ⟨by simp,l.heap.size,rfl,by rw[<-C];exact Bb.Ob _ _ _⟩;have HK:=Hq (RI s.wa j.2.2.2.2.2.2.2 U (by rw[Nd.ok];exact⟨j.1,f.2.1⟩));have ai:Hid (Fr B S S1 w (l.drew.alloc (ma #[La ⟨#[]⟩,La d,La v] 304))):=((Fr.xa z m.o).trans (Fr.xa (z.below m.o) (Kb (Zb _ _)))).trans s;clear R s C U;go_region_held3 (λw'=>w'.cell? ⟨b,1,none⟩=some (La p)/\w'.cell? ⟨b,2,none⟩=some (La v)) (first|exact⟨Y,Z⟩|exact⟨(Z8 _ _ _ E).trans Y,(Z8 _ _ _ E).trans Z⟩|exact⟨e1,e2⟩) (first| (go_at_call 276;refine HK.mono ?_;rintro e O ⟨c,rfl,hc,P⟩;have i:Hid (Fr B S (S1.put c (.br (Wc.set x (.leaf d v)))) w O):=ai.trans P;obtain⟨e1,e2⟩:=Fw i.wa (i.sub b _ HB.o);clear hc P))
  all_goals clear Y Z e1 e2 HK No i1 i4 i5 k1 k2 H
  all_goals go_wp2
  all_goals
   have I:S1.put c (.br (Wc.set x (.leaf d v))) c=some (.br (Wc.set x (.leaf d v))):=Bb.Ob _ _ _;generalize S1.put c (.br (Wc.set x (.leaf d v)))=S2 at i I;have ae:Hid (Calls oa 278 #[Qa (some ⟨c,0,none⟩),La r1,La u] O.drew (mf B S2 O.drew (Gm x (.leaf d v) y r1 u))):=RB (i.wa.Cb (Za _) λ_ _ _=>rfl) I j.2.2.2.2.1 j.2.2.2.2.2.1 j.2.2.2.2.2.2.1 j.2.2.2.1 f.2.2.2.1;have ah:Hid (Fr B S S2 w O.drew):=i.behind (Kb (Zb _ _));clear I;go_region_with (first| (go_at_call 278;refine ae.mono ?_;rintro e w3 ⟨v3,S3,rfl,t,q⟩;have ag:Hid (Fr B S S3 w w3):=ah.trans q;have hU:=Dx (p:=r0) q.wa t (by simp[Gm]) j.2.1 (mf.ok q.wa t (by simp[Gm]));obtain⟨d3,rfl,-⟩:=t.full (by simp[Gm]);have HU:=Hq hU;clear t q hU)| (go_at_call 277;refine HU.mono ?_;rintro e w4 ⟨v4,S4,rfl,V,Q⟩;have X:Hid (od S4 v4 (Gj r0 (Gm x (.leaf d v) y r1 u))/\Fr B S S4 w w4):=⟨V,ag.trans Q⟩;clear V Q))
   all_goals go_wp2
   all_goals go_ret
   all_goals exact⟨_,_,rfl,X.o⟩
theorem RF(h:¬K7 p r):Gf (Ke p) (Ke r)<p.size:=by
 have b:=Dt (Ke p) (Ke r);have a:=kv (Ke p) (Ke r);rw[ta,ta]at b;rcases Nat.lt_or_ge (Gf (Ke p) (Ke r)) p.size with h3|h3;.exact h3
 .exfalso;apply h;unfold K7;have e:Gf (Ke p) (Ke r)=p.size:=by omega
  rw[e]at a;rw[<-a,Zz (by rw[ta];exact Za _)]
theorem aE{S':Bb}{w':Fa}(h:Fr B S S' w w')(hb:S b=some (.ext p t))(c1:w.cell? ⟨b,1,none⟩=some (La p))(c2:w.cell? ⟨b,2,none⟩=some v):w'.cell? ⟨b,1,none⟩=some (La p)/\w'.cell? ⟨b,2,none⟩=some v:=by exact⟨(h.kids b _ hb 1 (by omega)).trans c1,(h.kids b _ hb 2 (by omega)).trans c2⟩
theorem uL(hf:ua B S w)(hb:S b=some (.ext p t))(hpr:p.size<r.size)(hnb:¬K7 p r)(hr:Oc r)(hu:u.size<=1024):Calls oa 315 #[Qa (some ⟨b,0,none⟩),La r,La u] w (mf B S w ((Nd.ext p t).putAt r u)):=by
 obtain⟨tv,U,V,J⟩:=RG hf hb;have P:=hf.lt hb;have a:=hf.ok b _ hb;rw[Nd.ok]at a;have HC:=Hq (OI p r w (by have :=a.1.1;omega));rw[Nd.putAt];have l:=RF hnb;obtain⟨n,hN⟩:=nm (Gf (Ke p) (Ke r));rw[hN]at HC l⊢;have HF:=Hq hf;have Z:=Hq hb;have f:=Hq (A6 a.1 a.2.1 a.2.2 hr hu (A2 hpr hr.1));have HV:=Hq J;obtain⟨td,ai,-⟩:=J.full a.2.2;subst ai;have aj:n<r.size:=by omega
 obtain⟨x,M⟩:=nm ((Ke p)[n]!);have K:x<16:=by rw[<-M];exact f.1.at l
 have No:(p[n]'l).toNat=x:=by rw[<-M];exact yg p n l
 obtain⟨X,F⟩:=nm (p.extract (n+1) p.size);obtain⟨Y,R⟩:=nm (r.extract 0 n);obtain⟨r1,H⟩:=nm (r.extract n r.size);obtain⟨y,N⟩:=nm ((Ke r1)[0]!);rw[M,F,R,H,N];have W:r1.size=r.size-n:=by rw[<-H,Cf]
 have d:Oc r1:=by rw[<-H];exact hr.tail n
 have g:=Hq (A6 (by rw[<-F];exact f.1.tail _:Oc X) (by rw[<-R];exact hr.head n:Oc Y) d (d.tail 1) (by omega :0<r1.size) (A3 N (by rw[<-N];exact d.at (by omega):y<16) K));have i1:(n:Int)<(p.size:Int):=by omega
 have i2:(n:Int)<(r.size:Int):=by omega
 have i3:(n:Int)<=(r.size:Int):=by omega
 have i4:(n:Int)+1<=(p.size:Int):=by omega
 have i5:(0:Int)<=(n:Int)+1:=by omega
 have i6:(0:Int)<=(n:Int):=by omega
 have k1:IntKind.i64.wrap ((n:Int)+1)=(n:Int)+1:=Ci _ (by have :=f.o;omega) (by have :=f.o;omega);have k2:((n:Int)+1).toNat=n+1:=by omega
 obtain⟨h,m⟩:=nm (Gj X t);rw[m];have I:h≠ .no:=by
  rw[<-m];unfold Gj;split;.exact a.2.2
  .simp
 have C:=Hq (A2 m I);clear hf hb a hN hr hu hpr M N W d K hnb J m I;go_enter func315,ntmps315;go_upto_region 2 with(go_at_call 275;refine HC.mono ?_;rintro e w1 ⟨rfl,i⟩;have ac:=Hq i;have d1:=(i.cell (p:=⟨b,1,none⟩) P).trans U;have d2:=(i.cell (p:=⟨b,2,none⟩) P).trans V;clear i)
 have z:Hid (Fr B S S w w1.drew):=(Fr.xa HF ac.o).behind (Kb (Zb _ _));have D:=Hq (Dx (p:=X) z.wa HV f.2.2.1 g.1 f.2.1);rw[C.1]at D;go_region_held3 (λw'=>w'.cell? ⟨b,1,none⟩=some (La p)/\w'.cell? ⟨b,2,none⟩=some (ca (K9 t) (Qa (some ⟨td,0,none⟩)))) (first|exact⟨d1,d2⟩|exact⟨e1,e2⟩|exact⟨f1,f2⟩) (first| (go_at_call 277;refine D.mono ?_;rintro e w2 ⟨v2,L,rfl,o,j⟩;have s:Hid (Fr B S L w w2):=z.trans j;obtain⟨e1,e2⟩:=aE (z.trans j) Z U V;obtain⟨d3,rfl,-⟩:=o.full C.2;have HK:=Hq (RI s.wa g.2.2.2.2.2.2.2 o (mf.ok j.wa o C.2));clear o j)| (go_at_call 276;refine HK.mono ?_;rintro e O ⟨c,rfl,hc,E⟩;have v:Hid (Fr B S (L.put c (.br (Wc.set x h))) w O):=s.trans E;obtain⟨f1,f2⟩:=aE (s.trans E) Z U V;clear hc E))
 all_goals clear d1 d2 e1 e2 f1 f2 HK D No i1 i4 i5 k1 k2 F
 all_goals go_wp2
 all_goals
  have G:L.put c (.br (Wc.set x h)) c=some (.br (Wc.set x h)):=Bb.Ob _ _ _;generalize L.put c (.br (Wc.set x h))=S3 at v G;have ae:Hid (Calls oa 278 #[Qa (some ⟨c,0,none⟩),La r1,La u] O.drew (mf B S3 O.drew (Gm x h y r1 u))):=RB (v.wa.Cb (Za _) λ_ _ _=>rfl) G g.2.2.2.2.1 g.2.2.2.2.2.1 g.2.2.2.2.2.2.1 g.2.2.2.1 f.2.2.2.2.1;have ah:Hid (Fr B S S3 w O.drew):=v.behind (Kb (Zb _ _));clear G;go_region_with (first| (go_at_call 278;refine ae.mono ?_;rintro e w4 ⟨v4,S4,rfl,q,k⟩;have ag:Hid (Fr B S S4 w w4):=ah.trans k;have hU:=Dx (p:=Y) k.wa q (by simp[Gm]) g.2.1 (mf.ok k.wa q (by simp[Gm]));obtain⟨d4,rfl,-⟩:=q.full (by simp[Gm]);have D:=Hq hU;clear q k hU)| (go_at_call 277;refine D.mono ?_;rintro e w5 ⟨v5,S5,rfl,T,Q⟩;have HE:Hid (od S5 v5 (Gj Y (Gm x h y r1 u))/\Fr B S S5 w w5):=⟨T,ag.trans Q⟩;clear T Q))
  all_goals go_wp2
  all_goals go_ret
  all_goals exact⟨_,_,rfl,HE.o⟩
end Go.Proofs.YtpfbdlnibdfcoaaGreatDoor
