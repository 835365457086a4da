import Derived.Test.YtpfbdlnibdfcoaaGreatDoorPvAccH
namespace Go.Proofs.YtpfbdlnibdfcoaaGreatDoor
open Go.RowKit Tryz
open Value renaming int->Ia,string->La,slice->Ma,bool->Oa,pointer->Qa,agg->Sa,tuple->Wa,iface->ca,nilIface->da
open IntKind renaming i64->ka
open Obj renaming cells->ma
open Ending renaming returned->na
open Tryz renaming prog->oa
set_option maxRecDepth 100000
set_option maxHeartbeats 0
variable{B:Nat}{S S':Bb}{w:Fa}
theorem Fr.grow{w1 w2:Fa}{o:Option Nat}(h:Fr B S S' w w1)(g:w1.grownBy w2 o)(ho:∀k,o=some k->w.heap.size<=k/\S' k=none):Fr B S S' w w2:=by
 have i:=g.size;refine⟨g.os.trans h.os,g.tape.trans h.tape,g.output.trans h.output,Z2 h.size g.size,λk a f=>?_,h.wa.Cb g.size λk t a=>?_,h.sub,h.new,λb t c j d=>(Zc (g.block b (h.wa.lt (h.sub b t c)) λe=>?_)).trans (h.kids b t c j d)⟩;.have :=h.size;refine(g.block k (by omega) λe=>?_).trans (h.other k a f);have :=(ho k e.symm).1;omega
 .refine g.block k (h.wa.lt a) λe=>?_;rw[(ho k e.symm).2]at a;cases a
 .have :=h.sub b t c;rw[(ho b e.symm).2]at this;cases this
variable{w':Fa}{l:List Nat}
theorem Own.frame{C:Nat}{v:Value}(h:Own w C v l)(hf:Fr B S S' w w')(hn:∀k,C<=k->S k=none):Own w' C v l:=h.Cb hf.size λk hk hv=>hf.other k hk (hn k (h.block k hv).1)
theorem Cm.cell{S:Bb}{w:Fa}{b:Nat}{t:Nd}(h:Cm S w b t):∃g r,Bd t g/\Mg S t r/\w.cell? ⟨b,0,none⟩=some (La g)/\w.rangeAt b 1 r/\(∀j,w.frozen? ⟨b,j,none⟩=false)/\w.heap[b]? =some (ma (La g::r).toArray (Ev t) (0,0)):=by
 obtain⟨g,r,c,d,a⟩:=h;refine⟨g,r,c,d,?_,λj v e=>?_,λj=>?_,a⟩;.simp[World.cell?,a]
 .simp[World.cell?,a,J3 1 j,e]
 .simp[World.frozen?,a]
theorem DE(l:List Nat)(hl:l.length=32)(hb:∀x∈l,x<256)(w:Fa):Calls oa 183 #[Sa (l.map Kf).toArray] w λe w'=>e=na (La (Kg (Kh l)))/\Ba w w':=by
 obtain⟨A,b⟩:=nm ((l.map Kf).toArray);have d:(w.alloc (ma A 39)).rangeAt w.heap.size 0 (l.map Kf):=λj v h=>by rw[Zf,Ze,<-b];simpa using h
 rw[b];have i:=dD (P:=oa) (w.alloc (ma A 39)) 116 9 5 underlying116 underlying5 underlying9 d 32 32 hl.symm;have c:=Hq (A2 hl hb);clear b d hl hb;go_enter func183,ntmps183;go_wp2_with fail
 refine(pq (B:=w.heap.size) (l:=[]) (Kg l) _ (Own.nil _ _) (by simp) (by rw[me,c.1];omega) (by simp)).mono ?_;rintro e f ⟨o,rfl,a⟩;rw[qg c.2,Xi]at a;obtain⟨m,k,rfl⟩:=a.own.ye;have n:=nj (P:=oa) f 116 9 5 underlying116 underlying5 underlying9 a.own;have g:Aside (Ba w f):=a.below (Own.nil _ _) ((Zb _ _).alloc (Za _) _) (by simp);clear a i;go_wp2;go_ret;exact⟨rfl,g.o⟩
variable{b:Nat}{p v:Da}
theorem cD(hf:ua B S w)(hb:S b=some (.leaf p v)):Calls oa 269 #[Qa (some ⟨b,0,none⟩)] w λe w'=>e=na (La (Kg (Nd.leaf p v).code))/\Fr B S S w w':=by
 obtain⟨g,r,_,s,F,t,_,_⟩:=(hf.node b _ hb).cell;have s:=s;subst s;have M:=t 0 _ rfl;have G:=t 1 _ rfl;have z:=hf.lt hb;have i:=hf.ok b _ hb;rw[Nd.ok]at i;have a:=Hq i;have E:=Hq hf;obtain⟨C,q⟩:=nm ((Nd.leaf p v).code);obtain⟨L,j⟩:=nm (Kh (Kj (Ke p) true)++Kh (Ke v));have D:Hid (Ks L=C):=by rw[<-q,Nd.code,j];exact rfl
 have y:Hid (Kh (Kj (Ke p) true)++Kh (Ke v)=L/\L.length<=2000):=by refine⟨j,?_⟩;have :=Ij (Kj (Ke p) true);rw[Fo,ta]at this;have :=a.1.1;have :=Ij (Ke v);have :=ta v;have :=a.2;rw[<-j,Zq];omega
 rw[q];clear hf hb t i F q j;go_enter func269,ntmps269;go_wp2_with fail
 refine(CF p true _ (by have :=a.1.1;omega) a.1.2).mono ?_;rintro e H ⟨rfl,o⟩;have k:=Hq o;clear o;go_wp2_with fail
 refine(pq (B:=w.heap.size) (l:=[]) (Kg (Kj (Ke p) true)) H (Own.nil _ _) k.size (by rw[me,Fo,ta];have :=a.1.1;omega) (by simp)).mono ?_;rintro e I ⟨X,rfl,c⟩;rw[qg (cp true a.1.2),Xi]at c;have h:=Hq (Mv k (Own.nil _ _) c);obtain⟨T,O,rfl⟩:=c.own.ye;have n:=Hq c.own;have N:=(h.cell (p:=⟨b,2,none⟩) z).trans G;clear c;go_wp2_with fail
 refine(pq (B:=w.heap.size) v I n h.size (by have :=a.2;omega) (by have :=Ij (Kj (Ke p) true);rw[Fo,ta]at this;have :=a.1.1;omega)).mono ?_;rintro e J ⟨Y,rfl,d⟩;rw[y.1]at d;have m:=Hq (Mv h n d);obtain⟨U,Q,rfl⟩:=d.own.ye;have x:=Hq d.own;clear d;go_wp2_with fail
 refine(iC (B:=w.heap.size) (v:=Ma none 0 0) (l:=[]) J (Own.nil _ _) x (by simp[Value.ownBlock]) m.size (by have :=y.2;omega) (by simp)).mono ?_;rintro e K ⟨Z,rfl,f⟩;rw[Xi,D.o]at f;have u:=Hq (Mv m (Own.nil _ _) f);obtain⟨V,R,rfl⟩:=f.own.ye;have W:=nj (P:=oa) K 116 9 5 underlying116 underlying5 underlying9 f.own;clear f;go_wp2;go_ret;exact⟨rfl,Fr.xa E u.o⟩
def Ew:Nd->FuncId
 | .no=>0
 | .leaf _ _=>273
 | .ext _ _=>316
 | .br _=>305
 | .stub _=>267
theorem Cr(t:Nd)(ht:t≠ .no)(a:Addr)(w:Fa):(Go.method 535 (K9 t) (Qa (some a)) "twigs/tree.reference").run oa w=.ok (Ew t,Qa (some a)) w:=by
 cases t with
 |no=>exact absurd rfl ht
 |leaf _ _=>kernel_rfl
 |ext _ _=>kernel_rfl
 |br _=>kernel_rfl
 |stub _=>kernel_rfl
theorem OC(t:Nd)(ht:t≠ .no)(args:Array Value)(w:Fa):(callFunc (Ew t) args).run oa w=.ok (.enter (Ew t) args) w:=by
 cases t with
 |no=>exact absurd rfl ht
 |leaf _ _=>kernel_rfl
 |ext _ _=>kernel_rfl
 |br _=>kernel_rfl
 |stub _=>kernel_rfl
def Ru(B:Nat)(S:Bb)(t:Nd):Prop:=∀(W:Fa) (b:Nat),ua B S W->qb W->16<=B->S b=some t->Calls oa (Ew t) #[Qa (some ⟨b,0,none⟩)] W λe w'=>e=na (La (Kg t.ref))/\Fr B S S W w'
theorem Fr.Fg(h:Fr B S S' w w')(hf:ua B S w)(hT:qb w)(hM:16<=B):qb w':=hT.ud ((h.below hf).block 13 (by omega)) ((h.below hf).block 15 (by omega))
variable{t:Nd}
theorem NI(hf:ua B S w)(hT:qb w)(hM:16<=B)(hb:S b=some (.ext p t))(hR:Ru B S t):Calls oa 310 #[Qa (some ⟨b,0,none⟩)] w λe w'=>e=na (La (Kg (Nd.ext p t).code))/\Fr B S S w w':=by
 obtain⟨i0,hi,Z,ac,ae⟩:=Xl um;obtain⟨g,r,_,K,c0,O,_,_⟩:=(hf.node b _ hb).cell;obtain⟨v,K,N⟩:∃v,r=[La p,v]/\od S v t:=K;subst K;have c1:=O 0 _ rfl;have c2:=O 1 _ rfl;have X:=hf.lt hb;have i:=hf.ok b _ hb;rw[Nd.ok]at i;rcases N with⟨N,_⟩|⟨hne,c,rfl,hc⟩;.exact absurd N i.2.2
 have o:=Hq i.1;have H:=Hq i.2.1;have m:=Hq hf;have HR:Hid (∀W,ua B S W->qb W->Calls oa (Ew t) #[Qa (some ⟨c,0,none⟩)] W λe w'=>e=na (La (Kg t.ref))/\Fr B S S W w'):=λW h1 h2=>hR W c h1 h2 hM hc;have V:=Hq hT;have hm:=Cr t hne;have Y:=OC t hne;have U:=Hq hM;obtain⟨C,J⟩:=nm ((Nd.ext p t).code);obtain⟨q,j⟩:=nm (Kh (Kj (Ke p) false));obtain⟨L,u⟩:=nm (q++t.ref);have G:Hid (Kh (Kj (Ke p) false)=q/\q.length<=100):=by refine⟨j,?_⟩;have :=Ij (Kj (Ke p) false);rw[Fo,ta]at this;have :=o.1;rw[<-j];omega
 have F:Hid (Ks L=C/\q++t.ref=L/\L.length<=200):=by refine⟨by rw[<-J,Nd.yk,j,u],u,?_⟩;have :=t.Lj H.o;have :=G.2;rw[<-u,Zq];omega
 rw[J];clear hf hb O i c0 J u j hR hM hT hc;go_enter func310,ntmps310;go_wp2_with fail
 refine(CF p false _ (by have :=o.1;omega) o.2).mono ?_;rintro e w1 ⟨rfl,E⟩;have y:=Hq E;clear E;go_wp2_with fail
 refine(pq (B:=w.heap.size) (l:=[]) (Kg (Kj (Ke p) false)) w1 (Own.nil _ _) y.size (by rw[me,Fo,ta];have :=o.1;omega) (by simp)).mono ?_;rintro e w2 ⟨v2,rfl,d⟩;rw[qg (cp false o.2),Xi,G.1]at d;have a:=Hq (Mv y (Own.nil _ _) d);obtain⟨p2,k2,rfl⟩:=d.own.ye;have R:=Hq d.own;have d2:=(a.cell (p:=⟨b,2,none⟩) X).trans c2;clear d;have I:=Hq (V.ud (a.block _ (by have :=U.o;have :=m.le;omega)) (a.block _ (by have :=U.o;have :=m.le;omega)));go_wp2_with fail
 refine(HR _ (m.below a.o) I.o).mono ?_;rintro e w3 ⟨rfl,s⟩;have z:=Hq ((Fr.xa m a.o).trans s);have n:=Hq (R.frame s λk x=>m.fresh x);clear s;go_wp2_with (at_builtin;refine zs _ rfl _ _ 116 9 rfl 5 i0 underlying116 underlying9 hi Z ac ae w.heap.size _ q rfl n (Kg t.ref) rfl ?d1 z.size ?_)
 case d1=>rw[me];have :=G.2;have :=t.Lj H.o;omega
 intro v4 w4 f;rw[qg (t.uh H.o),F.2.1]at f;have D:=Hq (z.grow f.grown λk x=>⟨(n.block k x).1,m.fresh (n.block k x).1⟩);obtain⟨p4,k4,rfl⟩:=f.own.ye;have T:=Hq f.own;clear f hm Y;go_wp2_with fail
 refine(iC (B:=w.heap.size) (v:=Ma none 0 0) (l:=[]) w4 (Own.nil _ _) T (by simp[Value.ownBlock]) D.size (by have :=F.2.2;omega) (by simp)).mono ?_;rintro e w5 ⟨v5,rfl,h⟩;rw[Xi,F.1]at h;have Q:=Hq (D.grow h.grown (by simp[Value.ownBlock]));obtain⟨p5,k5,rfl⟩:=h.own.ye;have q5:=nj (P:=oa) w5 116 9 5 underlying116 underlying5 underlying9 h.own;clear h;go_wp2;go_ret;exact⟨rfl,Q.o⟩
theorem AQ(w:Fa):(sizeOf 96).run oa w=.ok 1 w:=by kernel_rfl
theorem kD(r:List Value)(k:Nat)(hk:k<r.length)(h16:r.length=16)(w:Fa):(Instr.index 384 (Sa r.toArray) (Ia ka (k:Int))).run oa w=.ok r[k] w:=by
 have a:k<16:=by omega
 have b:=AQ w;have c:r[k]? =some r[k]:=by simp[hk]
 simp[Instr.index,asIntOf,run_underlying underlying384,a,part,b,c,go_sem]
variable{ks:List Nd}
theorem mG(hf:ua B S w)(hT:qb w)(hM:16<=B)(hb:S b=some (.br ks))(hR:∀x∈ks,x≠ .no->Ru B S x):Calls oa 300 #[Qa (some ⟨b,0,none⟩)] w λe w'=>e=na (La (Kg (Nd.br ks).code))/\Fr B S S w w':=by
 obtain⟨i0,hi,al,am,ao⟩:=Xl um;obtain⟨g,r,_,hr,Q,rg,_,_⟩:=(hf.node b _ hb).cell;obtain⟨y,X⟩:r.length=16/\∀i (h1:i<r.length) (h2:i<ks.length),od S r[i] ks[i]:=hr;have E:=hf.ok b _ hb;rw[Nd.ok]at E;have ak:(oa.info? 384).map (·.size)=some r.length:=by rw[y];kernel_rfl
 obtain⟨C,Z⟩:=nm ((Nd.br ks).code);have HC:Hid (Ks (Hv ks++Kh [])=C):=by rw[<-Z,Nd.code];exact rfl
 rw[Z];have q:=Hq (A3 E.1 E.2 y);have HV:=Hq X;have HR:=Hq hR;have F:=Hq hf;have ai:=Hq hT;have HM:=Hq hM;clear hf hT hM hb hR y X E Q Z;go_enter func300,ntmps300;go_wp2_with (refine Zr rfl 384 _ rfl b 1 rfl r _ rg underlying384 rfl ak ?_)
 go_loopg [3,10] 16 (λgh v i wr=>∃k,k<=16/\gh=16-k/\i=Ia ka (k:Int)/\Own wr w.heap.size v (Hv (ks.take k))/\Fr B S S w wr)
 case atStart=>exact⟨0,Xa _,rfl,rfl,by rw[Xr,Hv];exact Own.nil _ _,Fr.refl F.o⟩
 case round=>
  obtain⟨k,hk,rfl,rfl,U,hF⟩:=hrel;have h:=Hq hF;obtain⟨R,D⟩:=nm (Hv (ks.take k));rw[D]at U;have p:Hid (Hv (ks.take k)=R/\R.length<=33*16):=by refine⟨D,?_⟩;have h1:E4 (ks.take k):=Cw λx z=>wu q.2.1 (Y4 z);have h2:=jF _ h1;rw[Zx,D]at h2;have :=q.1;omega
  obtain⟨p0,Q,rfl⟩:=U.ye;have s:=Hq U;clear U hF D;by_cases ar:k<16
  .have aq:(k:Int)<16:=by omega
   have W:k<r.length:=by have :=q.2.2;omega
   have I:k<ks.length:=by have :=q.1;omega
   have hv:=HV k W I;have q0:=λw=>kD r k W q.2.2 w;have z:=Zy I;have J:Hv (ks.take (k+1))=R++ks[k].ref:=by rw[Jj,WL,p.1,Zk I,Option.toList,Fu,Hv,Jy]
   have K:=wu q.2.1 z;obtain⟨t,ht⟩:=nm ks[k];rw[ht]at hv z J K;obtain⟨u,hu⟩:=nm r[k];rw[hu]at hv;simp only[hu]at q0;have O:=Hq (A2 J K);clear J K ht hu;rcases hv with⟨rfl,rfl⟩|⟨hne,c,rfl,hc⟩
   .clear z;go_wp2_with fail
    refine(pq (B:=w.heap.size) (l:=R) ⟨#[]⟩ wr s h.size (by show 0<=_;omega) (by have :=p.2;omega)).mono ?_;rintro e N ⟨v1,rfl,n⟩;have d:Dc wr N w.heap.size (Ma p0 R.length Q) v1 (Hv (ks.take (k+1))):=by rw[O.1];exact n
    have f:=Hq (h.grow n.grown λj o=>⟨(s.block j o).1,F.fresh (s.block j o).1⟩);have m:=Hq d.own;clear n d;go_wp2;go_roundg (16-(k+1))
    case measure=>omega
    case rel=>exact⟨k+1,by omega,rfl,by simp,m.o,f.o⟩
   .have hm:=Cr t hne;have aj:=OC t hne;have ag:=Hq (HR t z hne);have ah:=Hq (h.Fg F ai HM.o);clear z;go_wp2_with fail
    refine(ag wr c h.wa ah HM hc).mono ?_;rintro e N ⟨rfl,H⟩;have f:=Hq (h.trans H);have m:=Hq (s.frame H λj o=>F.fresh o);clear H;go_wp2_with (at_builtin;refine zs _ rfl _ _ 116 9 rfl 5 i0 underlying116 underlying9 hi al am ao w.heap.size _ R rfl m (Kg t.ref) rfl ?d1 f.size ?_)
    case d1=>rw[me];have :=p.2;have :=t.Lj O.2;omega
    intro v2 w2 a;rw[qg (t.uh O.2),<-O.1]at a;have G:=Hq (f.grow a.grown λj o=>⟨(m.block j o).1,F.fresh (m.block j o).1⟩);have ae:=Hq a.own;clear a hm aj;go_wp2;go_roundg (16-(k+1))
    case measure=>omega
    case rel=>exact⟨k+1,by omega,rfl,by simp,ae.o,G.o⟩
  .have ac:k=16:=by omega
   subst ac;have V:Hv ks=R:=by rw[<-p.1,Zz (by have :=q.1;omega)]
   obtain⟨L,T⟩:=nm (R++Kh []);have Y:Hid (Ks L=C/\R++Kh []=L/\L.length<=600):=by refine⟨by rw[<-T,<-V];exact HC.o,T,?_⟩;have :=Ij [];have :=p.2;rw[<-T,Zq];simp at *;omega
   clear V T;go_wp2_with fail
   refine(pq (B:=w.heap.size) (l:=R) ⟨#[]⟩ wr s h.size (by show 0<=_;omega) (by have :=p.2;omega)).mono ?_;rintro e N ⟨v1,rfl,n⟩;have d:Dc wr N w.heap.size (Ma p0 R.length Q) v1 L:=by rw[<-Y.2.1];exact n
   have f:=Hq (h.grow n.grown λj o=>⟨(s.block j o).1,F.fresh (s.block j o).1⟩);obtain⟨p1,c1,rfl⟩:=d.own.ye;have m:=Hq d.own;clear n d;go_wp2_with fail
   refine(iC (B:=w.heap.size) (v:=Ma none 0 0) (l:=[]) N (Own.nil _ _) m (by simp[Value.ownBlock]) f.size (by have :=Y.2.2;omega) (by simp)).mono ?_;rintro e w2 ⟨v2,rfl,a⟩;rw[Xi,Y.1]at a;have G:=Hq (f.grow a.grown (by simp[Value.ownBlock]));obtain⟨p2,c2,rfl⟩:=a.own.ye;have q5:=nj (P:=oa) w2 116 9 5 underlying116 underlying5 underlying9 a.own;clear a;go_wp2;go_ret;exact⟨rfl,G.o⟩
theorem Fr.lv{Y:Fa}(hf:ua B S w)(hb:S b=some t)(u:Value)(hY:Below w.heap.size (w.setCell ⟨b,0,none⟩ u) Y){h:Da}(hh:Bd t h):Fr B S S w (Y.setCell ⟨b,0,none⟩ (La h)):=by
 have n:(w.setCell ⟨b,0,none⟩ u).heap.size=w.heap.size:=by simp
 have f:=hY.size;rw[n]at f;have c:∀k,k<w.heap.size->k≠b->(Y.setCell ⟨b,0,none⟩ (La h)).heap[k]? =w.heap[k]? :=λk a d=>(Zd _ _ _ _ d).trans ((hY.block k a).trans (Zd _ _ _ _ d));refine⟨hY.os,hY.tape,hY.output,by simpa using f,λk a d=>c k a λe=>?_,⟨λk v a=>?_,hf.ok,hf.low,by have :=hf.le;simp;omega⟩,λ_ _ h=>h,λ_ _ h=>h,λk v a j s=>?_⟩;.rw[e,hb]at d;cases d
 .obtain⟨g,r,o,l,m⟩:=hf.node k v a;by_cases e:k=b;.subst e;obtain rfl:t=v:=Zi (hb.symm.trans a);have q:=hf.lt hb;exact⟨h,r,hh,l,SB ((hY.block k q).trans (SB m))⟩
  .exact⟨g,r,o,l,(c k (hf.lt a) e).trans m⟩
 .have i:(⟨k,j,none⟩:Addr)≠⟨b,0,none⟩:=λe=>by have :=Y5 Addr.off e;simp at this;omega
  exact(Zp _ _ _ _ (Ne.symm i)).trans ((hY.cell (p:=⟨k,j,none⟩) (hf.lt a)).trans (Zp _ _ _ _ (Ne.symm i)))
theorem tB(hf:ua B S w)(hT:qb w)(hM:16<=B)(hb:S b=some t)(ht:t.ref=Nu t.code)(F:FuncId)(hF:∀args w,(callFunc F args).run oa w=.ok (.enter F args) w)(hc:Calls oa F #[Qa (some ⟨b,0,none⟩)] w λe w'=>e=na (La (Kg t.code))/\Fr B S S w w'):Calls oa 279 #[Qa (some ⟨b,0,none⟩),.func (.func F) #[Qa (some ⟨b,0,none⟩)] #[]] w λe w'=>e=na (La (Kg t.ref))/\Fr B S S w w':=by
 obtain⟨g,r,L,hr,X,rg,Q,_⟩:=(hf.node b _ hb).cell;have ac:=t.Ce (hf.ok b t hb);have E:=t.tn;have Z:=Q 0;have J:=Hq hf;have P:=Hq hT;have O:=Hq hM;have T:=hf.lt hb;have l:=Hq hb;obtain⟨s,m⟩:=nm (Kg t.code);obtain⟨z,k⟩:=nm (Kg t.ref);have a:=Hq (A4 k m (by rw[<-m,me]:s.size=t.code.length) ht);have U:0<z.size:=by rw[<-k,me];exact E
 rw[m]at hc;rw[k];unfold Bd at L;rw[k]at L;clear hf hT hM hb ht m k hr rg Q E;rcases L with rfl|⟨rfl,-⟩;.have ae:=lj g U;clear hc hF;go_enter func279,ntmps279;go_wp2;go_ret;exact⟨rfl,Fr.refl J.o⟩
 .have N:=Hq hc;clear hc;go_enter func279,ntmps279;go_wp2_with fail
  refine N.mono ?_;rintro e n ⟨rfl,f⟩;obtain⟨g1,r1,_,_,d0,_,q,_⟩:=(f.wa.node b _ l.o).cell;have Y:=q 0;have c:=Hq f;have u:=Zm T f.size;clear f q hF N X Z;by_cases C:s.size<32
  .have hi:(s.size:Int)<32:=by omega
   have I:Bd t s:=by left;rw[<-a.2.1,a.2.2.2,Nu,Zo (by have :=a.2.2.1;omega)]
   have G:s=z:=by rw[<-a.1,<-a.2.1,a.2.2.2,Nu,Zo (by have :=a.2.2.1;omega)]
   have d:=Hq (A2 I G);clear I C G;go_wp2;go_ret;exact⟨Y5 (λx=>Ending.returned (La x)) d.2,c.trans (Fr.held c.wa l d.1)⟩
  .have hi:(32:Int)<=(s.size:Int):=by omega
   have H:Kg (Kh (G8 s).toList)=z:=by rw[<-a.1,a.2.2.2,Nu,Zj (by have :=a.2.2.1;omega),Ky,a.2.1]
   have R:Bd t z:=.inl a.1.symm;have d:=Hq (A4 R H (by unfold G8;rw[Yh];exact tz _:(G8 s).toList.length=32) (VH s));obtain⟨D,K⟩:=nm ((G8 s).toList);rw[K]at d;have W:=Hq K;have i:Hid (qb (n.setCell ⟨b,0,none⟩ (La s))/\16<=(n.setCell ⟨b,0,none⟩ (La s)).heap.size):=by have h1:=c.Fg J P O.o;have h2:=J.low b t l.o;have h3:=O.o;exact⟨h1.ud (Zd _ _ _ _ (by show 13≠b;omega)) (Zd _ _ _ _ (by show 15≠b;omega)),by simp;omega⟩
   clear C H R K;go_wp2_with fail
   refine(Dq s _ i.1 i.2).mono ?_;rintro e w2 ⟨rfl,v⟩;rw[W.o];have j:Below n.heap.size (n.setCell ⟨b,0,none⟩ (La s)) w2:=v.mono (by simp);have o:=Hq j;clear v j i;go_wp2_with fail
   refine(DE D d.2.2.1 d.2.2.2 w2).mono ?_;rintro e V ⟨rfl,y⟩;rw[d.2.1];have h:=Hq (o.trans (y.mono (by have :=o.size;simpa using this)));have e0:V.cell? ⟨b,0,none⟩=some (La s):=(h.cell (p:=⟨b,0,none⟩) u).trans (by go_simp);have e1:V.frozen? ⟨b,0,none⟩=false:=(h.frozen (p:=⟨b,0,none⟩) u).trans (by rw[Z7];exact Y);clear y;go_wp2;go_ret;exact⟨rfl,c.trans (Fr.lv c.wa l _ h d.1)⟩
theorem fT(args:Array Value)(w:Fa):(callFunc 269 args).run oa w=.ok (.enter 269 args) w:=by kernel_rfl
theorem vM(args:Array Value)(w:Fa):(callFunc 310 args).run oa w=.ok (.enter 310 args) w:=by kernel_rfl
theorem UU(args:Array Value)(w:Fa):(callFunc 300 args).run oa w=.ok (.enter 300 args) w:=by kernel_rfl
theorem CB(n:FuncId)(v:Value)(w:Fa):(Instr.makeFunc (.func n) #[v] #[]).run oa w=.ok (.func (.func n) #[v] #[]) w:=by rfl
theorem xJ(hf:ua B S w)(hT:qb w)(hM:16<=B)(hb:S b=some (.leaf p v)):Calls oa 273 #[Qa (some ⟨b,0,none⟩)] w λe w'=>e=na (La (Kg (Nd.leaf p v).ref))/\Fr B S S w w':=by
 have d:=Hq (tB hf hT hM hb rfl _ fT (cD hf hb));obtain⟨R,f⟩:=nm (Kg (Nd.leaf p v).ref);rw[f]at d⊢;have g:=CB 269;clear hf hT hM hb f;go_enter func273,ntmps273;go_wp2_with fail
 refine d.mono ?_;rintro e h ⟨rfl,a⟩;have c:=Hq a;clear a;go_wp2;go_ret;exact⟨rfl,c.o⟩
theorem UJ(hf:ua B S w)(hT:qb w)(hM:16<=B)(hb:S b=some (.ext p t))(hR:Ru B S t):Calls oa 316 #[Qa (some ⟨b,0,none⟩)] w λe w'=>e=na (La (Kg (Nd.ext p t).ref))/\Fr B S S w w':=by
 have d:=Hq (tB hf hT hM hb rfl _ vM (NI hf hT hM hb hR));obtain⟨R,hR⟩:=nm (Kg (Nd.ext p t).ref);rw[hR]at d⊢;have f:=CB 310;clear hf hT hM hb hR;go_enter func316,ntmps316;go_wp2_with fail
 refine d.mono ?_;rintro e g ⟨rfl,a⟩;have c:=Hq a;clear a;go_wp2;go_ret;exact⟨rfl,c.o⟩
theorem GP(hf:ua B S w)(hT:qb w)(hM:16<=B)(hb:S b=some (.br ks))(hR:∀x∈ks,x≠ .no->Ru B S x):Calls oa 305 #[Qa (some ⟨b,0,none⟩)] w λe w'=>e=na (La (Kg (Nd.br ks).ref))/\Fr B S S w w':=by
 have d:=Hq (tB hf hT hM hb rfl _ UU (mG hf hT hM hb hR));obtain⟨R,hR⟩:=nm (Kg (Nd.br ks).ref);rw[hR]at d⊢;have f:=CB 300;clear hf hT hM hb hR;go_enter func305,ntmps305;go_wp2_with fail
 refine d.mono ?_;rintro e g ⟨rfl,a⟩;have c:=Hq a;clear a;go_wp2;go_ret;exact⟨rfl,c.o⟩
theorem LJ{h:List Nat}(hf:ua B S w)(hb:S b=some (.stub h)):Calls oa 267 #[Qa (some ⟨b,0,none⟩)] w λe w'=>e=na (La (Kg (Nd.stub h).ref))/\Fr B S S w w':=by
 obtain⟨g,r,a,_,f,_,_,_⟩:=(hf.node b _ hb).cell;have d:=Hq hf;obtain⟨R,c⟩:=nm (Kg (Nd.stub h).ref);unfold Bd at a;rw[c]at a⊢;obtain rfl:g=R:=by
  rcases a with h1|⟨_,h1⟩;.exact h1
  .exact absurd rfl (h1 h)
 clear hf hb c a;go_enter func267,ntmps267;go_wp2;go_ret;exact⟨rfl,Fr.refl d.o⟩
mutual
theorem uw(B:Nat)(S:Bb):∀t:Nd,t≠ .no->Ru B S t
 | .no,h=>absurd rfl h
 | .leaf p v,_=>λ_ _ hf hT hM hb=>xJ hf hT hM hb
 | .ext p t,_=>λ_ b hf hT hM hb=>by have hok:=hf.ok b _ hb;rw[Nd.ok]at hok;exact UJ hf hT hM hb (uw B S t hok.2.2)
 | .br ks,_=>λ_ _ hf hT hM hb=>GP hf hT hM hb (ZC B S ks)
 | .stub h,_=>λ_ _ hf _ _ hb=>LJ hf hb
theorem ZC(B:Nat)(S:Bb):∀ks:List Nd,∀x∈ks,x≠ .no->Ru B S x
 | [],_,h,_=>by cases h
 |t::ks,x,h,hn=>by
  rcases Yf.1 h with e|h;.exact e▸uw B S t (e▸hn)
  .exact ZC B S ks x h hn
end
def Nd.ph(t:Nd):List Nat:=if t.ref.length<32 then Ky t.ref else t.ref.drop 1
theorem wI(h:l.length=32):Kh l=160::l:=by unfold Kh K4;simp[h]
theorem JT(c:List Nat):(if(Nu c).length<32 then Ky (Nu c)else(Nu c).drop 1)=Ky c:=by
 by_cases h:c.length<32
 .have e:Nu c=c:=by unfold Nu;rw[Zo h]
  rw[e,Zo h]
 .have e:Nu c=Kh (Ky c):=by unfold Nu;rw[Zj h]
  rw[e,jt (Bh c),Zj (by omega),wI (Bh c)];rfl
theorem Nd.xi(h:t.ref=Nu t.code):t.ph=Ky t.code:=by unfold Nd.ph;rw[h];exact JT _
theorem dC(c:List Nat)(h:¬(Nu c).length<32):(Nu c).length=33:=by
 unfold Nu at h⊢;by_cases a:c.length<32;.rw[Zo a]at h;omega
 .rw[Zj a,jt (Bh c)]
theorem Nd.Fm(t:Nd)(ho:t.ok)(h:¬t.ref.length<32):t.ref.length=33:=by
 cases t with
 |no=>exact absurd (by show(Kh []).length<32;have :=Ij [];simp at this;omega) h
 |stub g=>rw[Nd.ok]at ho;exact jt ho.1
 |leaf _ _=>exact dC _ h
 |ext _ _=>exact dC _ h
 |br _=>exact dC _ h
theorem Nd.xg(t:Nd)(ho:t.ok):t.ph.length=32:=by
 unfold Nd.ph;split;.exact Bh _
 .rename_i h
  rw[Yi,t.Fm ho h]
theorem iK(w:Fa)(b o:Nat)(cs:List Value)(k:Nat)(h:k≠b):(World.setCells w b o cs).heap[k]? =w.heap[k]? :=Qf _ _ _ _ _ h
theorem Fr.setCells{B:Nat}{S S':Bb}{w w1:Fa}(h:Fr B S S' w w1)(b o:Nat)(cs:List Value)(hb:w.heap.size<=b)(hn:S' b=none):Fr B S S' w (World.setCells w1 b o cs):=by
 refine h.grow (o:=some b) ⟨?_,?_,?_,Jq (Og b cs o w1).1.symm,λk a c=>iK _ _ _ _ _ λe=>c (by rw[e])⟩ λk a=>by cases a;exact⟨hb,hn⟩
 .exact(Og b cs o w1).2.1
 .exact(Og b cs o w1).2.2.1
 .exact(Og b cs o w1).2.2.2
theorem oD(a:Addr)(cap:Nat)(w:Fa):(Instr.arrayAt 39 (Ma (some a) 32 cap)).run oa w=.ok (Qa (some a)) w:=by simp[Instr.arrayAt,run_underlying underlying39,go_sem]
theorem tG(w:Fa)(s:Da):(Lib.bytesWorld w 5 s).rangeAt w.heap.size 0 ((Ke s).map Kf):=λj v hv=>by
 rw[Zf];have hj:j<s.size:=by have :=(Zw.1 hv).1;simpa[Ke]using this
 rw[Lib.bytesWorld_cell w 5 s j hj,<-hv];simp[Ke,Kf,List.getD,hj]
theorem UD{c:Nat}(hf:ua B S w)(hT:qb w)(hM:16<=B)(hc:S c=some t)(hne:t≠ .no):Calls oa 160 #[ca (K9 t) (Qa (some ⟨c,0,none⟩))] w λe w'=>e=na (Sa (t.ph.map Kf).toArray)/\Fr B S S w w':=by
 have r:=hf.ok c t hc;have hm:=Cr t hne;have ag:=OC t hne;have u:=Hq hf;have HT:=Hq hT;have V:=Hq hM;obtain⟨R,y⟩:=nm (Kg t.ref);have C:R.size=t.ref.length:=by rw[<-y,me]
 have HR:Hid (∀W,ua B S W->qb W->Calls oa (Ew t) #[Qa (some ⟨c,0,none⟩)] W λe w'=>e=na (La R)/\Fr B S S W w'):=λW h1 h2=>by have :=uw B S t hne W c h1 h2 hM hc;rw[y]at this;exact this
 obtain⟨D,X⟩:∃D:Array Nat,t.ph.toArray=D:=⟨_,rfl⟩;have n:t.ph=D.toList:=by rw[<-X]
 have L:D.size=32:=by rw[<-X];simpa using t.xg r
 rw[n];have N:Ke R=t.ref:=by rw[<-y,qg (t.uh r)]
 have x:Hid (D.size=32/\(t.ref.length<32->(G8 R).toList=D.toList)/\(¬t.ref.length<32->R.size=33/\Ke (R.extract 1 R.size)=D.toList)):=by
  refine⟨L,λh=>?_,λh=>⟨by rw[C,t.Fm r h],?_⟩⟩;.rw[<-n,Nd.ph,Zo h,Ky,y]
  .rw[ym,N,<-n,Nd.ph,Zj h]
 have K:=Hq C;clear r hf hT hM hc y C X n L N;go_enter func160,ntmps160;go_wp2_with fail
 generalize hw0:(w.alloc (ma _ 39))=w0;have g:Ba w w0:=by rw[<-hw0];exact(Zb _ _).alloc (Za _) _
 have Q:w0.there w.heap.size 0 32:=by rw[<-hw0];exact Le _ _ _ _ rfl
 have I:w.heap.size<w0.heap.size:=by rw[<-hw0];simp
 have E:=HT.below g (by have :=V.o;have :=u.le;omega);clear hw0;refine(HR w0 (u.below g) E).mono ?_;rintro e d ⟨rfl,i⟩;have H:=u.fresh (Za _);have T:=ve Q (i.other _ I H);have O:=Zm I i.size;have a:=Hq (A4 ((Fr.xa u g).trans i) T (i.Fg (u.below g) E V.o) H);clear i hm ag E g Q I H T;by_cases q:t.ref.length<32
 .have hi:(R.size:Int)<32:=by have :=K.o;omega
  have Z:=Hq (x.2.1 q);clear q;go_wp2_with fail
  refine(Dq R d a.2.2.1 (by have :=V.o;have :=u.le;omega)).mono ?_;rintro e w2 ⟨rfl,F⟩;rw[Z.o];obtain⟨s,J,m,b⟩:=qm x.1 (ve a.2.1 (F.block _ O));have j:=Yp (Bi D .u8);have f:=Hq (A2 (a.1.behind F) b);clear F b;go_wp2_with (refine Zs rfl 39 _ _ rfl w.heap.size 0 (D.toList.map Kf).toArray rfl rfl m J j ?_)
  refine Zv (v:=Sa (D.toList.map Kf).toArray) (si results160 _ _ _ w.heap.size 0 rfl (Yg _ _ _ 39 _ _ (Zn _ _ _ _ f.2) underlying39 rfl s)) rfl ⟨rfl,?_⟩;exact f.1.setCells _ _ _ (Za _) a.2.2.2
 .have hi:(32:Int)<=(R.size:Int):=by have :=K.o;omega
  obtain⟨ae,o⟩:=x.2.2 q;have ah:(1:Int)<=(R.size:Int):=by omega
  obtain⟨z,hz⟩:=nm (R.extract 1 R.size);rw[hz]at o;have U:z.size=32:=by rw[<-ta,o];simpa using x.1
  have Y:=Lib.run_convert_string_bytes (P:=oa) d 9 116 5 z underlying9 underlying116 underlying5;rw[U]at Y;obtain⟨ac,G⟩:=nm (grownCap d 32 0 5);rw[G]at Y;have qa:=λW=>oD ⟨d.heap.size,0,none⟩ ac W;have l:=tG d z;rw[o]at l;have p:Ba d (Lib.bytesWorld d 5 z):=⟨rfl,rfl,rfl,by rw[Lib.bytesWorld_size];omega,λk hk=>Lib.bytesWorld_at_old d 5 z k hk⟩;generalize Lib.bytesWorld d 5 z=w2 at Y l p;obtain⟨s,J,m,b⟩:=qm x.1 (ve a.2.1 (p.block _ O));have j:=Yp (Bi D .u8);have f:=Hq (A2 (a.1.behind p) b);clear q o G p b U ae;go_wp2_with (first| (refine Zr rfl 39 _ rfl d.heap.size 0 rfl (D.toList.map Kf) _ l underlying39 rfl s ?_)| (refine Zs rfl 39 _ _ rfl w.heap.size 0 (D.toList.map Kf).toArray rfl rfl m J j ?_))
  refine Zv (v:=Sa (D.toList.map Kf).toArray) (si results160 _ _ _ w.heap.size 0 rfl (Yg _ _ _ 39 _ _ (Zn _ _ _ _ f.2) underlying39 rfl s)) rfl ⟨rfl,?_⟩;exact f.1.setCells _ _ _ (Za _) a.2.2.2
def Ib(S:Bb)(w:Fa)(b:Nat)(t:Nd):Prop:=S b=none/\∃v,od S v t/\w.heap[b]? =some (ma #[v] 100 (0,0))
theorem Ib.lt(h:Ib S w b t):b<w.heap.size:=by obtain⟨_,v,_,h⟩:=h;exact(Zg.1 h).1
theorem Ib.cell{S:Bb}{w:Fa}{b:Nat}{t:Nd}(h:Ib S w b t):∃v,od S v t/\w.cell? ⟨b,0,none⟩=some v/\w.frozen? ⟨b,0,none⟩=false:=by obtain⟨_,v,a,h⟩:=h;exact⟨v,a,by simp[World.cell?,h],by simp[World.frozen?,h]⟩
theorem Ib.frame(h:Ib S w b t)(hf:Fr B S S' w w'):Ib S' w' b t:=by have c:=h.lt;obtain⟨a,v,d,h⟩:=h;exact⟨hf.new b c a,v,d.sub hf.sub,(hf.other b c a).trans h⟩
theorem XB(w:Fa):Calls oa 140 #[] w λe w'=>e=na (La (Kg (Kh [])))/\Ba w w':=by
 obtain⟨C,b⟩:=nm (Kh []);have d:=Hq b;rw[b];clear b;go_enter func140,ntmps140;go_wp2_with fail
 refine(pq (B:=w.heap.size) (l:=[]) ⟨#[]⟩ w (Own.nil _ _) (Za _) (by show 0<=_;omega) (by simp)).mono ?_;rintro e f ⟨j,rfl,a⟩;rw[Xi,show Ke ⟨#[]⟩=[]from rfl,d.o]at a;obtain⟨h,g,rfl⟩:=a.own.ye;have c:=Hq (Mv (Zb _ _) (Own.nil _ _) a);have i:=nj (P:=oa) f 116 9 5 underlying116 underlying5 underlying9 a.own;clear a;go_wp2;go_ret;exact⟨rfl,c.o⟩
theorem Nd.zh:Nd.ph .no=Ky (Kh []):=by unfold Nd.ph;exact Zo (by show(Kh []).length<32;have :=Ij [];simp at this;omega)
theorem cM(hf:ua B S w)(hT:qb w)(hM:16<=B)(ht:Ib S w b t):Calls oa 108 #[Qa (some ⟨b,0,none⟩)] w λe w'=>e=na (Sa (t.ph.map Kf).toArray)/\Fr B S S w w':=by
 have L:=ht.lt;obtain⟨v,I,N,-⟩:=ht.cell;have j:=Hq hf;have K:=Hq hT;have F:=Hq hM;have C:t.ph.length=32:=by
  rcases I with⟨rfl,_⟩|⟨_,c,_,hc⟩;.rw[Nd.zh];exact Bh _
  .exact t.xg (hf.ok c t hc)
 obtain⟨D,G⟩:∃D:Array Nat,t.ph.toArray=D:=⟨_,rfl⟩;have n:t.ph=D.toList:=by rw[<-G]
 have u:=Hq (A2 (by rw[<-G];simpa using C:D.size=32) n);rw[n];have E:∀w0,Ba w w0->qb w0:=λw0 a=>K.below a (by have :=F.o;have :=j.le;omega);have x:=Hq E;clear hf hT hM ht G n C E;rcases I with⟨rfl,rfl⟩|⟨hne,c,rfl,hc⟩
 .go_enter func108,ntmps108;go_wp2_with fail
  generalize hw0:(w.alloc (ma _ 39))=w0;have a:Ba w w0:=by rw[<-hw0];exact(Zb _ _).alloc (Za _) _
  have i:w0.there w.heap.size 0 32:=by rw[<-hw0];exact Le _ _ _ _ rfl
  have g:w.heap.size<w0.heap.size:=by rw[<-hw0];simp
  clear hw0;refine(XB w0).mono ?_;rintro e H ⟨rfl,m⟩;have y:=Below.behind a m;have h:=Hq (A3 y (ve i (m.block _ g)) (Zm g m.size));clear a i g m y;go_wp2_with fail
  refine(Dq (Kg (Kh [])) H (x H h.1) (by have :=F.o;have :=j.le;have :=h.2.2;omega)).mono ?_;rintro e O ⟨rfl,o⟩;have z:(G8 (Kg (Kh []))).toList=D.toList:=by rw[<-u.2,Nd.zh];rfl
  rw[z];obtain⟨r,s,l,d⟩:=qm u.1 (ve h.2.1 (o.block _ h.2.2));have k:=Yp (Bi D .u8);have f:=Hq (A2 (Below.behind h.1 o) d);clear o d z;go_wp2_with (refine Zs rfl 39 _ _ rfl w.heap.size 0 (D.toList.map Kf).toArray rfl rfl l s k ?_)
  refine Zv (v:=Sa (D.toList.map Kf).toArray) (si results108 _ _ _ w.heap.size 0 rfl (Yg _ _ _ 39 _ _ (Zn _ _ _ _ f.2) underlying39 rfl r)) rfl ⟨rfl,?_⟩;exact(Fr.xa j f.1).setCells _ _ _ (Za _) (j.fresh (Za _))
 .have J:=Hq hc;clear hc;go_enter func108,ntmps108;go_wp2_with fail
  generalize hw0:(w.alloc (ma _ 39))=w0;have a:Ba w w0:=by rw[<-hw0];exact(Zb _ _).alloc (Za _) _
  have i:w0.there w.heap.size 0 32:=by rw[<-hw0];exact Le _ _ _ _ rfl
  have g:w.heap.size<w0.heap.size:=by rw[<-hw0];simp
  clear hw0;refine(UD (j.below a) (x w0 a) F J hne).mono ?_;rintro e H ⟨rfl,p⟩;rw[u.2];have q:=j.fresh (Za _);obtain⟨r,s,l,d⟩:=qm u.1 (ve i (p.other _ g q));have k:=Yp (Bi D .u8);have f:=Hq (A3 ((Fr.xa j a).trans p) d q);clear p d a i g q;go_wp2_with (refine Zs rfl 39 _ _ rfl w.heap.size 0 (D.toList.map Kf).toArray rfl rfl l s k ?_)
  refine Zv (v:=Sa (D.toList.map Kf).toArray) (si results108 _ _ _ w.heap.size 0 rfl (Yg _ _ _ 39 _ _ (Zn _ _ _ _ f.2.1) underlying39 rfl r)) rfl ⟨rfl,?_⟩;exact f.1.setCells _ _ _ (Za _) f.2.2
theorem yQ(hf:ua B S w)(hT:qb w)(hM:16<=B)(ht:Ib S w b t):Calls oa 56 #[Qa (some ⟨b,0,none⟩)] w λe w'=>e=na (Sa (t.ph.map Kf).toArray)/\Fr B S S w w':=by
 have k:t.ph.length=32:=by
  obtain⟨v,y,_⟩:=ht.cell;rcases y with⟨rfl,_⟩|⟨_,c,_,hc⟩;.rw[Nd.zh];exact Bh _
  .exact t.xg (hf.ok c t hc)
 obtain⟨D,n⟩:∃D:Array Nat,t.ph.toArray=D:=⟨_,rfl⟩;have f:t.ph=D.toList:=by rw[<-n]
 have j:D.size=32:=by rw[<-n];simpa using k
 have x:=Hq j;have u:Hid (∀w0,Ba w w0->Calls oa 108 #[Qa (some ⟨b,0,none⟩)] w0 λe w'=>e=na (Sa (D.toList.map Kf).toArray)/\Fr B S S w0 w'):=λw0 a=>by rw[<-f];exact cM (hf.below a) (hT.below a (by have :=hf.le;omega)) hM (ht.frame (Fr.xa hf a))
 rw[f];have q:=Hq hf;have z:=ht.lt;clear hf hT hM ht n f k j;go_enter func56,ntmps56;go_wp2_with fail
 generalize hw0:(w.alloc (ma _ 39))=w0;have a:Ba w w0:=by rw[<-hw0];exact(Zb _ _).alloc (Za _) _
 have m:w0.there w.heap.size 0 32:=by rw[<-hw0];exact Le _ _ _ _ rfl
 have l:w.heap.size<w0.heap.size:=by rw[<-hw0];simp
 clear hw0;refine(u w0 a).mono ?_;rintro e C ⟨rfl,g⟩;have h:=q.fresh (Za _);obtain⟨r,s,p,i⟩:=qm x (ve m (g.other _ l h));have o:=Yp (Bi D .u8);have d:=Hq (A3 ((Fr.xa q a).trans g) i h);clear g i a m l h;go_wp2_with (refine Zs rfl 39 _ _ rfl w.heap.size 0 (D.toList.map Kf).toArray rfl rfl p s o ?_)
 refine Zv (v:=Sa (D.toList.map Kf).toArray) (si results56 _ _ _ w.heap.size 0 rfl (Yg _ _ _ 39 _ _ (Zn _ _ _ _ d.2.1) underlying39 rfl r)) rfl ⟨rfl,?_⟩;exact d.1.setCells _ _ _ (Za _) d.2.2
end Go.Proofs.YtpfbdlnibdfcoaaGreatDoor
