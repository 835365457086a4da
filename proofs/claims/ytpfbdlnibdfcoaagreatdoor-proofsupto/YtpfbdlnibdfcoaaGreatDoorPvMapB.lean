import Derived.Test.YtpfbdlnibdfcoaaGreatDoorPvMapA
import Derived.Test.YtpfbdlnibdfcoaaGreatDoorPvRefG
import Derived.Test.YtpfbdlnibdfcoaaGreatDoorPvRdgG
import Derived.Test.YtpfbdlnibdfcoaaGreatDoorPvQuie
namespace Go.Proofs.YtpfbdlnibdfcoaaGreatDoor
open Go.RowKit Tryz
open Value renaming int->Ia,string->La,slice->Ma,bool->Oa,pointer->Qa,agg->Sa,tuple->Wa,iface->ca,nilIface->da
open IntKind renaming i64->ka
open Obj renaming cells->ma
open Ending renaming returned->na
open Tryz renaming prog->oa
set_option maxRecDepth 100000
set_option maxHeartbeats 0
structure nd(f:Nat)(x:Ed):Prop where
 lt:x.path.size<f
 le:x.path.size<=64
 qd:∀b∈Ke x.path,b<16
 val:x.val.size<=100
 plain:x.stub=false
theorem nd.cut{f:Nat}{x:Ed}{p:Da}(h:nd (f+1) x)(hb:K7 p x.path)(hp:0<p.size):nd f (x.cut p):=by have a:=np hb;have b:=h.lt;have c:=h.le;have d:(x.cut p).path.size=x.path.size-p.size:=Cf _ _;exact⟨by omega,by omega,zp h.qd _,h.val,h.plain⟩
variable{f:Nat}{l:List Ed}
theorem Iv{p:Da}(h:∀y∈l,nd (f+1) y)(hp:0<p.size):∀y∈K8 l p,nd f y:=λy hy=>by obtain⟨x,hx,rfl⟩:=Xd.1 hy;obtain⟨h1,h2⟩:=Xu.1 hx;exact(h x h1).cut (Jx h2) hp
def K5:Nat->List Ed->List Nat
 |0,_=>[]
 |_+1,[]=>[]
 |f+1,x::l=>
  if l.length=0 then Ks (Kh (Kj (Ke x.path) true)++Kh (Ke x.val))
  else if 0<Gl x l then Ks (Kh (Kj (Ke (x.path.extract 0 (Gl x l))) false)++Nu (K5 f (K8 (x::l) (x.path.extract 0 (Gl x l)))))
  else Ks (((List.range 16).map λv=>if(K8 (x::l) (Kg [v])).length=0 then Kh []else Nu (K5 f (K8 (x::l) (Kg [v])))).flatten++Kh [])
theorem yr(v:Nat):(Kg [v]).size=1:=me _
theorem Wv:∀(f:Nat) (l:List Ed),(∀y∈l,nd f y)->∀b∈K5 f l,b<256
 |0,_,_=>λb hb=>by rw[K5]at hb;cases hb
 |_+1,[],_=>λb hb=>by rw[K5]at hb;cases hb
 |f+1,x::l,h=>λb hb=>by
  have hx:=h x (Yj ..);rw[K5]at hb;split at hb
  .refine vr (λy hy=>?_) b hb;rcases Yc.1 hy with hy|hy;.exact Li (cp _ hx.qd) y hy
   .exact Li (sh _) y hy
  .split at hb
   .rename_i h1 h2
    refine vr (λy hy=>?_) b hb;rcases Yc.1 hy with hy|hy;.exact Li (cp _ (VB hx.qd _)) y hy
    .exact Ll (Wv f _ (Iv h (by rw[uo _ _ (tr x l)];exact h2))) y hy
   .refine vr (λy hy=>?_) b hb;rcases Yc.1 hy with hy|hy
    .obtain⟨c,hc,hy⟩:=List.mem_flatten.1 hy;obtain⟨v,_,rfl⟩:=Xd.1 hc;split at hy;.exact Li (λ_ h=>by cases h) y hy
     .exact Ll (Wv f _ (Iv h (by rw[yr];omega))) y hy
    .exact Li (λ_ h=>by cases h) y hy
variable{x:Ed}
theorem RU(n:Nat)(hn:n<=x.path.size):x.cut (x.path.extract 0 n)∈K8 (x::l) (x.path.extract 0 n):=by refine V7 (Xu.2 ⟨Yj ..,Z5 ?_⟩);exact QC (by rw[uo _ _ hn])
def T9(f:Nat):Prop:=∀(w:Fa) (C:Nat) (v:Value) (l:List Ed),Od w C v l->l.length<=2097152->0<l.length->(∀y∈l,nd f y)->Calls oa 110 #[v] w λe w'=>e=na (La (Kg (K5 f l)))/\Ba w w'
def Ta(f:Nat):Prop:=∀(w:Fa) (C:Nat) (v:Value) (l:List Ed),Od w C v l->l.length<=2097152->0<l.length->(∀y∈l,nd f y)->(K5 f l).length<=2048->Calls oa 161 #[v] w λe w'=>e=na (La (Kg (Nu (K5 f l))))/\Ba w w'
theorem SC(x:Ed)(l:List Ed):((Al x l:Nat):Int)≠4:=by
 unfold Al;split;.decide
 .split<;>decide
theorem qK(hN:T9 f):Ta f:=by
 intro w C v l h H G d i;obtain⟨x,m,rfl⟩:∃x m,l=x::m:=by cases l with |nil=>simp at G|cons x m=>exact⟨x,m,rfl⟩
 have F:=Hq (Qr h (by simp at H;omega) (λy P=>(d y P).le) (d x (Yj ..)).plain);have E:Hid (∀W,Ba w W->Calls oa 110 #[v] W λe j=>e=na (La (Kg (K5 f (x::m))))/\Ba W j):=λW O=>hN W C v (x::m) (h.below O) H G d;have n:=Wv f _ d;obtain⟨kn,p⟩:∃kn:Int,((Al x m:Nat):Int)=kn:=⟨_,rfl⟩;have T:(kn==4)=false:=by rw[<-p,Xe];exact SC x m
 rw[p]at F;obtain⟨X,V,U,rfl⟩:=h.shape;generalize K5 f (x::m)=c at E n i⊢;clear h H G d p;have B:=me c;by_cases k:c.length<32
 .have Q:((Kg c).size:Int)<32:=by omega
  have o:Nu c=c:=by unfold Nu;rw[Zo k]
  rw[o];clear o k B n i;go_enter func161,ntmps161;go_wp2_with fail
  refine F.mono ?_;rintro e I ⟨rfl,a⟩;have g:=Hq a;clear a;go_wp2_with fail
  refine(E I g.o).mono ?_;rintro e M ⟨rfl,b⟩;have q:=Hq (g.trans (b.mono g.size));clear b;go_wp2;go_ret;exact⟨rfl,q.o⟩
 .have Q:¬((Kg c).size:Int)<32:=by omega
  have o:Nu c=Kh (Ky c):=by unfold Nu;rw[Zj k]
  rw[o];have L:Hid (∀W,Calls oa 24 #[La (Kg c)] W λe j=>e=na (Sa ((Ky c).map Kf).toArray)/\Ba W j):=λW=>Dr (Kg c) W (by omega);have r:Hid (∀W,Calls oa 90 #[Sa ((Ky c).map Kf).toArray] W λe j=>e=na (La (Kg (Ky c)))/\Ba W j):=λW=>qL (Ky c) (Bh c) W;have s:Hid (∀W,Calls oa 88 #[La (Kg (Ky c))] W λe j=>e=na (La (Kg (Kh (Ky c))))/\Ba W j):=λW=>by have h:=Sr (Kg (Ky c)) W (by rw[me,Bh];omega);rw[qg (Lk c)]at h;exact h
  generalize Ky c=D at L r s⊢;clear o k B n i;go_enter func161,ntmps161;go_wp2_with fail
  refine F.mono ?_;rintro e I ⟨rfl,a⟩;have g:=Hq a;clear a;go_wp2_with fail
  refine(E I g.o).mono ?_;rintro e M ⟨rfl,b⟩;have q:=Hq (g.trans (b.mono g.size));clear b;go_wp2_with fail
  refine(L M).mono ?_;rintro e R ⟨rfl,t⟩;have J:=Hq (q.trans (t.mono q.size));clear t;go_wp2_with fail
  refine(r R).mono ?_;rintro e S ⟨rfl,u⟩;have K:=Hq (J.trans (u.mono J.size));clear u;go_wp2_with fail
  refine(s S).mono ?_;rintro e Y ⟨rfl,z⟩;have N:=Hq (K.trans (z.mono K.size));clear z;go_wp2;go_ret;exact⟨rfl,N.o⟩
theorem ly(f:Nat)(l:List Ed)(hok:∀y∈l,nd f y):(K5 f l).length<=2048:=by
 cases f with
 |zero=>rw[K5];simp
 |succ f=>
  cases l with
  |nil=>rw[K5];simp
  |cons x l=>
   have g:=hok x (Yj ..);have o:=g.le;have u:=g.val;have m:=ta x.path;have n:=ta x.val;rw[K5];split;.have a:=KB (Kh (Kj (Ke x.path) true)++Kh (Ke x.val));have b:=Ij (Kj (Ke x.path) true);have e:=Fo (Ke x.path) true;have i:=Ij (Ke x.val);rw[Zq]at a;omega
   .split;.have a:=KB (Kh (Kj (Ke (x.path.extract 0 (Gl x l))) false)++Nu (K5 f (K8 (x::l) (x.path.extract 0 (Gl x l)))));have b:=Ij (Kj (Ke (x.path.extract 0 (Gl x l))) false);have e:=Fo (Ke (x.path.extract 0 (Gl x l))) false;have i:=Lr (K5 f (K8 (x::l) (x.path.extract 0 (Gl x l))));have r:=ta (x.path.extract 0 (Gl x l));have s:=uo x.path _ (tr x l);have t:=tr x l;rw[Zq]at a;omega
    .have a:=KB (((List.range 16).map λv=>if(K8 (x::l) (Kg [v])).length=0 then Kh []else Nu (K5 f (K8 (x::l) (Kg [v])))).flatten++Kh []);have b:=Ij [];have e:(((List.range 16).map λv=>if(K8 (x::l) (Kg [v])).length=0 then Kh []else Nu (K5 f (K8 (x::l) (Kg [v])))).flatten).length<=16*33:=by
      have :∀(ls:List (List Nat)),(∀c∈ls,c.length<=33)->ls.flatten.length<=ls.length*33:=λls=>by
       induction ls with
       |nil=>intro _;simp
       |cons c ls ih=>intro h;have p:=h c (Yj ..);have q:=ih λd k=>h d (Yy _ k);rw[List.flatten_cons,Zq,Zu];omega
      have :=this ((List.range 16).map λv=>if(K8 (x::l) (Kg [v])).length=0 then Kh []else Nu (K5 f (K8 (x::l) (Kg [v])))) (λc j=>by
       obtain⟨v,_,rfl⟩:=Xd.1 j;split;.have :=Ij [];simp at this;omega
       .exact Lr _)
      simpa using this
     rw[Zq]at a;simp only[Yq]at b;omega
variable{w:Fa}{C:Nat}{v:Value}
theorem gQ(f:Nat)(h:Od w C v [x])(hx:nd (f+1) x):Calls oa 110 #[v] w λe w'=>e=na (La (Kg (K5 (f+1) [x])))/\Ba w w':=by
 have q:=Qr h (by simp) (λy m=>by rw[Y8.1 m];exact hx.le) hx.plain;rw[show((Al x []:Nat):Int)=1 by simp[Al]]at q;have F:=Hq q;clear q;obtain⟨g,U,rfl,M,r,p⟩:=Od.row h (i:=0) (by simp);rw[Jr,Vl]at p;have z:=p 0 _ rfl;have B:=p 1 _ rfl;have N:=hx.le;have O:=hx.val;have K:=ta x.path;have L:=ta x.val;have l:=cp true hx.qd;have D:=Fo (Ke x.path) true;have S:=Ij (Kj (Ke x.path) true);have T:=Ij (Ke x.val);have n:Hid (∀W,Calls oa 83 #[La x.path,Oa true] W λe w'=>e=na (La (Kg (Kj (Ke x.path) true)))/\Ba W w'):=λW=>pC x.path true W (by omega) hx.qd;have j:Hid (∀W,Calls oa 88 #[La (Kg (Kj (Ke x.path) true))] W λe w'=>e=na (La (Kg (Kh (Kj (Ke x.path) true))))/\Ba W w'):=λW=>by have h:=Sr (Kg (Kj (Ke x.path) true)) W (by rw[me];omega);rw[qg l]at h;exact h
 have o:Hid (∀W,Calls oa 88 #[La x.val] W λe w'=>e=na (La (Kg (Kh (Ke x.val))))/\Ba W w'):=λW=>Sr x.val W (by omega);have d:Hid (∀W,Calls oa 87 #[La (Kg (Kh (Kj (Ke x.path) true)++Kh (Ke x.val)))] W λe w'=>e=na (La (Kg (Ks (Kh (Kj (Ke x.path) true)++Kh (Ke x.val)))))/\Ba W w'):=λW=>by
  have h:=xB (Kg (Kh (Kj (Ke x.path) true)++Kh (Ke x.val))) W (by rw[me,Zq];omega);rw[qg (λy m=>by
   rcases Yc.1 m with m|m;.exact Li l y m
   .exact Li (sh _) y m)]at h
  exact h
 have c:=λW=>wi (Kh (Kj (Ke x.path) true)) (Kh (Ke x.val)) (by omega) W;have H:K5 (f+1) [x]=Ks (Kh (Kj (Ke x.path) true)++Kh (Ke x.val)):=by rw[K5];simp
 rw[H];clear H;clear N O K L l D S T p;generalize Kh (Kj (Ke x.path) true)=tp at j d c⊢;generalize Kh (Ke x.val)=tv at o d c⊢;generalize Kj (Ke x.path) true=pc at n j;generalize Ks (tp++tv)=cc at d⊢;generalize Kg (tp++tv)=sb at d c;generalize Kg tp=Mk at j c;generalize Kg tv=stv at o c;generalize Kg pc=spc at n j;generalize Kg cc=scc at d⊢;generalize x.path=px at n z;generalize x.val=vx at o B;clear h hx M;have u:[x].length=1:=rfl;rw[u]at F⊢;go_enter func110,ntmps110;go_wp2_with fail
 refine F.mono ?_;rintro e s ⟨rfl,k⟩;have Q:=(Zc (a:=⟨g,0,none⟩) (k.block g r)).trans z;have R:=(Zc (a:=⟨g,1,none⟩) (k.block g r)).trans B;have E:=Hq k;have t:=Zm r k.size;clear k z B u;have G:Hid (∀w',Ba s w'->w'.cell? ⟨g,0,none⟩=some (La px)/\w'.cell? ⟨g,1,none⟩=some (La vx)):=λw' J=>⟨(Zc (J.block g t)).trans Q,(Zc (J.block g t)).trans R⟩;go_upto_region 3 with fail
 refine ml (C:=λW=>Ba s W) (by kernel_rfl) (by kernel_rfl) (Zb _ _).drew ?_;iterate 3 (go_big_quiet_step (exact λ_=>rfl))
 go_big_quiet_step ((intro b;rw[(G.o _ b).1];exact⟨rfl,rfl⟩))
 go_big_quiet_step (exact λb=>(n _).Cb b)
 go_big_quiet_step (exact λb=>(j _).Cb b)
 iterate 3 (go_big_quiet_step (exact λ_=>rfl))
 go_big_quiet_step ((intro b;rw[(G.o _ b).2];exact⟨rfl,rfl⟩))
 go_big_quiet_step (exact λb=>(o _).Cb b)
 go_big_quiet_step (exact λ_=>rfl)
 go_big_quiet_step (exact λb=>(d _).Cb b)
 go_big_quiet_step (exact λ_=>rfl)
 refine X4 λW I=>?_;have P:=Hq I;clear I;go_wp2;go_ret;exact⟨by kernel_rfl,E.trans (P.mono E.size)⟩
theorem AP(n:Nat)(hn:n<=x.path.size):0<(K8 (x::l) (x.path.extract 0 n)).length:=List.length_pos_of_mem (RU n hn)
theorem iJ(hR:Ta f)(h:Od w C v (x::l))(hl:(x::l).length<=2097152)(hok:∀y∈x::l,nd (f+1) y)(h1:¬l.length=0)(h2:0<Gl x l):Calls oa 110 #[v] w λe w'=>e=na (La (Kg (K5 (f+1) (x::l))))/\Ba w w':=by
 have P:=hok x (Yj ..);have u:∀y∈x::l,y.path.size<=64:=λy p=>(hok y p).le;have I:l.length<=2097152:=by simp at hl;omega
 have G:=Qr h I u P.plain;rw[show((Al x l:Nat):Int)=2 by unfold Al;rw[Zj h1,Zo h2];rfl]at G;have HK:=Hq G;have E:Hid (∀W,Ba w W->Calls oa 112 #[v] W λe w'=>e=na (Ia ka ((Gl x l:Nat):Int))/\Ba W w'):=λW hW=>nA (h.below hW) I u;have z:=tr x l;have e0:K5 (f+1) (x::l)=Ks (Kh (Kj (Ke (x.path.extract 0 (Gl x l))) false)++Nu (K5 f (K8 (x::l) (x.path.extract 0 (Gl x l))))):=by rw[K5,Zj h1,Zo h2]
 rw[e0];obtain⟨n,hn⟩:=nm (Gl x l);rw[hn]at E z h2⊢;obtain⟨q,O⟩:=nm (x.path.extract 0 n);have ao:q.size=n:=by rw[<-O];exact uo _ _ z
 have J:∀b∈Ke q,b<16:=by rw[<-O];exact VB P.qd n
 have H:=AP (l:=l) n z;rw[O]at H⊢;have d:∀y∈K8 (x::l) q,nd f y:=Iv hok (by omega);have ah:=P.le;have R:Hid (∀W,Ba w W->Calls oa 106 #[v,La q] W λe w'=>Ba W w'/\∃s,e=na s/\Od w' W.heap.size s (K8 (x::l) q)):=λW hW=>Fv (h.below hW) hl u;have D:Hid (∀W C' s,Od W C' s (K8 (x::l) q)->Calls oa 161 #[s] W λe w'=>e=na (La (Kg (Nu (K5 f (K8 (x::l) q)))))/\Ba W w'):=λW C' s hE=>hR W C' s _ hE (by have :=nu (x::l) q;omega) H d (ly f _ d);have M:=Ll (Wv f _ d);have ae:=Lr (K5 f (K8 (x::l) q));obtain⟨r,ac⟩:=nm (Nu (K5 f (K8 (x::l) q)));rw[ac]at D M ae⊢;have o:=cp false J;have ag:=Fo (Ke q) false;have aj:=ta q;have aq:=Ij (Kj (Ke q) false);have B:Hid (∀W,Calls oa 83 #[La q,Oa false] W λe w'=>e=na (La (Kg (Kj (Ke q) false)))/\Ba W w'):=λW=>pC q false W (by omega) J;have k:Hid (∀W,Calls oa 88 #[La (Kg (Kj (Ke q) false))] W λe w'=>e=na (La (Kg (Kh (Kj (Ke q) false))))/\Ba W w'):=λW=>by have h:=Sr (Kg (Kj (Ke q) false)) W (by rw[me];omega);rw[qg o]at h;exact h
 have j:Hid (∀W,Calls oa 87 #[La (Kg (Kh (Kj (Ke q) false)++r))] W λe w'=>e=na (La (Kg (Ks (Kh (Kj (Ke q) false)++r))))/\Ba W w'):=λW=>by
  have h:=xB (Kg (Kh (Kj (Ke q) false)++r)) W (by rw[me,Zq];omega);rw[qg (λy p=>by
   rcases Yc.1 p with p|p;.exact Li o y p
   .exact M y p)]at h
  exact h
 have c:=λW=>wi (Kh (Kj (Ke q) false)) r (by omega) W;obtain⟨g,ar,rfl,al,Z,K⟩:=Od.row h (i:=0) (by simp);rw[Jr,Vl]at K;have c0:=K 0 _ rfl;obtain⟨L,hL⟩:=nm ((x::l).length);have i0:(0:Int)<(L:Int):=by rw[<-hL,Zu];omega
 have au:0<L:=by omega
 rw[hL]at HK E R⊢;have am:(n:Int)<=(x.path.size:Int):=by omega
 clear K G u I P ao J o ag aj aq M ae ac H d e0 hn al ah h2 h1 hL;generalize Kh (Kj (Ke q) false)=tp at k j c⊢;generalize Kj (Ke q) false=pc at B k;generalize Ks (tp++r)=cc at j⊢;generalize Kg (tp++r)=sb at j c;generalize Kg tp=Mk at k c;generalize Kg r=srf at D c;generalize Kg pc=spc at B k;generalize Kg cc=scc at j⊢;generalize x.path=px at O c0 am z;go_enter func110,ntmps110;go_wp2_with fail
 refine HK.mono ?_;rintro e Q ⟨rfl,t⟩;have d0:=(Zc (a:=⟨g,0,none⟩) (t.block g Z)).trans c0;have m:=Hq t;have ak:=Zm Z t.size;clear t c0;have HO:Hid (∀w',Ba Q w'->w'.cell? ⟨g,0,none⟩=some (La px)):=λw' hb=>(Zc (hb.block g ak)).trans d0;go_upto_region 5 with fail
 go_region_held3 (λw'=>w'.cell? ⟨g,0,none⟩=some (La px)) (first|exact d0|exact q1) (first| (go_at_call 112;refine(E _ (m.drew)).mono ?_;rintro e w2 ⟨rfl,S⟩;have N:Hid (Ba Q w2):=((Zb _ _).drew).trans S;have q1:=HO w2 N.o;clear S))
 clear d0 q1;go_wp2_with fail
 refine(R w2 (m.trans (N.mono m.size))).mono ?_;rintro e w3 ⟨T,v3,rfl,F⟩;have H3:=Hq ((m.trans (N.mono m.size)).trans (T.mono (m.trans (N.mono m.size)).size));have ai:=Hq (D w3 _ v3 F);obtain⟨p3,m3,c3,rfl⟩:=F.shape;clear T F;go_wp2_with fail
 refine ai.mono ?_;rintro e w4 ⟨rfl,U⟩;have H4:=Hq (H3.trans (U.mono H3.size));clear U;go_wp2_with fail
 refine(B w4).mono ?_;rintro e w5 ⟨rfl,V⟩;have H5:=Hq (H4.trans (V.mono H4.size));clear V;go_wp2_with fail
 refine(k w5).mono ?_;rintro e w6 ⟨rfl,X⟩;have H6:=Hq (H5.trans (X.mono H5.size));clear X;go_wp2_with fail
 refine(j w6).mono ?_;rintro e w7 ⟨rfl,Y⟩;have H7:=Hq (H6.trans (Y.mono H6.size));clear Y;go_wp2;go_ret;exact⟨rfl,H7.o⟩
theorem qH(kc:Nat->List Nat)(k:Nat):((List.range (k+1)).map kc).flatten=((List.range k).map kc).flatten++kc k:=by rw[List.range_succ,Xk,List.flatten_append,List.map_singleton,List.flatten_singleton]
theorem rO(hR:Ta f)(h:Od w C v (x::l))(hl:(x::l).length<=2097152)(hok:∀y∈x::l,nd (f+1) y)(h1:¬l.length=0)(h2:¬0<Gl x l):Calls oa 110 #[v] w λe w'=>e=na (La (Kg (K5 (f+1) (x::l))))/\Ba w w':=by
 have hx:=hok x (Yj ..);have E:∀y∈x::l,y.path.size<=64:=λy b=>(hok y b).le;have R:l.length<=2097152:=by simp at hl;omega
 have B:=Qr h R E hx.plain;rw[show((Al x l:Nat):Int)=3 by unfold Al;rw[Zj h1,Zj h2];rfl]at B;have HK:=Hq B;obtain⟨a,j⟩:∃a:Nat->List Nat,a=λv=>if(K8 (x::l) (Kg [v])).length=0 then Kh []else Nu (K5 f (K8 (x::l) (Kg [v]))):=⟨_,rfl⟩
 have e0:K5 (f+1) (x::l)=Ks (((List.range 16).map a).flatten++Kh []):=by rw[K5,Zj h1,Zj h2,j]
 rw[e0];have D:∀v,(a v).length<=33:=λv=>by
  rw[j];simp only;split;.have :=Ij [];simp at this;omega
  .exact Lr _
 have m:∀v,∀y∈K8 (x::l) (Kg [v]),nd f y:=λv=>Iv hok (by rw[yr];omega);have Q:∀v,∀y∈a v,y<256:=λv=>by
  rw[j];simp only;split;.exact Li λ_ h=>by cases h
  .exact Ll (Wv f _ (m v))
 have z:∀n,(((List.range n).map a).flatten).length<=n*33:=λn=>by
  induction n with
  |zero=>simp
  |succ n ih=>rw[List.range_succ,Xk,List.flatten_append,List.map_singleton,List.flatten_singleton,Zq];have :=D n;omega
 have O:∀n,∀y∈((List.range n).map a).flatten,y<256:=λn y b=>by obtain⟨c,hc,b⟩:=List.mem_flatten.1 b;obtain⟨v,_,rfl⟩:=Xd.1 hc;exact Q v y b
 have HF:Hid (∀n,n<=16->∀W,Sem.run oa (Op.stringOp .add (Kg ((List.range n).map a).flatten) (Kg (a n))) W=.ok (La (Kg ((List.range (n+1)).map a).flatten)) W):=λn hn W=>by rw[List.range_succ,Xk,List.flatten_append,List.map_singleton,List.flatten_singleton];exact wi _ _ (by have :=z n;have :=D n;omega) W
 have ae:Hid (∀W k,Ba w W->Calls oa 106 #[v,La (Kg [k])] W λe w'=>Ba W w'/\∃r,e=na r/\Od w' W.heap.size r (K8 (x::l) (Kg [k]))):=λW k hW=>Fv (h.below hW) hl E;have ai:Hid (∀W T r k,Od W T r (K8 (x::l) (Kg [k]))->¬(K8 (x::l) (Kg [k])).length=0->Calls oa 161 #[r] W λe w'=>e=na (La (Kg (a k)))/\Ba W w'):=λW T r k hE hn=>by have :=hR W T r _ hE (by have :=nu (x::l) (Kg [k]);omega) (by omega) (m k) (ly f _ (m k));rw[j];simp only;rw[Zj hn];exact this
 have ah:Hid (∀k,(K8 (x::l) (Kg [k])).length=0->a k=Kh []):=λk hk=>by rw[j];simp only;rw[Zo hk]
 have K:Hid (∀W,Calls oa 88 #[La ⟨#[]⟩] W λe w'=>e=na (La (Kg (Kh [])))/\Ba W w'):=λW=>Sr ⟨#[]⟩ W (by decide);have I:Hid (∀W,Calls oa 87 #[La (Kg (((List.range 16).map a).flatten++Kh []))] W λe w'=>e=na (La (Kg (Ks (((List.range 16).map a).flatten++Kh []))))/\Ba W w'):=λW=>by
  have h:=xB (Kg (((List.range 16).map a).flatten++Kh [])) W (by rw[me,Zq];have :=z 16;have :=Ij [];simp only[Yq]at this;omega);rw[qg (λy b=>by
   rcases Yc.1 b with b|b;.exact O 16 y b
   .exact Li (λ_ h=>by cases h) y b)]at h
  exact h
 have X:=λW=>wi ((List.range 16).map a).flatten (Kh []) (by have :=z 16;have :=Ij [];simp only[Yq]at this;omega) W;have ac:=Hq Qn;obtain⟨pv,mv,cv,rfl⟩:=h.shape;obtain⟨ak,q⟩:=nm (((List.range 16).map a).flatten);rw[q]at I X⊢;have V:=Hq q;clear h hl hok h1 h2 hx E R B D m Q z O e0 j q;go_enter func110,ntmps110;go_wp2_with fail
 refine HK.mono ?_;rintro e w1 ⟨rfl,L⟩;have Z:=Hq L;clear L;go_wp2;go_loopg [5,6] 16 (λg s i wr=>∃k:Nat,k<=16/\g=16-k/\i=Ia ka (k:Int)/\s=La (Kg ((List.range k).map a).flatten)/\Ba w wr)
 case atStart=>exact⟨0,Xa _,rfl,rfl,rfl,Z.o⟩
 case round=>
  obtain⟨k,hk,rfl,rfl,rfl,hb⟩:=hrel;have F:=Hq hb;clear hb Z;by_cases S:k<16
  .have i1:(k:Int)<16:=by omega
   have k8:IntKind.u8.wrap (k:Int)=(k:Int):=uD (by omega);have al:=ac wr k;have H:=Hq (HF k (by omega));go_wp2_with fail
   have N:Ba wr (wr.alloc (ma #[Ia .u8 (k:Int)] 5)):=(Zb _ _).alloc (Za _) _;have u:=F.trans (N.mono F.size);refine(ae _ k u).mono ?_;rintro e w3 ⟨M,v3,rfl,t⟩;have H3:=Hq (u.trans (M.mono u.size));obtain⟨p3,m3,c3,rfl⟩:=t.shape;have J:=Hq (Od.len t);have ag:=Hq t;clear t M N u;go_wp2_with fail
   refine(K w3).mono ?_;rintro e Y ⟨rfl,d⟩;have p:=Hq (A2 (H3.trans (d.mono H3.size)) d);clear d;by_cases G:(K8 (x::l) (Kg [k])).length=0
   .have i3:¬(0:Int)<(m3:Int):=by have :=J.o;omega
    have P:=ah k G;have hF:=H.o;rw[P]at hF;clear G;go_wp2;go_roundg (16-(k+1))
    case measure=>omega
    case rel=>exact⟨k+1,S,rfl,rfl,by rw[qH,P],p.1⟩
   .have i3:(0:Int)<(m3:Int):=by have :=J.o;omega
    have aj:=Hq (ai Y _ _ k (ag.below p.2) G);clear G;go_wp2_with fail
    refine aj.mono ?_;rintro e w5 ⟨rfl,o⟩;have U:=Hq (p.1.trans (o.mono p.1.size));have hF:=H.o;clear o;go_wp2;go_roundg (16-(k+1))
    case measure=>omega
    case rel=>exact⟨k+1,S,rfl,rfl,by rw[qH],U.o⟩
  .have i1:¬(k:Int)<16:=by omega
   obtain rfl:k=16:=by omega
   rw[V.o];go_wp2_with fail
   refine(K wr).mono ?_;rintro e Y ⟨rfl,d⟩;have p:=Hq (F.trans (d.mono F.size));clear d;go_wp2_with fail
   refine(I Y).mono ?_;rintro e w5 ⟨rfl,o⟩;have U:=Hq (p.trans (o.mono p.size));clear o;go_wp2;go_ret;exact⟨rfl,U.o⟩
theorem Wy:∀f,T9 f
 |0=>λw C v l h hl h0 hok=>by
  cases l with
  |nil=>simp at h0
  |cons x l=>exact absurd (hok x (Yj ..)).lt (by omega)
 |f+1=>λw C v l h hl h0 hok=>by
  have hR:=qK (Wy f);cases l with
  |nil=>simp at h0
  |cons x l=>
   by_cases h1:l.length=0;.obtain rfl:l=[]:=Ye h1;exact gQ f h (hok x (Yj ..))
   .by_cases h2:0<Gl x l;.exact iJ hR h hl hok h1 h2
    .exact rO hR h hl hok h1 h2
abbrev Up:Array Value:=lc
theorem yw(w w1:Fa)(D:List Nat)(hD:D.length=32)(ht:w1.there w.heap.size 0 32)(hb:Ba w w1):w1.there w.heap.size 0 (D.map Kf).toArray.size/\(oa.info? 39).map (·.size)=some (D.map Kf).toArray.size/\(oa.info? 39).map (·.size)=some (D.map Kf).length/\(D.map Kf).toArray.all (·.oneCell')=true/\(w1.setCells w.heap.size 0 (D.map Kf)).rangeAt w.heap.size 0 (D.map Kf)/\Ba w (w1.setCells w.heap.size 0 (D.map Kf)):=by obtain⟨c,d,a,b⟩:=qm (D:=D.toArray) (by simpa using hD) ht;exact⟨a,d,c,Yp (Bi D.toArray .u8),Zn _ _ _ _ b,Cg hb (Za _) _ _⟩
theorem oS(h:Od w C v l)(hl:l.length<=2097152)(h0:0<l.length)(hok:∀y∈l,nd f y):Calls oa 61 #[v] w λe w'=>e=na (Sa ((Ky (K5 f l)).map Kf).toArray)/\Ba w w':=by
 obtain⟨x,m,rfl⟩:∃x m,l=x::m:=by cases l with |nil=>simp at h0|cons x m=>exact⟨x,m,rfl⟩
 have F:Hid (∀W,Ba w W->Calls oa 111 #[v] W λe w'=>e=na (Ia ka ((Al x m:Nat):Int))/\Ba W w'):=λW u=>Qr (h.below u) (by simp at hl;omega) (λy I=>(hok y I).le) (hok x (Yj ..)).plain;have B:Hid (∀W,Ba w W->Calls oa 110 #[v] W λe w'=>e=na (La (Kg (K5 f (x::m))))/\Ba W w'):=λW u=>Wy f W C v (x::m) (h.below u) hl h0 hok;have n:=ly f (x::m) hok;obtain⟨kn,k⟩:∃kn:Int,((Al x m:Nat):Int)=kn:=⟨_,rfl⟩;have N:(kn==4)=false:=by rw[<-k,Xe];exact SC x m
 rw[k]at F;obtain⟨Q,P,O,rfl⟩:=h.shape;generalize K5 f (x::m)=c at B n⊢;have E:Hid (∀W,Calls oa 24 #[La (Kg c)] W λe w'=>e=na (Sa ((Ky c).map Kf).toArray)/\Ba W w'):=λW=>Dr (Kg c) W (by rw[me];omega);have s:=Bh c;generalize Ky c=D at E s⊢;clear h hl h0 hok k n;go_enter func61,ntmps61;go_wp2_with fail
 have o:(w.alloc (ma lc 39)).there w.heap.size 0 32:=Le w _ _ 32 rfl;have a:Ba w (w.alloc (ma lc 39)):=(Zb _ _).alloc (Za _) _;have g:w.heap.size<(w.alloc (ma lc 39)).heap.size:=by simp
 generalize World.alloc w _=w0 at o a g⊢;refine(F w0 a).mono ?_;rintro e q ⟨rfl,b⟩;have i:Hid (Ba w q/\q.there w.heap.size 0 32/\w.heap.size<q.heap.size):=⟨a.trans (b.mono a.size),ve o (b.block _ g),Zm g b.size⟩;clear b o a g;go_wp2_with fail
 refine(B q i.1).mono ?_;rintro e r ⟨rfl,d⟩;have p:Hid (Ba w r/\r.there w.heap.size 0 32/\w.heap.size<r.heap.size):=⟨i.1.trans (d.mono i.1.size),ve i.2.1 (d.block _ i.2.2),Zm i.2.2 d.size⟩;clear d;go_wp2_with fail
 refine(E r).mono ?_;rintro e K ⟨rfl,j⟩;obtain⟨J,M,L,z,G,t⟩:=yw w K D s (ve p.2.1 (j.block _ p.2.2)) (p.1.trans (j.mono p.1.size));have H:=Hq t;clear j t;go_wp2_with (refine Zs rfl 39 _ _ rfl w.heap.size 0 (D.map Kf).toArray rfl rfl J M z ?_)
 refine Zv (v:=Sa (D.map Kf).toArray) (si results61 _ _ _ w.heap.size 0 rfl (Yg _ _ _ 39 _ _ G underlying39 rfl L)) rfl ⟨rfl,H.o⟩
theorem CI(w:Fa):Calls oa 60 #[] w λe w'=>e=na (Sa ((Ky [128]).map Kf).toArray)/\Ba w w':=by
 have m:Hid (∀(W:Fa) (z:Nat),(convert 116 9 (Ma (some ⟨W.heap.size,0,none⟩) 1 1)).run oa (W.alloc (ma #[Ia .u8 (z:Int)] 5))=.ok (La (Kg [z])) (W.alloc (ma #[Ia .u8 (z:Int)] 5))):=Qn;have h:∀W:Fa,(convert 116 9 (Ma (some ⟨W.heap.size,0,none⟩) 1 1)).run oa (W.alloc (ma #[Ia .u8 128] 5))=.ok (La (Kg [128])) (W.alloc (ma #[Ia .u8 128] 5)):=λW=>m W 128;have n:Hid (∀W,Calls oa 24 #[La (Kg [128])] W λe w'=>e=na (Sa ((Ky [128]).map Kf).toArray)/\Ba W w'):=λW=>Dr (Kg [128]) W (by rw[me];decide);have d:=Bh [128];generalize Ky [128]=D at n d⊢;have j:(w.alloc (ma Up 39)).there w.heap.size 0 32:=Le w _ _ 32 rfl;have b:Ba w (w.alloc (ma Up 39)):=(Zb _ _).alloc (Za _) _;have i:w.heap.size<(w.alloc (ma Up 39)).heap.size:=by simp
 go_enter func60,ntmps60;go_upto_region 1 with fail
 generalize World.alloc w _=w0 at j b i⊢;have k:=h w0;go_wp2_with fail
 have c:Ba w0 (w0.alloc (ma #[Ia .u8 128] 5)):=(Zb _ _).alloc (Za _) _;refine(n _).mono ?_;rintro e w3 ⟨rfl,f⟩;have a:Ba w0 w3:=c.trans (f.mono c.size);obtain⟨q,s,r,l,o,g⟩:=yw w w3 D d (ve j (a.block _ i)) (b.trans (a.mono b.size));have p:=Hq g;clear f g c a k h;go_wp2_with (refine Zs rfl 39 _ _ rfl w.heap.size 0 (D.map Kf).toArray rfl rfl q s l ?_)
 refine Zv (v:=Sa (D.map Kf).toArray) (si results60 _ _ _ w.heap.size 0 rfl (Yg _ _ _ 39 _ _ o underlying39 rfl r)) rfl ⟨rfl,p.o⟩
def Hm(l:List Ed):List Nat:=if l.length=0 then Ky [128]else Ky (K5 65 l)
theorem eA(l:List Ed):(Hm l).length=32:=by unfold Hm;split<;>exact Bh _
theorem kG(l:List Ed):∀x∈Hm l,x<256:=by unfold Hm;split<;>exact Lk _
variable{b:Nat}
theorem FE(h:vd w C b v l)(hl:l.length<=2097152)(hok:∀y∈l,nd 65 y):Calls oa 19 #[Qa (some ⟨b,0,none⟩)] w λe w'=>e=na (Sa ((Hm l).map Kf).toArray)/\Ba w w':=by
 obtain⟨J,s,I,rfl⟩:=h.row.shape;have t:=Od.len h.row;have H:=h.cell;have p:=h.lt;have f:=eA l;have o:Hid (∀W,Ba w W->0<l.length->Calls oa 61 #[Ma J s I] W λe w'=>e=na (Sa ((Ky (K5 65 l)).map Kf).toArray)/\Ba W w'):=λW z m=>oS (h.row.below z) hl m hok;have k:(w.alloc (ma Up 39)).there w.heap.size 0 32:=Le w _ _ 32 rfl;have c:Ba w (w.alloc (ma Up 39)):=(Zb _ _).alloc (Za _) _;have j:w.heap.size<(w.alloc (ma Up 39)).heap.size:=by simp
 clear h hl hok;by_cases m:l.length=0
 .have q:Hm l=Ky [128]:=by unfold Hm;rw[Zo m]
  have n:=Hq CI;rw[q]at f⊢;generalize Ky [128]=D at n f⊢;obtain rfl:s=0:=by omega
  clear m q t o;go_enter func19,ntmps19;go_upto_region 1 with fail
  have x:=(Zc (a:=⟨b,0,none⟩) (c.block b p)).trans H;generalize World.alloc w _=w0 at k c j x⊢;go_wp2_with fail
  refine(n w0).mono ?_;rintro e E ⟨rfl,d⟩;obtain⟨B,G,F,i,r,g⟩:=yw w E D f (ve k (d.block _ j)) (c.trans (d.mono c.size));have u:=Hq g;clear d g;go_wp2_with (refine Zs rfl 39 _ _ rfl w.heap.size 0 (D.map Kf).toArray rfl rfl B G i ?_)
  refine Zv (v:=Sa (D.map Kf).toArray) (si results19 _ _ _ w.heap.size 0 rfl (Yg _ _ _ 39 _ _ r underlying39 rfl F)) rfl ⟨rfl,u.o⟩
 .have q:Hm l=Ky (K5 65 l):=by unfold Hm;rw[Zj m]
  have n:Hid (∀W,Ba w W->Calls oa 61 #[Ma J s I] W λe w'=>e=na (Sa ((Ky (K5 65 l)).map Kf).toArray)/\Ba W w'):=λW z=>o W z (by omega);rw[q]at f⊢;generalize Ky (K5 65 l)=D at n f⊢;have K:((s:Int)==0)=false:=by rw[Xe];omega
  clear m q t o;go_enter func19,ntmps19;go_upto_region 1 with fail
  have x:=(Zc (a:=⟨b,0,none⟩) (c.block b p)).trans H;generalize World.alloc w _=w0 at k c j x⊢;go_wp2_with fail
  refine(n w0 c).mono ?_;rintro e E ⟨rfl,d⟩;obtain⟨B,G,F,i,r,g⟩:=yw w E D f (ve k (d.block _ j)) (c.trans (d.mono c.size));have u:=Hq g;clear d g;go_wp2_with (refine Zs rfl 39 _ _ rfl w.heap.size 0 (D.map Kf).toArray rfl rfl B G i ?_)
  refine Zv (v:=Sa (D.map Kf).toArray) (si results19 _ _ _ w.heap.size 0 rfl (Yg _ _ _ 39 _ _ r underlying39 rfl F)) rfl ⟨rfl,u.o⟩
theorem lK(w:Fa)(y z:Nat):(convert 116 9 (Ma (some ⟨w.heap.size,0,none⟩) 2 2)).run oa (w.alloc (ma #[Ia .u8 (y:Int),Ia .u8 (z:Int)] 5)).drew=.ok (La (Kg [y,z])) (w.alloc (ma #[Ia .u8 (y:Int),Ia .u8 (z:Int)] 5)).drew:=nj _ 116 9 5 underlying116 underlying5 underlying9 (Own.Ff w 5 [y,z] (by unfold maxLen;simp)).drew
theorem SL(w:Fa)(key:List Nat)(t:TypeId)(i:Nat)(hi:i<key.length):(w.alloc (ma (key.map Kf).toArray t)).cell? ⟨w.heap.size,i,none⟩=some (Ia .u8 ((key[i]:Nat):Int)):=by rw[Ze];simp[hi]
theorem Lu(key:List Nat)(hl:key.length=32)(hb:∀x∈key,x<256)(w:Fa):Calls oa 58 #[Sa (key.map Kf).toArray] w λe w'=>e=na (La (Kg (Kl key)))/\Ba w w':=by
 have n:Hid (∀t i (g:i<key.length),(w.alloc (ma (key.map Kf).toArray t)).cell? ⟨w.heap.size,i,none⟩=some (Ia .u8 ((key[i]:Nat):Int))):=λt i g=>SL w key t i g;have v:=Hq lK;have k:=Hq (A2 hl hb);generalize hA:(key.map Kf).toArray=A at n⊢;clear hl hb hA;go_enter func58,ntmps58;go_wp2;go_loopg [3,4] 32 (λgh u i wr=>∃x:Nat,x<=32/\gh=32-x/\i=Ia ka (x:Int)/\u=La (Kg (Kl (key.take x)))/\Ba w wr/\w.heap.size<wr.heap.size/\∀i (g:i<key.length),wr.cell? ⟨w.heap.size,i,none⟩=some (Ia .u8 ((key[i]:Nat):Int)))
 case atStart=>exact⟨0,by omega,rfl,rfl,rfl,(Zb _ _).alloc (Za _) _,by simp,n _⟩
 case round=>
  obtain⟨x,E,rfl,rfl,rfl,c,r,j⟩:=hrel;by_cases B:x<32
  .have h:x<key.length:=by have :=k.1;omega
   have s:(x:Int)<32:=by omega
   have y:=j x h;obtain⟨b,a⟩:=nm key[x];have z:b<256:=by rw[<-a];exact k.2 _ (Zy h)
   rw[a]at y;have d:Kl (key.take (x+1))=Kl (key.take x)++[b/16,b%16]:=by rw[Z1 h,a,mB]
   have m:(Kl (key.take x)).length<=64:=by rw[Cj,Zx];omega
   have l:=λW=>wi (Kl (key.take x)) [b/16,b%16] (by simp only[Zu,Yq];omega) W;rw[<-d]at l;have q:=λW=>v W (b/16) (b%16);have o:((b/16:Nat):Int)=(b:Int)/16:=by omega
   have p:((b%16:Nat):Int)=(b:Int)%16:=by omega
   rw[o,p]at q;have f:=Hq (A3 c r j);have C:¬w.heap.size=wr.heap.size:=by omega
   clear c j d m o p a;go_wp2_with fail
   go_region;all_goals
    go_wp2;go_roundg (32-(x+1))
    case measure=>omega
    case rel=>refine⟨x+1,by omega,rfl,rfl,rfl,(f.1.alloc f.1.size _).drew,by simp;omega,λi g=>?_⟩;exact(Zc (Z0 _ _ _ f.2.1)).trans (f.2.2 i g)
  .have D:x=32:=by omega
   have s:¬(x:Int)<32:=by omega
   have d:key.take x=key:=Zz (by have :=k.1;omega);rw[d];have f:Aside (Ba w wr):=c;clear c j r;go_wp2;go_ret;exact⟨rfl,f.o⟩
variable{K:Array Nat}
theorem my(hb:K3 K):∀x∈K.toList,x<256:=λx hx=>by obtain⟨j,hj,rfl⟩:=Xv hx;have :=hb j;rw[Z9 K j (by simpa using hj)]at this;simpa using this
def Px(l:List Ed)(p:Da):Option Da:=(l.find? λx=>decide (x.path=p)).map (·.val)
theorem zx:∀(l:List Ed) (p:Da),(Nt l p=none/\Px l p=none)\/∃i,∃h:i<l.length,Nt l p=some i/\Px l p=some l[i].val/\l[i].path=p
 | [],p=>.inl ⟨rfl,rfl⟩
 |x::l,p=>by
  by_cases e:x.path=p;.exact .inr ⟨0,by simp,by rw[Nt,Zo e],by simp[Px,e],e⟩
  .rcases zx l p with⟨h1,h2⟩|⟨i,hi,h1,h2,h3⟩;.refine .inl ⟨by rw[Nt,Zj e,h1];rfl,?_⟩;unfold Px at h2⊢;rw[List.find?_cons,Zt e];exact h2
   .refine .inr ⟨i+1,by simpa using hi,by rw[Nt,Zj e,h1];rfl,?_,by simpa using h3⟩;unfold Px at h2⊢;rw[List.find?_cons,Zt e];simpa using h2
theorem BU(h:vd w C b v l)(hl:l.length<=2097152)(hs:∀x∈l,x.stub=false)(hK:K.size=32)(hKb:K3 K):Calls oa 55 #[Qa (some ⟨b,0,none⟩),Sa (K.toList.map Kf).toArray] w λe w'=>e=na (Wa #[La ((Px l (Kg (Kl K.toList))).getD ⟨#[]⟩),Oa (Px l (Kg (Kl K.toList))).isSome,Ia ka 0])/\Ba w w':=by
 obtain⟨O,H,L,rfl⟩:=h.row.shape;have F:=Od.len h.row;obtain⟨p,z⟩:=nm (Kg (Kl K.toList));rw[z];have I:=Mb hK
 obtain⟨W0,n⟩:=nm (w.alloc (ma (K.toList.map Kf).toArray 37));have t:Ba w W0:=by rw[<-n];exact(Zb _ _).alloc (Za _) _
 have d:W0.rangeAt w.heap.size 0 (K.toList.map Kf):=λj u r=>by rw[<-n,Zf,Ze];simpa using r
 have s:Hid (∀W,Calls oa 58 #[Sa (K.toList.map Kf).toArray] W λe w'=>e=na (La p)/\Ba W w'):=λW=>by have h:=Lu K.toList (by simpa using hK) (my hKb) W;rw[z]at h;exact h
 have J:Hid (∀W,Ba w W->vd W C b (Ma O H L) l):=λW q=>h.below q;have E:Hid (∀W,Ba w W->Calls oa 102 #[Qa (some ⟨b,0,none⟩),La p] W λe w'=>e=na (Oa false)/\w'=W):=λW q=>vw (h.below q) hl hs;have c:Hid (∀W,Ba w W->Calls oa 103 #[Qa (some ⟨b,0,none⟩),La p] W λe w'=>e=na (Ia ka (Po (Nt l p)))/\w'=W):=λW q=>KA (h.below q) hl hs;have N:=zx l p;have m:=Hq t;clear h hl hs hK hKb z t;rcases N with⟨h1,h2⟩|⟨i,hi,h1,h2,-⟩
 .rw[h1]at c;rw[h2];simp only[Po]at c;simp only[Option.getD_none,Option.isSome_none];clear h1 h2;go_enter func55,ntmps55;go_wp2_with (refine Zr rfl 37 _ rfl w.heap.size 0 rfl (K.toList.map Kf) _ d underlying37 rfl I ?_)
  refine(s _).mono ?_;rintro e o ⟨rfl,k⟩;have f:=Hq (m.trans (k.mono m.size));clear k d n;go_wp2_with fail
  refine(E o f.o).mono ?_;rintro e D ⟨rfl,a⟩;obtain rfl:=a.symm;go_wp2_with fail
  refine(c o f.o).mono ?_;rintro e D ⟨rfl,a⟩;obtain rfl:=a.symm;go_wp2;go_ret3;exact⟨rfl,f.o⟩
 .rw[h1]at c;rw[h2];simp only[Po]at c;simp only[Yk,Option.isSome_some];clear h1 h2;obtain⟨u,r⟩:=nm l[i].val;rw[r];go_enter func55,ntmps55;go_wp2_with (refine Zr rfl 37 _ rfl w.heap.size 0 rfl (K.toList.map Kf) _ d underlying37 rfl I ?_)
  refine(s _).mono ?_;rintro e o ⟨rfl,k⟩;have f:=Hq (m.trans (k.mono m.size));clear k d n;go_wp2_with fail
  refine(E o f.o).mono ?_;rintro e D ⟨rfl,a⟩;obtain rfl:=a.symm;go_wp2_with fail
  refine(c o f.o).mono ?_;rintro e D ⟨rfl,a⟩;obtain rfl:=a.symm;have B:=J o f.o;have Q:=B.cell;obtain⟨g,P,G,-,-,y⟩:=Od.row B.row hi;simp only[Z3]at G;obtain⟨rfl,-,rfl⟩:=G;obtain⟨-,M,-⟩:=Od.path y;have R:(i:Int)<(H:Int):=by omega
  have S:¬(i:Int)<0:=by omega
  rw[r]at M;clear y B F r;go_wp2;go_ret3;exact⟨rfl,f.o⟩
def Tb(p u:Da):Ed:=⟨p,u,false,λ_=>0⟩
def Es(l:List Ed)(p u:Da):List Ed:=kg l (Nt l p)++[Tb p u]
variable{u:Da}
theorem aO(hu:u.size<1\/100<u.size):Calls oa 51 #[Qa (some ⟨b,0,none⟩),Sa (K.toList.map Kf).toArray,La u] w λe w'=>e=na (Ia ka 11)/\Ba w w':=by
 by_cases c:u.size<1
 .have a:(u.size:Int)<1:=by omega
  clear hu;go_enter func51,ntmps51;go_wp2;go_ret;exact⟨rfl,(Zb _ _).alloc (Za _) _⟩
 .have a:¬(u.size:Int)<1:=by omega
  have d:(100:Int)<(u.size:Int):=by omega
  clear hu;go_enter func51,ntmps51;go_wp2;go_ret;exact⟨rfl,(Zb _ _).alloc (Za _) _⟩
abbrev Us(p u:Da):Array Value:=#[La p,La u,Oa false,Ia .u8 0,Ia .u8 0,Ia .u8 0,Ia .u8 0,Ia .u8 0,Ia .u8 0,Ia .u8 0,Ia .u8 0,Ia .u8 0,Ia .u8 0,Ia .u8 0,Ia .u8 0,Ia .u8 0,Ia .u8 0,Ia .u8 0,Ia .u8 0,Ia .u8 0,Ia .u8 0,Ia .u8 0,Ia .u8 0,Ia .u8 0,Ia .u8 0,Ia .u8 0,Ia .u8 0,Ia .u8 0,Ia .u8 0,Ia .u8 0,Ia .u8 0,Ia .u8 0,Ia .u8 0,Ia .u8 0,Ia .u8 0]
theorem pF{w2:Fa}{v2:Value}{l':List Ed}(hb:Ba w w2)(hh:w.heap[b]? =some (ma #[v] 59 (0,0)))(hE:Od w2 C v2 l')(hC:w.heap.size<=C):vd (w2.setCell ⟨b,0,none⟩ v2) C b v2 l'/\Fc b w (w2.setCell ⟨b,0,none⟩ v2):=by
 have a:=(Zg.1 hh).1;have f:=(hb.block b a).trans hh;have d:(w2.setCell ⟨b,0,none⟩ v2).heap.size=w2.heap.size:=by simp
 refine⟨⟨De (cs:=[v]) f 0 v2,hE.Cb (Jq d.symm) λk _ e=>Zd _ _ _ _ ?_⟩,hb.os,hb.tape,hb.output,by rw[d];exact hb.size,λk g c=>(Zd _ _ _ _ c).trans (hb.block k g)⟩;have :=(hE.block k e).1;show k≠b;omega
attribute [local go_sem ↓] vB in
theorem qO(h:vd w C b v l)(hl:l.length<=2097151)(hs:∀x∈l,x.stub=false)(hK:K.size=32)(hKb:K3 K)(hu0:0<u.size)(hu1:u.size<=100):Calls oa 51 #[Qa (some ⟨b,0,none⟩),Sa (K.toList.map Kf).toArray,La u] w λe w'=>e=na (Ia ka 0)/\Fc b w w'/\∃v',vd w' w.heap.size b v' (Es l (Kg (Kl K.toList)) u):=by
 obtain⟨pk,mk,S,rfl⟩:=h.row.shape;obtain⟨p,M⟩:=nm (Kg (Kl K.toList));rw[M];obtain⟨i0,hi,X,Y,Z⟩:=Xl sm;have zK:=Mb hK
 obtain⟨W0,s⟩:=nm (w.alloc (ma (K.toList.map Kf).toArray 37));have G:Ba w W0:=by rw[<-s];exact(Zb _ _).alloc (Za _) _
 have z:W0.rangeAt w.heap.size 0 (K.toList.map Kf):=λj u hu=>by rw[<-s,Zf,Ze];simpa using hu
 have R:Hid (∀W,Calls oa 58 #[Sa (K.toList.map Kf).toArray] W λe w'=>e=na (La p)/\Ba W w'):=λW=>by have h:=Lu K.toList (by simpa using hK) (my hKb) W;rw[M]at h;exact h
 have q:Hid (∀W,Ba w W->vd W C b (Ma pk mk S) l):=λW g=>h.below g;have HM:Hid (∀W,Ba w W->Calls oa 102 #[Qa (some ⟨b,0,none⟩),La p] W λe w'=>e=na (Oa false)/\w'=W):=λW g=>vw (h.below g) (by omega) hs;have D:Hid (∀W,Ba w W->Calls oa 103 #[Qa (some ⟨b,0,none⟩),La p] W λe w'=>e=na (Ia ka (Po (Nt l p)))/\w'=W):=λW g=>KA (h.below g) (by omega) hs;have F:Hid (∀W,Ba w W->Calls oa 104 #[Ma pk mk S,Ia ka (Po (Nt l p))] W λe w'=>Ba W w'/\∃v',e=na v'/\Od w' W.heap.size v' (kg l (Nt l p))):=λW g=>pG (h.row.below g) (by omega);have k:=Hq (A4 G h.heap hl h.lt);have i1:¬(u.size:Int)<1:=by omega
 have i2:¬(100:Int)<(u.size:Int):=by omega
 obtain⟨iv,J⟩:=nm (Po (Nt l p));rw[J]at D F;clear h hl hs hK hKb M G hu0 hu1 J;go_enter func51,ntmps51;go_wp2_with (refine Zr rfl 37 _ rfl w.heap.size 0 rfl (K.toList.map Kf) _ z underlying37 rfl zK ?_)
 refine(R _).mono ?_;rintro e n ⟨rfl,H⟩;have a:=Hq (k.1.trans (H.mono k.1.size));clear H z s;go_wp2_with fail
 refine(HM n a.o).mono ?_;rintro e o ⟨rfl,B⟩;obtain rfl:=B.symm;go_wp2_with fail
 refine(D n a.o).mono ?_;rintro e o ⟨rfl,B⟩;obtain rfl:=B.symm;have c0:=(q n a.o).cell;go_wp2_with fail
 refine(F n a.o).mono ?_;rintro e i ⟨y,v3,rfl,m⟩;obtain⟨po,mo,T,rfl⟩:=m.shape;have c:=a.trans (y.mono a.size);have L:=Hq (A3 c m y.size);have f0:=(q i c).cg;have c3:=(q i c).cell;have E:Hid (∀t,Db (i.alloc (ma (Us p u) t)) n.heap.size 35 (Ma po mo T) (kg l (Nt l p)).length ((kg l (Nt l p)).flatMap Ge)):=λt=>m.alloc _;have P:Hid (∀t,(i.alloc (ma (Us p u) t)).rangeAt i.heap.size 0 (Ge (Tb p u))):=λt=>wg i _ t;have Q:Hid ((kg l (Nt l p)).length<=2097151):=by have h1:=MB l (Nt l p);have :=k.2.2.1;have h:(kg l (Nt l p)).length<=2097151:=(by omega);exact h
 clear y m c c0;go_upto_region 10 with(at_builtin;refine ll _ rfl _ _ 57 rfl 181 i0 Of 35 72 underlying57 hi X Y Z SA (by decide) n.heap.size (Ma po mo T) _ _ rfl (E _) i.heap.size 0 1 1 (Ge (Tb p u)) rfl (by rw[Ql]) (P _) (wx _) (by have :=Q.o;unfold maxLen;omega) (by have :=Q.o;omega) (by have :=L.2.2;simp;omega) ?_)
 intro N o r I U V;have d:=LB L.1 L.1.size ((Zb _ _).alloc (Za _) _) ((E _).mono a.size) I;have f:=pF (l':=Es l p u) d k.2.1 (Od.more r) a.size;have d0:=(q o d).cell;have e0:=(q o d).cg;have O:Hid (Fc b w (o.setCell ⟨b,0,none⟩ N)/\vd (o.setCell ⟨b,0,none⟩ N) w.heap.size b N (Es l p u)):=⟨f.2,f.1.heap,Db.mono f.1.row a.size⟩;obtain⟨p2,m2,k2,rfl⟩:=r.shape;clear r I U V d f c3 f0;go_wp2;go_ret;exact⟨rfl,O.1,_,O.2⟩
theorem QT(h:vd w C b v l)(hl:l.length<=2097152)(hok:∀y∈l,nd 65 y)(hK:K.size=32)(hKb:K3 K):Calls oa 53 #[Qa (some ⟨b,0,none⟩),Sa (K.toList.map Kf).toArray] w λe w'=>e=na (Wa #[Oa (Px l (Kg (Kl K.toList))).isSome,Ia ka 0])/\Fc b w w'/\((Nt l (Kg (Kl K.toList))=none/\Ba w w')\/∃i,Nt l (Kg (Kl K.toList))=some i/\∃v',vd w' w.heap.size b v' (l.eraseIdx i)):=by
 obtain⟨pk,mk,ck,rfl⟩:=h.row.shape;obtain⟨p,U⟩:=nm (Kg (Kl K.toList));have ba:p.size=64:=by rw[<-U,me,Cj,Yh,hK]
 rw[U];have hs:∀x∈l,x.stub=false:=λx hx=>(hok x hx).plain;have zK:=Mb hK
 obtain⟨W0,O⟩:=nm (w.alloc (ma (K.toList.map Kf).toArray 37));have Q:Ba w W0:=by rw[<-O];exact(Zb _ _).alloc (Za _) _
 have z:W0.rangeAt w.heap.size 0 (K.toList.map Kf):=λj u hu=>by rw[<-O,Zf,Ze];simpa using hu
 have ac:Hid (∀W,Calls oa 58 #[Sa (K.toList.map Kf).toArray] W λe w'=>e=na (La p)/\Ba W w'):=λW=>by have h:=Lu K.toList (by simpa using hK) (my hKb) W;rw[U]at h;exact h
 have HR:Hid (∀W,Ba w W->vd W C b (Ma pk mk ck) l):=λW H=>h.below H;have HM:Hid (∀W,Ba w W->Calls oa 102 #[Qa (some ⟨b,0,none⟩),La p] W λe w'=>e=na (Oa false)/\w'=W):=λW H=>vw (h.below H) hl hs;have s:Hid (∀W,Ba w W->Calls oa 103 #[Qa (some ⟨b,0,none⟩),La p] W λe w'=>e=na (Ia ka (Po (Nt l p)))/\w'=W):=λW H=>KA (h.below H) hl hs;have B:=Hq (A5 Q h.heap hl h.lt hok);have hc:=zx l p;rcases hc with⟨h1,h2⟩|⟨i,hi,h1,h2,-⟩
 .rw[h1]at s⊢;rw[h2];simp only[Po]at s;simp only[Option.isSome_none];clear h hl hs hok hK hKb U Q h1 h2;go_enter func53,ntmps53;go_wp2_with (refine Zr rfl 37 _ rfl w.heap.size 0 rfl (K.toList.map Kf) _ z underlying37 rfl zK ?_)
  refine(ac _).mono ?_;rintro e L ⟨rfl,E⟩;have c:=Hq (B.1.trans (E.mono B.1.size));clear E z O;go_wp2_with fail
  refine(HM L c.o).mono ?_;rintro e w2 ⟨rfl,r⟩;obtain rfl:=r.symm;go_wp2_with fail
  refine(s L c.o).mono ?_;rintro e w2 ⟨rfl,r⟩;obtain rfl:=r.symm;go_wp2;go_ret2;exact⟨rfl,.xa c.o,.inl ⟨trivial,c.o⟩⟩
 .have ae:Hid (∀W,Ba w W->Calls oa 104 #[Ma pk mk ck,Ia ka (i:Int)] W λe w'=>Ba W w'/\∃v',e=na v'/\Od w' W.heap.size v' (l.eraseIdx i)):=λW H=>pG (o:=some i) (h.row.below H) hl;rw[h1]at s⊢;rw[h2];simp only[Po]at s;simp only[Option.isSome_some];have i2:¬(i:Int)<0:=by omega
  obtain⟨m,T⟩:=nm (l.eraseIdx i);rw[T]at ae;have d:=Hq (A3 (by rw[<-T];have :=List.length_eraseIdx_le l i;omega :m.length<=2097152) (λy X=>hok y (List.mem_of_mem_eraseIdx (T▸X)):(∀y∈m,nd 65 y)) T);clear h hl hs hok hK hKb U Q h1 h2 T;go_enter func53,ntmps53;go_wp2_with (refine Zr rfl 37 _ rfl w.heap.size 0 rfl (K.toList.map Kf) _ z underlying37 rfl zK ?_)
  refine(ac _).mono ?_;rintro e L ⟨rfl,E⟩;have c:=Hq (B.1.trans (E.mono B.1.size));clear E z O;go_wp2_with fail
  refine(HM L c.o).mono ?_;rintro e w2 ⟨rfl,r⟩;obtain rfl:=r.symm;go_wp2_with fail
  refine(s L c.o).mono ?_;rintro e w2 ⟨rfl,r⟩;obtain rfl:=r.symm;have c0:=(HR L c.o).cell;go_wp2_with fail
  refine(ae L c.o).mono ?_;rintro e Y ⟨ag,v3,rfl,N⟩;obtain⟨po,mo,co,rfl⟩:=N.shape;have aq:=Od.len N;have R:=c.trans (ag.mono c.size);have P:=Hq (A2 R N);obtain rfl:=aq;clear ag N R c0;go_wp2;go_loopg [10,11] m.length (λgh at_ k wr=>∃(k' a':Nat),k'<=m.length/\gh=m.length-k'/\k=Ia ka (k':Int)/\at_=Ia ka (a':Int)/\a'<=64/\∃q,wr=Y.drewN q)
  case atStart=>exact⟨0,0,Xa _,rfl,rfl,rfl,by omega,0,rfl⟩
  case round=>
   obtain⟨k,a,hk,rfl,rfl,rfl,ha,q,rfl⟩:=hrel;by_cases n:k<m.length
   .have i1:(k:Int)<(m.length:Int):=by omega
    obtain⟨g,am,V,-,-,G⟩:=Od.row P.2 n;simp only[Z3]at V;obtain⟨rfl,-,rfl⟩:=V;obtain⟨d0,-,-⟩:=Od.path G;have aj:=(d.2.1 _ (Zy n)).le;generalize m[k].path=py at d0 aj;have M:Hid (wrap64 ((k:Int)+1)=((k+1:Nat):Int)):=by have h:wrap64 ((k:Int)+1)=((k+1:Nat):Int):=(by unfold wrap64;have :=d.1;omega);exact h
    clear G;go_wp2;go_loopg [12] py.size (λgh nn wr=>∃j:Nat,j<=py.size/\gh=py.size-j/\nn=Ia ka (j:Int)/\∃q,wr=Y.drewN q)
    case atStart=>exact⟨0,Xa _,rfl,rfl,q,rfl⟩
    case round=>
     obtain⟨j,hj,rfl,rfl,q2,rfl⟩:=hrel;by_cases c1:j<py.size
     .have i3:(j:Int)<(py.size:Int):=by omega
      have ao:j<p.size:=by omega
      have i4:(j:Int)<(p.size:Int):=by omega
      obtain⟨a1,au⟩:=nm (py[j]'c1).toNat;obtain⟨a2,aw⟩:=nm (p[j]'ao).toNat;by_cases c3:a1=a2
      .subst c3;go_upto_region 14 with fail
       go_quiet (fail)
       go_wp2;go_roundg (py.size-(j+1))
       case measure=>omega
       case rel=>exact⟨j+1,c1,rfl,ld rfl,_,rfl⟩
      .have ay:((a1:Int)==(a2:Int))=false:=by rw[Xe];omega
       by_cases c4:a<j
       .have i5:(a:Int)<(j:Int):=by omega
        go_upto_region 14 with fail
        go_quiet (fail)
        go_wp2;go_roundg (m.length-(k+1))
        case measure=>omega
        case rel=>exact⟨k+1,j,n,rfl,ld M.o,rfl,by omega,_,rfl⟩
       .have i5:¬(a:Int)<(j:Int):=by omega
        go_upto_region 14 with fail
        go_quiet (fail)
        go_wp2;go_roundg (m.length-(k+1))
        case measure=>omega
        case rel=>exact⟨k+1,a,n,rfl,ld M.o,rfl,ha,_,rfl⟩
     .have i3:¬(j:Int)<(py.size:Int):=by omega
      by_cases c4:a<j
      .have i5:(a:Int)<(j:Int):=by omega
       go_upto_region 14 with fail
       go_quiet (fail)
       go_wp2;go_roundg (m.length-(k+1))
       case measure=>omega
       case rel=>exact⟨k+1,j,n,rfl,ld M.o,rfl,by omega,_,rfl⟩
      .have i5:¬(a:Int)<(j:Int):=by omega
       go_upto_region 14 with fail
       go_quiet (fail)
       go_wp2;go_roundg (m.length-(k+1))
       case measure=>omega
       case rel=>exact⟨k+1,a,n,rfl,ld M.o,rfl,ha,_,rfl⟩
   .have i1:¬(k:Int)<(m.length:Int):=by omega
    have i3:(a:Int)<=(p.size:Int):=by omega
    obtain⟨pa,az⟩:=nm (p.extract 0 a);have I:Ba Y (Y.drewN q):=Below.drewN (Zb _ _) q;have ak:=Hq (Fv (p:=pa) (P.2.below I) d.1 λy X=>(d.2.1 y X).le);have HQ:=Hq I;clear I hk n;go_wp2_with fail
    refine ak.mono ?_;rintro e w5 ⟨S,v5,rfl,D⟩;obtain⟨p5,m5,c5,rfl⟩:=D.shape;have t:=HQ.trans (S.mono HQ.size);have F:=P.1.trans (t.mono P.1.size);have f:=pF (l':=m) F B.2.1 (P.2.below t) c.size;have d0:=(HR w5 F).cell;have e0:=(HR w5 F).cg;have Z:Hid (Fc b w (w5.setCell ⟨b,0,none⟩ (Ma po m.length co))/\vd (w5.setCell ⟨b,0,none⟩ (Ma po m.length co)) w.heap.size b (Ma po m.length co) m):=⟨f.2,f.1.heap,Db.mono f.1.row c.size⟩;have al:=Hq (Od.len D);by_cases h5:m5=1
    .have J:0<(K8 m pa).length:=by have :=al.o;omega
     obtain⟨g,am,V,-,-,G⟩:=Od.row D J;simp only[Z3]at V;obtain⟨rfl,-,rfl⟩:=V;have ah:(K8 m pa)[0].stub=false:=by have ai:=Zy J;obtain⟨y,X,e⟩:=Xd.1 ai;rw[<-e];exact(d.2.1 y (Xu.1 X).1).plain
     obtain⟨-,-,s2⟩:=Od.path G;rw[ah]at s2;rw[Jr,Zf]at s2;subst h5;clear S D t F f G ah J;go_wp2;go_ret2;exact⟨rfl,Z.1,.inr ⟨i,rfl,_,by rw[d.2.2];exact Z.2⟩⟩
    .have ar:((m5:Int)==1)=false:=by rw[Xe];omega
     clear S D t F f;go_wp2;go_ret2;exact⟨rfl,Z.1,.inr ⟨i,rfl,_,by rw[d.2.2];exact Z.2⟩⟩
end Go.Proofs.YtpfbdlnibdfcoaaGreatDoor
