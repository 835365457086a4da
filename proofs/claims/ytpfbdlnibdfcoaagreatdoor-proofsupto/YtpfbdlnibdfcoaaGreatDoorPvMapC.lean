import Derived.Test.YtpfbdlnibdfcoaaGreatDoorPvMapB
namespace Go.Proofs.YtpfbdlnibdfcoaaGreatDoor
open Go.RowKit Tryz
open Value renaming int->Ia,string->La,slice->Ma,bool->Oa,pointer->Qa,agg->Sa,tuple->Wa,iface->ca,nilIface->da
open IntKind renaming i64->ka
open Obj renaming cells->ma
open Ending renaming returned->na
open Tryz renaming prog->oa
set_option maxRecDepth 100000
set_option maxHeartbeats 0
section
theorem CR{w7:Fa}{N:Nat}{D:Array Nat}(hD:D.size=32)(ht:w7.there N 0 32):(oa.info? 37).map (·.size)=some (D.toList.map Kf).length/\(oa.info? 37).map (·.size)=some (D.toList.map Kf).toArray.size/\w7.there N 0 (D.toList.map Kf).toArray.size/\w7.there N 0 (D.toList.map Kf).length:=by
 refine⟨?_,?_,?_,?_⟩;.rw[qp];simp[hD]
 .rw[qp];simp[hD]
 .simpa[hD]using ht
 .simpa[hD]using ht
structure Kn(w:Fa)(C:Nat)(ks vs:Value)(m:List (Array Nat×Da)):Prop where
 keys:Db w C 32 ks m.length (m.flatMap λx=>x.1.toList.map Kf)
 mg:Db w C 1 vs m.length (m.map λx=>La x.2)
 ok:∀x∈m,x.1.size=32/\K3 x.1/\0<x.2.size/\x.2.size<=100
 apart:∀g,ks.ownBlock=some g->vs.ownBlock≠some g
variable{m:List (Array Nat×Da)}{i:Nat}
variable{w:Fa}{C:Nat}{ks vs:Value}
theorem Wx{P:Program}{C:Fa->Prop}{op:Oper}{a:Act}{K:Act->Prop}(ty:TypeId)(x:Operand)(ho:op.op=.load ty x)(b o:Nat)(hx:a.eval x=Qa (some ⟨b,o,none⟩))(cs:List Value)(d:TypeDesc)(hc:∀w,C w->w.rangeAt b o cs)(hu:P.underlying ty=some d)(hd:d.isRow=true)(hi:(P.info? ty).map (·.size)=some cs.length)(h:K (a.put op.dst (Sa cs.toArray))):op.quiet P a C K:=⟨_,λw hw=>by unfold Oper.quietAt execOp;simp only[ho,hx,Instr.loadAt,Instr.sureAddr,Je,Sem.run_pure,Result.andThen_ok,Yg w b o ty cs d (hc w hw) hu hd hi];exact⟨rfl,rfl⟩,h⟩
def Ur:Value->Nat
 | Qa (some a)=>a.off
 |_=>0
@[simp] theorem bU(b o:Nat):Ur (Qa (some ⟨b,o,none⟩))=o:=rfl
@[simp] theorem XU(cs:Array Value):Value.cells (Sa cs)=cs:=rfl
theorem Qv:(oa.info? 9).map (λi=>(i.zero,i.size,i.bytes))=some (some (La ⟨#[]⟩),1,16):=by kernel_rfl
variable{w2:Fa}{ob:Nat}{A:List (Array Nat)}{V:List Da}{o:Obj}{x:Option Nat}
end
section
abbrev Mp:=List (Array Nat×Da)
def U7(x:Array Nat×Da):List Nat:=Kl x.1.toList
def Uz(m:Mp)(s:List Nat):Option Da:=(m.find? λx=>decide (U7 x=s)).map (·.2)
variable{B b:Nat}{X:Nat->Prop}{S S':Bb}{w w':Fa}
theorem Ib.uc{t:Nd}(h:Ib S w b t)(hf:yd B X S S' w w')(hb:¬X b):Ib S' w' b t:=by have a:=h.lt;obtain⟨c,v,e,d⟩:=h;exact⟨hf.new b a c,v,e.sub hf.sub,(hf.other b a c hb).trans d⟩
theorem yd.below(h:yd B X S S' w w')(hf:ua B S w)(hX:∀k,X k->B<=k):Below B w w':=⟨h.os,h.tape,h.output,h.size,λk hk=>h.other k (Zm hk hf.le) (by
 cases e:S k with
 |none=>rfl
 |some t=>have :=hf.low k t e;omega) λhx=>by have :=hX k hx;omega⟩
structure Mc(S:Bb)(w:Fa)(b:Nat)(g:List Nat->Option Da):Prop where
 ex:∃t:Nd,Ib S w b t/\t.can 64/\∀s,s.length=64->t.get s=g s
variable{g:List Nat->Option Da}
theorem Mc.congr{g':List Nat->Option Da}(h:Mc S w b g)(e:∀s,s.length=64->g s=g' s):Mc S w b g':=by obtain⟨t,c,d,f⟩:=h.ex;exact⟨t,c,d,λs a=>(f s a).trans (e s a)⟩
theorem Mc.uc{B:Nat}{X:Nat->Prop}{S S':Bb}{w w':Fa}{b:Nat}{g:List Nat->Option Da}(h:Mc S w b g)(hf:yd B X S S' w w')(hb:¬X b):Mc S' w' b g:=by obtain⟨t,a,c,d⟩:=h.ex;exact⟨t,a.uc hf hb,c,d⟩
variable{K:Array Nat}
theorem Mc.put{u:Da}(h:Mc S w b g)(hf:ua B S w)(hK:K.size=32)(hKb:K3 K)(hu0:0<u.size)(hu1:u.size<=100):Calls oa 50 #[Qa (some ⟨b,0,none⟩),Sa (K.toList.map Kf).toArray,La u] w λx w'=>x=na (Ia ka 0)/\∃S',Mc S' w' b (λs=>if s=Kl K.toList then some u else g s)/\yd B (· =b) S S' w w':=by obtain⟨t,i,j,k⟩:=h.ex;refine(XR hf i j hK hKb hu0 hu1).mono ?_;rintro x w' ⟨rfl,S',l,f,a,d,c⟩;exact⟨rfl,S',⟨l,f,a,λs e=>by rw[d s e,k s e]⟩,c⟩
theorem UE(hK:K.size=32):(Kl K.toList).length=64:=by rw[Cj,Yh,hK]
variable{o:Option Da}
theorem Mc.del(h:Mc S w b g)(hf:ua B S w)(hK:K.size=32)(hKb:K3 K)(ho:g (Kl K.toList)=o):Calls oa 52 #[Qa (some ⟨b,0,none⟩),Sa (K.toList.map Kf).toArray] w λx w'=>x=na (Wa #[Oa o.isSome,Ia ka 0])/\∃S',Mc S' w' b (λs=>if s=Kl K.toList then none else g s)/\yd B (· =b) S S' w w':=by obtain⟨t,j,k,a⟩:=h.ex;refine(SP hf j k hK hKb ((a _ (UE hK)).trans ho)).mono ?_;rintro x w' ⟨rfl,S',l,i,c,e,d⟩;exact⟨rfl,S',⟨l,i,c,λs f=>by rw[e s f,a s f]⟩,d⟩
theorem Mc.get(h:Mc S w b g)(hf:ua B S w)(hK:K.size=32)(hKb:K3 K)(ho:g (Kl K.toList)=o):Calls oa 54 #[Qa (some ⟨b,0,none⟩),Sa (K.toList.map Kf).toArray] w λx w'=>x=na (Wa #[La (o.getD ⟨#[]⟩),Oa o.isSome,Ia ka 0])/\Ba w w':=by obtain⟨t,a,c,d⟩:=h.ex;exact kQ hf a c hK hKb ((d _ (UE hK)).trans ho)
theorem Nd.tk{t:Nd}{n:Nat}(h:t.can n):∃c,t.ph=Ky c:=by
 cases t with
 |no=>exact⟨_,Nd.zh⟩
 |leaf _ _=>exact⟨_,Nd.xi rfl⟩
 |ext _ _=>exact⟨_,Nd.xi rfl⟩
 |br _=>exact⟨_,Nd.xi rfl⟩
 |stub _=>rw[Nd.can]at h;exact h.elim
def rootOf(g:List Nat->Option Da)(D:List Nat):Prop:=∀t:Nd,t.can 64->(∀s,s.length=64->t.get s=g s)->t.ph=D
theorem Mc.root(h:Mc S w b g)(hf:ua B S w)(hT:qb w)(hM:16<=B):Calls oa 56 #[Qa (some ⟨b,0,none⟩)] w λe w'=>∃D,rootOf g D/\D.length=32/\(∀x∈D,x<256)/\e=na (Sa (D.map Kf).toArray)/\Fr B S S w w':=by
 obtain⟨t,l,a,m⟩:=h.ex;refine(yQ hf hT hM l).mono ?_;rintro e w' ⟨rfl,j⟩;refine⟨t.ph,λn f i=>?_,?_,?_,rfl,j⟩;.rw[bL 64 64 n t (Za _) f a λs k _=>(i s k).trans (m s k).symm]
 .obtain⟨c,d⟩:=Nd.tk a;rw[d];exact Bh c
 .obtain⟨c,d⟩:=Nd.tk a;rw[d];exact Lk c
theorem Mc.behind(h:Mc S w b g)(hf:ua B S w)(hb:Ba w w'):Mc S w' b g:=h.uc ((Fr.xa hf hb).x λ_=>False) λh=>h
variable{gt gu:List Nat->Option Da}
def over(l:Mp)(g:List Nat->Option Da)(s:List Nat):Option Da:=(Uz l s).or (g s)
theorem SJ(l:List Nat)(hl:l.length=32)(hb:∀x∈l,x<256)(w:Fa):(Op.equalIn 10000 39 (Sa (l.map Kf).toArray) (Sa (l.map Kf).toArray)).run oa w=.ok true w:=by
 have e:l.map Kf=(l.map UInt8.ofNat).map Extern.Stop.cell:=by rw[Xx];apply Vs;intro x b;have :=hb x b;show Value.int .u8 _=Value.int .u8 _;congr 1;simp;omega
 have a:∀w,(sizeOf 5).run oa w=.ok 1 w:=λw=>by kernel_rfl
 have h:=run_equalIn_bytes (P:=oa) w 9998 39 5 32 underlying39 underlying5 a (l.map UInt8.ofNat) (l.map UInt8.ofNat) (by simp[hl]) (by simp[hl]);rw[<-e]at h;rw[h,beq_self_eq_true]
theorem eJ(w:Fa):ua w.heap.size (λ_=>none) w:=⟨λ_ _ h=>(by cases h),λ_ _ h=>(by cases h),λ_ _ h=>(by cases h),Za _⟩
end
section
def pE(y:Ed):List Nat:=Ke y.path
def Am(l:List Ed)(s:List Nat):Option Da:=(l.find? λx=>decide (pE x=s)).map (·.val)
theorem sB(x:Ed)(l:List Ed)(s:List Nat):Am (x::l) s=if pE x=s then some x.val else Am l s:=by unfold Am;rw[List.find?_cons];by_cases h:pE x=s<;>simp[h]
variable{l:List Ed}{x:Ed}
theorem Io(hd:(l.map pE).Nodup)(hx:x∈l):Am l (pE x)=some x.val:=by
 induction l with
 |nil=>cases hx
 |cons y l ih=>
  rw[Xm,List.nodup_cons]at hd;rw[sB];rcases Yf.1 hx with rfl|hx;.rw[Zo rfl]
  .rw[Zj (λe:pE y=pE x=>hd.1 (by rw[e];exact V7 hx)),ih hd.2 hx]
variable{s:List Nat}{u:Da}
theorem Mx(h:Am l s=some u):∃x∈l,pE x=s/\x.val=u:=by
 induction l with
 |nil=>cases h
 |cons x l ih=>
  rw[sB]at h;by_cases e:pE x=s;.rw[Zo e]at h;exact⟨x,Yj ..,e,Zi h⟩
  .rw[Zj e]at h;obtain⟨y,c,a,b⟩:=ih h;exact⟨y,Yy _ c,a,b⟩
theorem Qz(h:∀x∈l,pE x≠s):Am l s=none:=by
 induction l with
 |nil=>rfl
 |cons x l ih=>rw[sB,Zj (h x (Yj ..)),ih λy a=>h y (Yy _ a)]
theorem NB(l:List Ed)(p:Da):Px l p=Am l (Ke p):=by unfold Px Am;congr 2;funext x;rw[decide_eq_decide];exact⟨λh=>by rw[pE,h],λh=>Mj h⟩
structure Sd(n:Nat)(l:List Ed):Prop where
 size:∀y∈l,y.path.size=n
 qd:∀y∈l,qd (pE y)
 dup:(l.map pE).Nodup
theorem su(p:Da)(y:Ed):pE (y.cut p)=(pE y).drop p.size:=Mi _ _
variable{n:Nat}
theorem Sd.cut(h:Sd n l)(p:Da):Sd (n-p.size) (K8 l p):=by
 refine⟨λy f=>?_,λy f=>?_,?_⟩;.obtain⟨x,d,rfl⟩:=Xd.1 f;show(x.path.extract p.size x.path.size).size=_;rw[Cf,h.size x (Xu.1 d).1]
 .obtain⟨x,d,rfl⟩:=Xd.1 f;obtain⟨c,g⟩:=Xu.1 d;rw[su];exact λz r=>h.qd x c z (Yu r)
 .unfold K8;rw[Xx];have i:=h.dup;rw[List.Nodup,List.pairwise_map]at i⊢;have q:=i.filter λx=>decide (K7 p x.path);refine List.Pairwise.imp_of_mem ?_ q;intro a b m o j e;have c:=Jx (Xu.1 m).2;have g:=Jx (Xu.1 o).2;apply j;have k:(pE a).drop p.size=(pE b).drop p.size:=by rw[<-su,<-su];exact e
  rw[<-Xc p.size (pE a),<-Xc p.size (pE b),k];congr 1;exact Eq.trans c (Eq.symm g)
theorem WH(h:Sd n l)(p:Da)(s:List Nat):Am (K8 l p) s=Am l (Ke p++s):=by
 have g:=h.cut p;cases e:Am (K8 l p) s with
 |some u=>
  obtain⟨y,j,d,f⟩:=Mx e;obtain⟨x,c,rfl⟩:=Xd.1 j;obtain⟨k,m⟩:=Xu.1 c;have b:=Jx m;rw[su]at d;have a:pE x=Ke p++s:=by rw[<-d,<-show(pE x).take p.size=Ke p from b,Xc]
  rw[<-a,Io h.dup k];exact Y5 some f.symm
 |none=>
  refine(Qz λx c a=>?_).symm;have b:K7 p x.path:=by show(pE x).take p.size=Ke p;rw[a,Jd (ta p)]
  have i:x.cut p∈K8 l p:=V7 (Xu.2 ⟨c,Z5 b⟩);have :=Io g.dup i;rw[su,a,Jc (ta p),e]at this;cases this
theorem BF(x:Ed):∀(l:List Ed) (n:Nat),∀y∈l,(pE y).take (l.foldl (λn y=>Gf ((Ke x.path).take n) (Ke y.path)) n)=(Ke x.path).take (l.foldl (λn y=>Gf ((Ke x.path).take n) (Ke y.path)) n)
 | [],_=>λy hy=>by cases hy
 |z::l,n=>λy hy=>by
  rw[X6];have hle:=DC (Ke x.path) l (Gf ((Ke x.path).take n) (Ke z.path));rcases Yf.1 hy with rfl|hy;.have h1:=kv ((Ke x.path).take n) (Ke y.path);have h2:=(Dt ((Ke x.path).take n) (Ke y.path)).1;rw[Zx]at h2;generalize l.foldl (λn y=>Gf ((Ke x.path).take n) (Ke y.path)) (Gf ((Ke x.path).take n) (Ke y.path))=k at hle⊢;generalize Gf ((Ke x.path).take n) (Ke y.path)=c at *;have h3:=Y5 (List.take k) h1;rw[Jb,Jb,Jb,Vf hle,Vf (by omega)]at h3;exact h3.symm
  .exact BF x l _ y hy
theorem BJ{y:Ed}(hy:y∈x::l):(pE y).take (Gl x l)=(pE x).take (Gl x l):=by
 rcases Yf.1 hy with rfl|hy;.rfl
 .exact BF x l _ y hy
theorem ZE(x:Ed)(k:Nat):∀(l:List Ed) (n:Nat),k<=n->k<=(Ke x.path).length->(∀y∈l,(pE y).take k=(Ke x.path).take k/\k<=(pE y).length)->k<=l.foldl (λn y=>Gf ((Ke x.path).take n) (Ke y.path)) n
 | [],_,h,_,_=>h
 |z::l,n,h,hx,hy=>by rw[X6];refine ZE x k l _ ?_ hx λy hy'=>hy y (Yy _ hy');obtain⟨h1,h2⟩:=hy z (Yj ..);apply Xn;intro hlt;have a1:=uz ((Ke x.path).take n) (Ke z.path) (by rw[Zx];omega) (by unfold pE at h2;omega);generalize Gf ((Ke x.path).take n) (Ke z.path)=c at a1 hlt;apply a1;rw[Xp (by omega),<-Xp hlt,<-h1,Xp hlt];rfl
theorem AT{k:Nat}(hx:k<=(pE x).length)(h:∀y∈l,(pE y).take k=(pE x).take k/\k<=(pE y).length):k<=Gl x l:=ZE x k l _ (by unfold pE at hx;rw[ta]at hx;exact hx) hx h
theorem MI{k:Nat}(hx:k<=(pE x).length)(h:∀y∈l,(pE y).take k=(pE x).take k/\k<=(pE y).length){y z:Ed}(hy:y∈x::l)(hz:z∈x::l)(hne:(pE y)[k]? ≠(pE z)[k]?):Gl x l=k:=by refine Nat.le_antisymm (Xn λa=>?_) (AT hx h);apply hne;have b:=BJ hy;have c:=BJ hz;rw[<-Xp a,b,<-c,Xp a]
theorem JR{ks:List Nd}(h:ks.length=16):Hv ks=((List.range 16).map λv=>(ks.getD v .no).ref).flatten:=by
 have e:ks=(List.range 16).map λv=>ks.getD v .no:=by apply List.ext_getElem (by simp[h]);intro j b c;rw[Xf,List.getElem_range,Yb,Zk b];rfl
 have g:∀(l:List Nat),Hv (l.map λv=>ks.getD v .no)=(l.map λv=>(ks.getD v .no).ref).flatten:=λl=>by
  induction l with
  |nil=>rfl
  |cons a l ih=>rw[Xm,Fu,ih];rfl
 conv=>lhs;rw[e]
 exact g _
inductive Tq (n:Nat) (x:Ed) (m:List Ed):Nd->Prop
 |leaf {p v:Da}:m=[]->pE x=Ke p->x.val=v->Tq n x m (.leaf p v)
 |ext {p:Da} {ks:List Nd}:0<p.size->p.size<n->¬m.length=0->Gl x m=p.size->x.path.extract 0 p.size=p->(Nd.br ks).can (n-p.size)->0<(K8 (x::m) p).length->(∀s,s.length=n-p.size->(Nd.br ks).get s=Am (K8 (x::m) p) s)->Tq n x m (.ext p (.br ks))
 |br {ks:List Nd}:0<n->¬m.length=0->Gl x m=0->ks.length=16->(∀v,v<16->(ks.getD v .no).can (n-(Kg [v]).size)/\∀s,s.length=n-(Kg [v]).size->(ks.getD v .no).get s=Am (K8 (x::m) (Kg [v])) s)->Tq n x m (.br ks)
theorem EE{t:Nd}{m:List Ed}(hc:t.can n)(hr:Sd n (x::m))(hg:∀s,s.length=n->t.get s=Am (x::m) s):Tq n x m t:=by
 have l:∀y∈x::m,(pE y).length=n:=λy c=>by unfold pE;rw[ta];exact hr.size y c
 have j:∀y∈x::m,t.get (pE y)=some y.val:=λy c=>by rw[hg _ (l y c)];exact Io hr.dup c
 have d:x∈x::m:=Yj ..;have r:∀s,s.length=n->t.get s≠none->∃y∈x::m,pE y=s:=λs i h=>by
  rw[hg s i]at h;cases e:Am (x::m) s with
  |none=>exact absurd e h
  |some u=>obtain⟨y,c,R,_⟩:=Mx e;exact⟨y,c,R⟩
 have E:∀{k:Nat} {y z:Ed},y∈x::m->z∈x::m->(pE y)[k]? ≠(pE z)[k]? ->¬m.length=0:=λc o f e=>by obtain rfl:m=[]:=Ye e;rw[Y8.1 c,Y8.1 o]at f;exact f rfl
 cases t with
 |no=>have :=j x d;rw[Sl]at this;cases this
 |stub g=>rw[Nd.can]at hc;exact hc.elim
 |leaf p v=>
  have D:∀y∈x::m,pE y=Ke p/\y.val=v:=λy c=>by
   have h:=j y c;rw[ni]at h;by_cases e:Ke p=pE y;.rw[Zo e]at h;exact⟨e.symm,(Zi h).symm⟩
   .rw[Zj e]at h;cases h
  have S:m=[]:=by
   cases m with
   |nil=>rfl
   |cons z m=>have O:=hr.dup;rw[Xm,List.nodup_cons]at O;exact absurd (by rw[(D x d).1,<-(D z (by simp)).1];simp) O.1
  exact .leaf S (D x d).1 (D x d).2
 |ext p t'=>
  obtain⟨F,G,N,H,Q⟩:=vc.1 hc;obtain⟨ks,rfl⟩:∃ks,t'=.br ks:=by cases t'<;>simp[Nd.Df]at Q<;>exact⟨_,rfl⟩
  have B:∀s,(Nd.ext p (.br ks)).get (Ke p++s)=(Nd.br ks).get s:=λs=>by rw[wj,Jd (ta p),Zo rfl,Jc (ta p)]
  have q:∀y∈x::m,K7 p y.path:=λy c=>by
   have h:=j y c;rw[wj]at h;by_cases e:(pE y).take p.size=Ke p;.exact e
   .rw[Zj e]at h;cases h
  obtain⟨a,b,s,M,A,_,_,i,C,_,_,K,L⟩:=yA H;obtain⟨y,c,I⟩:=r (Ke p++a::s) (by rw[Zq,ta,Zu,i];omega) (by rw[B];exact K);obtain⟨z,o,J⟩:=r (Ke p++b::M) (by rw[Zq,ta,Zu,C];omega) (by rw[B];exact L);have f:(pE y)[p.size]? ≠(pE z)[p.size]? :=by rw[I,J,Z4 (by rw[ta];omega),Z4 (by rw[ta];omega),ta,J4];simpa using A
  refine .ext F G (E c o f) (MI (by rw[l x d];omega) (λw P=>⟨Eq.trans (q w (Yy _ P)) (Eq.symm (q x d)),by rw[l w (Yy _ P)];omega⟩) c o f) (Lx (q x d)) H (List.length_pos_of_mem (V7 (Xu.2 ⟨d,Z5 (q x d)⟩))) λs i=>?_;rw[WH hr,<-hg _ (by rw[Zq,ta,i];omega),B]
 |br ks=>
  obtain⟨F,G,N,H⟩:=xd.1 hc;obtain⟨a,b,s,M,A,_,_,i,C,_,_,K,L⟩:=yA hc;obtain⟨y,c,I⟩:=r (a::s) (by rw[Zu,i];omega) K;obtain⟨z,o,J⟩:=r (b::M) (by rw[Zu,C];omega) L;have f:(pE y)[0]? ≠(pE z)[0]? :=by rw[I,J];simpa using A
  refine .br F (E c o f) (MI (Xa _) (λw _=>⟨by simp,Xa _⟩) c o f) G λv T=>⟨by rw[yr];exact km N v,λs i=>?_⟩;rw[yr]at i;rw[WH hr,lr (by omega),<-hg _ (by rw[Zq,i];simp;omega)];exact(Ml ks v s).symm
theorem Iz:∀(f n:Nat) (t:Nd) (l:List Ed),n<f->n<=64->t.can n->0<l.length->Sd n l->(∀s,s.length=n->t.get s=Am l s)->t.code=K5 f l/\t≠ .no
 |0,_,_,_,h,_,_,_,_,_=>by omega
 |f+1,n,t,l,hn,h64,hc,h0,hr,hg=>by
  obtain⟨x,m,rfl⟩:∃x m,l=x::m:=by cases l with |nil=>simp at h0|cons x m=>exact⟨x,m,rfl⟩
  cases EE hc hr hg with
  |leaf h1 h2 h3=>refine⟨?_,by simp⟩;subst h1;rw[K5,Nd.code,<-h3,<-h2];simp only[Yq,if_true];rfl
  |ext h1 h2 h3 h4 h5 h6 h7 h8=>refine⟨?_,by simp⟩;have ih:=Iz f _ _ _ (by omega) (by omega) h6 h7 (hr.cut _) h8;rw[K5,Zj h3,h4,Zo h1,h5,<-ih.1,Nd.yk];rfl
  |br h1 h2 h3 h4 h5=>
   refine⟨?_,by simp⟩;rw[K5,Zj h2,h3,Zj (by omega),Nd.code,JR h4];congr 3;refine Vs λv hv=>?_;have hv16:v<16:=by simpa using hv
   obtain⟨hcv,hgv⟩:=h5 v hv16;by_cases hz0:(K8 (x::m) (Kg [v])).length=0;.rw[Zo hz0,yn hcv λs hs _=>by rw[hgv s hs,Ye hz0,Sl];rfl];rfl
   .rw[Zj hz0];have ih:=Iz f _ _ _ (by rw[yr];omega) (by omega) hcv (by omega) (hr.cut _) hgv;rw[<-ih.1];have hst:=Oi hcv;revert ih hst;cases List.getD _ v Nd.no with
    |no=>intro ih _;exact absurd rfl ih.2
    |stub g=>intro _ hst;exact absurd rfl (hst g)
    |leaf _ _=>intro _ _;rfl
    |ext _ _=>intro _ _;rfl
    |br _=>intro _ _;rfl
theorem wM{t:Nd}(hc:t.can 64)(hr:Sd 64 l)(hg:∀s,s.length=64->t.get s=Am l s):t.ph=Hm l:=by
 unfold Hm;by_cases b:l.length=0
 .rw[Zo b];have f:=Ye b;have c:t=.no:=yn hc λs i _=>by rw[hg s i,f,Sl];rfl
  rw[c,Nd.zh];congr 1
 .rw[Zj b];obtain⟨d,e⟩:=Iz 65 64 t l (by omega) (by omega) hc (by omega) hr hg;rw[<-d];refine Nd.xi ?_;have a:=Oi hc;revert e a;cases t with
  |no=>intro h _;exact absurd rfl h
  |stub g=>intro _ a;exact absurd rfl (a g)
  |leaf _ _=>intro _ _;rfl
  |ext _ _=>intro _ _;rfl
  |br _=>intro _ _;rfl
theorem nN(u:Da)(w:Fa)(h:u.size<1\/100<u.size):Calls oa 154 #[La u] w λe w'=>e=na (Oa false)/\w'=w:=by
 by_cases a:u.size<1;.have b:u=⟨#[]⟩:=Mj (by rw[rA (by omega)];rfl);subst b;clear h a;go_enter func154,ntmps154;go_wp2;go_ret;exact⟨rfl,rfl⟩
 .have d:=lj u (by omega);have f:¬(u.size:Int)<=100:=by omega
  have c:=Zt (by omega);clear h a;go_enter func154,ntmps154;go_wp2;go_ret;exact⟨rfl,rfl⟩
variable{w:Fa}{K:Array Nat}
theorem DK{a:Addr}(sent:Nat->Addr)(hF:Qb w sent)(h:u.size<1\/100<u.size):Calls oa 101 #[Qa (some a),Sa (K.toList.map Kf).toArray,La u] w λe w'=>e=na (ca 395 (Qa (some (sent 11))))/\Ba w w':=by
 have d:=Hq (λW=>nN u W h);have b:Ba w (w.alloc (ma (K.toList.map Kf).toArray 37)):=(Zb _ _).alloc (Za _) _;have f:(w.alloc (ma (K.toList.map Kf).toArray 37)).cell? ⟨9,0,none⟩=some (ca 395 (Qa (some (sent 11)))):=(hF.below b).var 11 (by decide);clear h hF;go_enter func101,ntmps101;go_wp2_with fail
 generalize World.alloc w _=w0 at b f⊢;refine(d w0).mono ?_;rintro e g ⟨rfl,c⟩;obtain rfl:=c.symm;go_wp2;go_ret;exact⟨rfl,b⟩
theorem OQ{b:Nat}(sent:Nat->Addr)(hF:Qb w sent)(hK:K.size=32)(h:u.size<1\/100<u.size):Calls oa 50 #[Qa (some ⟨b,0,none⟩),Sa (K.toList.map Kf).toArray,La u] w λe w'=>e=na (Ia ka 11)/\Ba w w':=by
 have D:=Mb hK
 obtain⟨W0,c⟩:=nm (w.alloc (ma (K.toList.map Kf).toArray 37));have l:Ba w W0:=by rw[<-c];exact(Zb _ _).alloc (Za _) _
 have m:w.heap.size<W0.heap.size:=by rw[<-c];simp
 have i:W0.rangeAt w.heap.size 0 (K.toList.map Kf):=λj u B=>by rw[<-c,Zf,Ze];simpa using B
 have g:=l.drew;have v:=Hq (DK (a:=⟨b,0,none⟩) (K:=K) sent (hF.below g) h);have t:Hid (∀W,Ba w W->Calls oa 75 #[ca 395 (Qa (some (sent 11)))] W λe w'=>e=na (Ia ka 11)/\Ba W w'):=λW z=>lF sent (.base 11) (by show 11∈Gq;decide) W (hF.below z);have o:=Hq g;have C:=underlying37;clear hF hK h l g;go_enter func50,ntmps50;go_upto_region 1 with fail
 clear c;go_region_held3 (λw'=>w'.rangeAt w.heap.size 0 (K.toList.map Kf)) (first|exact i|exact p|exact y) (first| (go_at_call 101;refine v.mono ?_;rintro x k ⟨rfl,d⟩;have p:k.rangeAt w.heap.size 0 (K.toList.map Kf):=zc i (d.block _ m);have n:Hid (Ba w k):=o.trans (d.mono o.size);have q:w.heap.size<k.heap.size:=Zm m d.size;clear d)| (go_at_call 75;refine(t k n.o).mono ?_;rintro x r ⟨rfl,f⟩;have y:r.rangeAt w.heap.size 0 (K.toList.map Kf):=zc p (f.block _ q);have s:Hid (Ba w r):=n.trans (f.mono n.size);clear f))
 all_goals go_wp2
 all_goals go_ret
 all_goals exact⟨rfl,s.o⟩
variable{B:Nat}{S:Bb}{w':Fa}
theorem yd.Dm{fb:Nat}(h:ua B S w)(ho:Fc fb w w')(hn:S fb=none):yd B (· =fb) S S w w':=⟨ho.os,ho.tape,ho.output,ho.size,λk hk _ hx=>ho.block k hk hx,h.Cb ho.size λk t hk=>ho.block k (h.lt hk) λe=>(by rw[e,hn]at hk;cases hk),λ_ _ h=>h,λ_ _ h=>h⟩
variable{X:Nat->Prop}
theorem yd.wk{Y:Nat->Prop}{S':Bb}(h:yd B X S S' w w')(hXY:∀k,X k->Y k):yd B Y S S' w w':=⟨h.os,h.tape,h.output,h.size,λk hk hn hy=>h.other k hk hn λhx=>hy (hXY k hx),h.wa,h.sub,h.new⟩
theorem Mc.Qs{b:Nat}{g:List Nat->Option Da}(h:Mc S w b g):b<w.heap.size:=by obtain⟨t,a,_⟩:=h.ex;exact a.lt
variable{p:Da}
theorem By(hd:(l.map pE).Nodup)(y:Ed):y∈kg l (Nt l p)↔y∈l/\y.path≠p:=by
 rcases zx l p with⟨h1,h2⟩|⟨i,hi,h1,-,h3⟩;.rw[h1];refine⟨λd=>⟨d,λe=>?_⟩,λh=>h.1⟩;rw[NB]at h2;have :=Io hd (x:=y) d;rw[pE,e,h2]at this;cases this
 .rw[h1];show y∈l.eraseIdx i↔_;rw[List.mem_eraseIdx_iff_getElem];constructor
  .rintro⟨j,c,b,rfl⟩;refine⟨Zy c,λe=>b ?_⟩;have a:(l.map pE)[j]'(by simpa using c)=(l.map pE)[i]'(by simpa using hi):=by rw[Xf,Xf,pE,pE,e,h3]
   have f:=List.pairwise_iff_getElem.1 hd;rcases Nat.lt_trichotomy j i with hlt|he|hlt;.exact absurd a (f j i _ _ hlt)
   .exact he
   .exact absurd a.symm (f i j _ _ hlt)
  .rintro⟨d,b⟩;obtain⟨j,c,rfl⟩:=Xv d;exact⟨j,c,λe=>b (by subst e;exact h3),rfl⟩
theorem lu(l:List Ed)(o:Option Nat):List.Sublist (kg l o) l:=by
 cases o with
 |none=>exact List.Sublist.refl _
 |some i=>exact List.eraseIdx_sublist l i
theorem Sd.less(h:Sd n l)(o:Option Nat):Sd n (kg l o):=⟨λy hy=>h.size y ((lu l o).subset hy),λy hy=>h.qd y ((lu l o).subset hy),h.dup.sublist ((lu l o).map _)⟩
theorem tH(h:Sd n l)(p:Da)(s:List Nat):Am (kg l (Nt l p)) s=if s=Ke p then none else Am l s:=by
 by_cases e:s=Ke p;.rw[Zo e];refine Qz λx b a=>?_;have :=((By h.dup x).1 b).2;exact this (Mj (a.trans e))
 .rw[Zj e];cases hl:Am l s with
  |none=>refine Qz λx b a=>?_;have :=Io h.dup ((By h.dup x).1 b).1;rw[a,hl]at this;cases this
  |some u=>obtain⟨x,b,rfl,rfl⟩:=Mx hl;exact Io (h.less _).dup ((By h.dup x).2 ⟨b,λa=>e (by rw[pE,a])⟩)
theorem xC(h:Sd n l)(hs:p.size=n)(hn:qd (Ke p))(u:Da):Sd n (Es l p u):=by
 have d:=h.less (Nt l p);refine⟨λy c=>?_,λy c=>?_,?_⟩
 .rcases Yc.1 c with c|c;.exact d.size y c
  .rw[Y8.1 c];exact hs
 .rcases Yc.1 c with c|c;.exact d.qd y c
  .rw[Y8.1 c];exact hn
 .rw[Es,Xk];refine List.nodup_append.2 ⟨d.dup,by simp,λa g b f e=>?_⟩;obtain⟨y,c,rfl⟩:=Xd.1 g;rw[List.map_singleton,Y8]at f;have :=((By h.dup y).1 c).2;apply this;exact Mj (e.trans f)
theorem pN(h:Sd n l)(hs:p.size=n)(hn:qd (Ke p))(u:Da)(s:List Nat):Am (Es l p u) s=if s=Ke p then some u else Am l s:=by
 have c:=xC h hs hn u;by_cases e:s=Ke p;.rw[Zo e,e];exact Io c.dup (x:=Tb p u) (Vc _ (Y8.2 rfl))
 .rw[Zj e];have d:=tH h p s;rw[Zj e]at d;rw[<-d];cases hl:Am (kg l (Nt l p)) s with
  |none=>
   refine Qz λx a b=>?_;rcases Yc.1 a with a|a;.have :=Io (h.less _).dup a;rw[b,hl]at this;cases this
   .rw[Y8.1 a]at b;exact e b.symm
  |some v=>obtain⟨x,a,rfl,rfl⟩:=Mx hl;exact Io c.dup (List.mem_append_left _ a)
structure Pr(B:Nat)(S:Bb)(w:Fa)(bx bz:Nat)(v:Value)(l:List Ed):Prop where
 t:Mc S w bx (Am l)
 r:vd w B bz v l
 sz:S bz=none
 sg:∀g,v.ownBlock=some g->S g=none
 row:Sd 64 l
 ok:∀y∈l,nd 65 y
 ne:bx≠bz
 gx:∀g,v.ownBlock=some g->g≠bx/\g≠bz
 lo:B<=bx/\B<=bz
variable{bz:Nat}{v:Value}
theorem vd.uc{C:Nat}{S':Bb}(h:vd w C bz v l)(hf:yd B X S S' w w')(hz:S bz=none)(hX:¬X bz)(hg:∀g,v.ownBlock=some g->S g=none/\¬X g):vd w' C bz v l:=⟨(hf.other bz h.lt hz hX).trans h.heap,h.row.Cb hf.size λk hk e=>hf.other k hk (hg k e).1 (hg k e).2⟩
theorem Pr.uc{B:Nat}{X:Nat->Prop}{S S':Bb}{w w':Fa}{bx bz:Nat}{v:Value}{l:List Ed}(h:Pr B S w bx bz v l)(hf:yd B X S S' w w')(h1:¬X bx)(h2:¬X bz)(h3:∀g,v.ownBlock=some g->¬X g):Pr B S' w' bx bz v l:=⟨h.t.uc hf h1,h.r.uc hf h.sz h2 λg hg=>⟨h.sg g hg,h3 g hg⟩,hf.new bz h.r.lt h.sz,λg hg=>hf.new g (h.r.row.block g hg).2 (h.sg g hg),h.row,h.ok,h.ne,h.gx,h.lo⟩
variable{bx:Nat}
theorem Pr.behind(h:Pr B S w bx bz v l)(hf:ua B S w)(hb:Ba w w'):Pr B S w' bx bz v l:=h.uc ((Fr.xa hf hb).x λ_=>False) (λh=>h) (λh=>h) λ_ _ h=>h
theorem xo(hK:K.size=32)(hKb:K3 K):(Kg (Kl K.toList)).size=64/\Ke (Kg (Kl K.toList))=Kl K.toList/\qd (Ke (Kg (Kl K.toList))):=by obtain⟨a,b,c⟩:=Co hK hKb;exact⟨c,a,by rw[a];exact b⟩
theorem PQ(hp:p.size=64)(hn:qd (Ke p))(hu:u.size<=100):nd 65 (Tb p u):=⟨by show p.size<65;omega,by show p.size<=64;omega,hn,hu,rfl⟩
theorem Pr.put{S1:Bb}{w1 w2:Fa}{v':Value}(h:Pr B S w bx bz v l)(hK:K.size=32)(hKb:K3 K)(hu1:u.size<=100)(hf:yd B (· =bx) S S1 w w1)(ht:Mc S1 w1 bx (λs=>if s=Kl K.toList then some u else Am l s))(ho:Fc bz w1 w2)(hr:vd w2 w1.heap.size bz v' (Es l (Kg (Kl K.toList)) u)):Pr B S1 w2 bx bz v' (Es l (Kg (Kl K.toList)) u)/\yd B (λk=>k=bx\/k=bz) S S1 w w2:=by
 obtain⟨f,m,i⟩:=xo hK hKb;have b:=hf.new bz h.r.lt h.sz;have j:=yd.Dm hf.wa ho b;have n:=ht.Qs;have o:=Zm h.r.lt hf.size;refine⟨⟨(ht.uc j (λe=>h.ne e)).congr λs _=>?_,⟨hr.heap,Db.mono hr.row hf.wa.le⟩,b,λg c=>hf.wa.fresh (hr.row.block g c).1,xC h.row f i u,λy a=>?_,h.ne,λg c=>?_,h.lo⟩,(hf.wk λk d=>.inl d).trans (j.wk λk d=>.inr d)⟩;.rw[pN h.row f i,m]
 .rcases Yc.1 a with a|a;.exact h.ok y ((lu l _).subset a)
  .rw[Y8.1 a];exact PQ f i hu1
 .have :=(hr.row.block g c).1;exact⟨by omega,by omega⟩
theorem Pr.del{S1:Bb}{w1 w2:Fa}(h:Pr B S w bx bz v l)(hK:K.size=32)(hKb:K3 K)(hf:yd B (· =bx) S S1 w w1)(ht:Mc S1 w1 bx (λs=>if s=Kl K.toList then none else Am l s))(ho:Fc bz w1 w2)(hr:(Nt l (Kg (Kl K.toList))=none/\Ba w1 w2)\/∃i,Nt l (Kg (Kl K.toList))=some i/\∃v',vd w2 w1.heap.size bz v' (l.eraseIdx i)):∃v' l',Pr B S1 w2 bx bz v' l'/\l'.length<=l.length/\(v'=v\/∀g,v'.ownBlock=some g->w.heap.size<=g)/\yd B (λk=>k=bx\/k=bz) S S1 w w2:=by
 obtain⟨u,o,z⟩:=xo hK hKb;have c:S1 bz=none:=hf.new bz h.r.lt h.sz;have m:=yd.Dm hf.wa ho c;have p:bx<w1.heap.size:=ht.Qs;have q:bz<w1.heap.size:=Zm h.r.lt hf.size;have d:yd B (λk=>k=bx\/k=bz) S S1 w w2:=(hf.wk λk f=>.inl f).trans (m.wk λk f=>.inr f);have b:=tH h.row (Kg (Kl K.toList));rw[o]at b;rcases hr with⟨h1,h2⟩|⟨i,h1,v',h2⟩;.rw[h1]at b;have t:=(Fr.xa hf.wa h2).x (· =bx);have j:=h.r.uc hf h.sz (λe=>h.ne e.symm) λg a=>⟨h.sg g a,(h.gx g a).1⟩;exact⟨v,l,⟨(ht.behind hf.wa h2).congr λs _=>(b s).symm,j.below h2,c,λg a=>hf.new g (h.r.row.block g a).2 (h.sg g a),h.row,h.ok,h.ne,h.gx,h.lo⟩,Za _,.inl rfl,d⟩
 .rw[h1]at b;refine⟨v',l.eraseIdx i,⟨(ht.uc m (λe=>h.ne e)).congr λs _=>(b s).symm,⟨h2.heap,Db.mono h2.row hf.wa.le⟩,c,λg a=>hf.wa.fresh (h2.row.block g a).1,h.row.less (some i),λy n=>h.ok y ((lu l (some i)).subset n),h.ne,λg a=>?_,h.lo⟩,List.length_eraseIdx_le l i,.inr λg a=>Z2 hf.size (h2.row.block g a).1,d⟩;have :=(h2.row.block g a).1;exact⟨by omega,by omega⟩
theorem Pr.root(h:Pr B S w bx bz v l){D:List Nat}(hD:rootOf (Am l) D):D=Hm l:=by obtain⟨t,_,a,b⟩:=h.t.ex;rw[<-hD t a b];exact wM a h.row b
structure Uy(C:Array Value)(kind a:Int)(K:Array Nat)(s:Da):Prop where
 size:C.size=160
 k:C[0]? =some (Ia ka kind)
 a:C[1]? =some (Ia ka a)
 key:∀j (h:j<K.size),C[2+j]? =some (Kf K[j])
 s:C[67]? =some (La s)
 len:K.size=32
 bytes:K3 K
def qc(B:Nat)(S:Bb)(w:Fa)(bx bz:Nat)(v:Value)(l:List Ed)(e:Ending)(w':Fa):Prop:=e=na (Oa true)/\∃S' v' l',Pr B S' w' bx bz v' l'/\l'.length<=l.length+1/\(v'=v\/∀g,v'.ownBlock=some g->w.heap.size<=g)/\yd B (λk=>k=bx\/k=bz) S S' w w'
theorem qc.same(h:Pr B S w bx bz v l)(hf:ua B S w)(hb:Ba w w'):qc B S w bx bz v l (na (Oa true)) w':=⟨rfl,S,v,l,h.behind hf hb,by omega,.inl rfl,(Fr.xa hf hb).x _⟩
theorem uS(l:List Ed)(p u:Da):(Es l p u).length<=l.length+1:=by have :=MB l (Nt l p);rw[Es,Zq];simp;omega
variable{Cs:Array Value}{a:Int}
theorem LU(sent:Nat->Addr)(h:Pr B S w bx bz v l)(hf:ua B S w)(hF:Qb w sent)(hl:l.length<=2097151)(ho:Uy Cs 12 a K u):Calls oa 16 #[Sa Cs,Qa (some ⟨bx,0,none⟩),Qa (some ⟨bz,0,none⟩)] w (qc B S w bx bz v l):=by
 obtain⟨W0,d⟩:=nm (w.alloc (ma Cs 50));have f:Ba w W0:=by rw[<-d];exact(Zb _ _).alloc (Za _) _
 have G:w.heap.size<W0.heap.size:=by rw[<-d];simp
 have k0:W0.cell? ⟨w.heap.size,0,none⟩=some (Ia ka 12):=by rw[<-d,Ze];exact ho.k
 have O:W0.cell? ⟨w.heap.size,67,none⟩=some (La u):=by rw[<-d,Ze];exact ho.s
 have c:W0.rangeAt w.heap.size 2 (K.toList.map Kf):=λj x J=>by
  rw[<-d,Ze];have hj:j<K.size:=by have :=(Zw.1 J).1;simpa using this
  rw[ho.key j hj];rw[Yt,Zk (by simpa using hj)]at J;simpa using J
 have P:=Mb ho.len
 have y:=(Fr.xa hf f).wa;have L:=h.behind hf f;have E:=ho.len;have p:=ho.bytes;have ac:S w.heap.size=none:=hf.fresh (Za _);have ae:¬w.heap.size=bx:=by have :=h.t.Qs;omega
 have ah:¬w.heap.size=bz:=by have :=h.r.lt;omega
 have m:Hid (Pr B S W0 bx bz v l/\ua B S W0/\yd B (λk=>k=bx\/k=bz) S S w W0):=⟨L,y,(Fr.xa hf f).x _⟩;by_cases N:u.size<1\/100<u.size
 .have X:=Hq (OQ (b:=bx) (K:=K) sent (hF.below f) E N);have Y:=Hq (λW=>aO (w:=W) (b:=bz) (K:=K) N);have V:Hid (∀W,Ba W0 W->qc B S w bx bz v l (na (Oa true)) W):=λW hW=>qc.same h hf (f.trans (hW.mono f.size));clear h hf hF hl ho y L E p N;go_enter func16,ntmps16;go_wp2_with (refine Zr rfl 37 _ rfl w.heap.size 2 rfl (K.toList.map Kf) _ c underlying37 rfl P ?_)
  refine X.mono ?_;rintro e D ⟨rfl,q⟩;have i:D.rangeAt w.heap.size 2 (K.toList.map Kf):=zc c (q.block _ G);have ag:=(Zc (a:=⟨w.heap.size,67,none⟩) (q.block _ G)).trans O;have C:=Hq q;clear q c O k0 d;go_wp2_with (refine Zr rfl 37 _ rfl w.heap.size 2 rfl (K.toList.map Kf) _ i underlying37 rfl P ?_)
  refine(Y D).mono ?_;rintro e w2 ⟨rfl,Q⟩;have H2:Hid (Ba W0 w2):=C.trans (Q.mono C.size);clear Q;go_wp2;go_ret;exact V _ H2.o
 .have H:0<u.size:=by omega
  have I:u.size<=100:=by omega
  have X:=Hq (L.t.put y E p H I);have n:Hid (K.size=32/\K3 K/\0<u.size/\u.size<=100/\l.length<=2097151):=⟨E,p,H,I,hl⟩;clear h hf hF hl ho y L E p N H I;go_enter func16,ntmps16;go_wp2_with (refine Zr rfl 37 _ rfl w.heap.size 2 rfl (K.toList.map Kf) _ c underlying37 rfl P ?_)
  refine X.mono ?_;rintro e D ⟨rfl,Z,U,z⟩;have e1:=z.other w.heap.size G ac ae;have i:D.rangeAt w.heap.size 2 (K.toList.map Kf):=zc c e1;have ag:=(Zc (a:=⟨w.heap.size,67,none⟩) e1).trans O;have T:=m.1.r.uc z m.1.sz (λe=>m.1.ne e.symm) λg M=>⟨m.1.sg g M,(m.1.gx g M).1⟩;have Y:=Hq (qO T n.2.2.2.2 (λx J=>(m.1.ok x J).plain) n.1 n.2.1 n.2.2.1 n.2.2.2.1);have C:Hid (Mc Z D bx (λs=>if s=Kl K.toList then some u else Am l s)/\yd B (· =bx) S Z W0 D):=⟨U,z⟩;clear c O k0 d T e1 U z;go_wp2_with (refine Zr rfl 37 _ rfl w.heap.size 2 rfl (K.toList.map Kf) _ i underlying37 rfl P ?_)
  refine Y.mono ?_;rintro e w2 ⟨rfl,R,v2,F⟩;have o:=m.1.put n.1 n.2.1 n.2.2.2.1 C.2 C.1 R F;have V:Hid (qc B S w bx bz v l (na (Oa true)) w2):=⟨rfl,Z,v2,_,o.1,uS _ _ _,.inr λg M=>by have h1:=(F.row.block g M).1;have h2:=C.2.size;omega,m.2.2.trans o.2⟩;clear R F o;go_wp2;go_ret;exact V.o
theorem QR(h:Pr B S w bx bz v l)(hf:ua B S w)(hl:l.length<=2097151)(ho:Uy Cs 13 a K u):Calls oa 16 #[Sa Cs,Qa (some ⟨bx,0,none⟩),Qa (some ⟨bz,0,none⟩)] w (qc B S w bx bz v l):=by
 obtain⟨W0,c⟩:=nm (w.alloc (ma Cs 50));have n:Ba w W0:=by rw[<-c];exact(Zb _ _).alloc (Za _) _
 have ac:w.heap.size<W0.heap.size:=by rw[<-c];simp
 have k0:W0.cell? ⟨w.heap.size,0,none⟩=some (Ia ka 13):=by rw[<-c,Ze];exact ho.k
 have d:W0.rangeAt w.heap.size 2 (K.toList.map Kf):=λj x P=>by
  rw[<-c,Ze];have Y:j<K.size:=by have :=(Zw.1 P).1;simpa using this
  rw[ho.key j Y];rw[Yt,Zk (by simpa using Y)]at P;simpa using P
 have zK:=Mb ho.len
 have p:=(Fr.xa hf n).wa;have N:=h.behind hf n;have y:=ho.len;have f:=ho.bytes;have W:S w.heap.size=none:=hf.fresh (Za _);have X:¬w.heap.size=bx:=by have :=h.t.Qs;omega
 have ae:¬w.heap.size=bz:=by have :=h.r.lt;omega
 have b:Hid (Pr B S W0 bx bz v l/\ua B S W0/\yd B (λk=>k=bx\/k=bz) S S w W0):=⟨N,p,(Fr.xa hf n).x _⟩;have E:=xo y f;have HP:=Hq (N.t.del p y f (o:=Am l (Kl K.toList)) rfl);have q:Px l (Kg (Kl K.toList))=Am l (Kl K.toList):=by rw[NB,E.2.1]
 have m:Hid (K.size=32/\K3 K/\l.length<=2097152/\Px l (Kg (Kl K.toList))=Am l (Kl K.toList)):=⟨y,f,by omega,q⟩;clear h hf hl ho p N y f E q;go_enter func16,ntmps16;go_wp2_with (refine Zr rfl 37 _ rfl w.heap.size 2 rfl (K.toList.map Kf) _ d underlying37 rfl zK ?_)
 refine HP.mono ?_;rintro e Q ⟨rfl,M,J,i⟩;have V:=i.other w.heap.size ac W X;have C:Q.rangeAt w.heap.size 2 (K.toList.map Kf):=zc d V;have H:=b.1.r.uc i b.1.sz (λe=>b.1.ne e.symm) λg z=>⟨b.1.sg g z,(b.1.gx g z).1⟩;have O:=QT H m.2.2.1 b.1.ok m.1 m.2.1;rw[m.2.2.2]at O;have U:=Hq O;have R:Hid (Mc M Q bx (λs=>if s=Kl K.toList then none else Am l s)/\yd B (· =bx) S M W0 Q):=⟨J,i⟩;generalize (Am l (Kl K.toList)).isSome=ob at U⊢;clear d k0 c H V J i O;go_wp2_with (refine Zr rfl 37 _ rfl w.heap.size 2 rfl (K.toList.map Kf) _ C underlying37 rfl zK ?_)
 refine U.mono ?_;rintro e w2 ⟨rfl,F,I⟩;obtain⟨v2,l2,G,Z,L,D⟩:=b.1.del m.1 m.2.1 R.2 R.1 F I;have T:Hid (qc B S w bx bz v l (na (Oa true)) w2):=⟨rfl,M,v2,l2,G,by omega,L.imp id λh g z=>by have :=h g z;omega,b.2.2.trans D⟩;clear F I G Z L D;cases ob;.go_wp2;go_ret;exact T.o
 .go_wp2;go_ret;exact T.o
theorem dP(h:Pr B S w bx bz v l)(hf:ua B S w)(hl:l.length<=2097151)(ho:Uy Cs 14 a K u):Calls oa 16 #[Sa Cs,Qa (some ⟨bx,0,none⟩),Qa (some ⟨bz,0,none⟩)] w (qc B S w bx bz v l):=by
 obtain⟨W0,b⟩:=nm (w.alloc (ma Cs 50));have c:Ba w W0:=by rw[<-b];exact(Zb _ _).alloc (Za _) _
 have L:w.heap.size<W0.heap.size:=by rw[<-b];simp
 have O:W0.cell? ⟨w.heap.size,0,none⟩=some (Ia ka 14):=by rw[<-b,Ze];exact ho.k
 have d:W0.rangeAt w.heap.size 2 (K.toList.map Kf):=λj x p=>by
  rw[<-b,Ze];have I:j<K.size:=by have :=(Zw.1 p).1;simpa using this
  rw[ho.key j I];rw[Yt,Zk (by simpa using I)]at p;simpa using p
 have N:=Mb ho.len
 have m:=(Fr.xa hf c).wa;have g:=h.behind hf c;have q:=ho.len;have f:=ho.bytes;have R:S w.heap.size=none:=hf.fresh (Za _);have T:¬w.heap.size=bx:=by have :=h.t.Qs;omega
 have U:¬w.heap.size=bz:=by have :=h.r.lt;omega
 have V:Hid (Pr B S W0 bx bz v l/\ua B S W0/\yd B (λk=>k=bx\/k=bz) S S w W0):=⟨g,m,(Fr.xa hf c).x _⟩;have z:=xo q f;have D:=Hq (g.t.get m q f (o:=Am l (Kl K.toList)) rfl);have n:Px l (Kg (Kl K.toList))=Am l (Kl K.toList):=by rw[NB,z.2.1]
 have E:Hid (∀W,Ba W0 W->Calls oa 55 #[Qa (some ⟨bz,0,none⟩),Sa (K.toList.map Kf).toArray] W λe P=>e=na (Wa #[La ((Am l (Kl K.toList)).getD ⟨#[]⟩),Oa (Am l (Kl K.toList)).isSome,Ia ka 0])/\Ba W P):=λW F=>by have J:=BU (g.r.below F) (by omega) (λx p=>(g.ok x p).plain) q f;rw[n]at J;exact J
 have H:Hid (∀W,Ba W0 W->qc B S w bx bz v l (na (Oa true)) W):=λW F=>qc.same h hf (c.trans (F.mono c.size));generalize (Am l (Kl K.toList)).isSome=ob at D E⊢;generalize (Am l (Kl K.toList)).getD ⟨#[]⟩=ou at D E⊢;clear h hf hl ho m g q f z n;go_enter func16,ntmps16;go_wp2_with (refine Zr rfl 37 _ rfl w.heap.size 2 rfl (K.toList.map Kf) _ d underlying37 rfl N ?_)
 refine D.mono ?_;rintro e M ⟨rfl,i⟩;have s:M.rangeAt w.heap.size 2 (K.toList.map Kf):=zc d (i.block _ L);have C:=Hq i;clear i d O b;go_wp2_with (refine Zr rfl 37 _ rfl w.heap.size 2 rfl (K.toList.map Kf) _ s underlying37 rfl N ?_)
 refine(E M C.o).mono ?_;rintro e Q ⟨rfl,y⟩;have G:Hid (Ba W0 Q):=C.trans (y.mono C.size);clear y;cases ob;.go_wp2;go_ret;exact H _ G.o
 .go_wp2;go_ret;exact H _ G.o
theorem ZF(h:Pr B S w bx bz v l)(hf:ua B S w)(hl:l.length<=2097151)(hT:qb w)(hM:16<=B)(hk:Cs[0]? =some (Ia ka 15)):Calls oa 16 #[Sa Cs,Qa (some ⟨bx,0,none⟩),Qa (some ⟨bz,0,none⟩)] w (qc B S w bx bz v l):=by
 obtain⟨W0,n⟩:=nm (w.alloc (ma Cs 50));have c:Ba w W0:=by rw[<-n];exact(Zb _ _).alloc (Za _) _
 have k0:W0.cell? ⟨w.heap.size,0,none⟩=some (Ia ka 15):=by rw[<-n,Ze];exact hk
 have H:=(Fr.xa hf c).wa;have k:=h.behind hf c;have G:=Z2 hM hf.le;have HP:=Hq (k.t.root H (hT.below c G) hM);have U:Hid (∀W,Fr B S S W0 W->∀a,Ba W a->Calls oa 19 #[Qa (some ⟨bz,0,none⟩)] a λe w'=>e=na (Sa ((Hm l).map Kf).toArray)/\Ba a w'):=λW d a g=>FE (((k.uc (d.x λ_=>False) (λh=>h) (λh=>h) λ_ _ h=>h).behind d.wa g).r) (by omega) k.ok;have HE:Hid (∀W,Fr B S S W0 W->∀a,Ba W a->qc B S w bx bz v l (na (Oa true)) a):=λW d a g=>⟨rfl,S,v,l,(k.uc (d.x λ_=>False) (λh=>h) (λh=>h) λ_ _ h=>h).behind d.wa g,by omega,.inl rfl,(((Fr.xa hf c).x _).trans (d.x _)).trans ((Fr.xa d.wa g).x _)⟩;have V:Hid (∀D,rootOf (Am l) D->D=Hm l):=λD hD=>h.root hD;have f:=eA l;have m:=kG l;generalize Hm l=D at U V f m;have E:=Hq (A2 f m);clear h hf hl hT hM hk H k G m;go_enter func16,ntmps16;go_wp2_with fail
 refine HP.mono ?_;rintro e s ⟨b,F,-,-,rfl,I⟩;obtain rfl:=V b F;obtain⟨N,Q,Z,J,j,C,q⟩:=GI s b.toArray (by simpa using f);simp only[]at N Q Z J j C q;have T:=Hq I;clear F I k0 n c;go_wp2_with (refine Zs rfl 39 _ _ rfl s.heap.size 0 (b.map Kf).toArray rfl rfl N Q J ?_;rw[Jz];generalize World.setCells _ _ _ _=w2 at j C q⊢;clear N Q J)
 refine(U s T w2 j).mono ?_;rintro e P ⟨rfl,i⟩;have X:=zc C (i.block _ q);have o:=j.trans (i.mono j.size);obtain⟨O,R,u,K,z,L,Y⟩:=GI P b.toArray (by simpa using f);simp only[]at O R u K z L Y;have p:=Zm q i.size;have y:=Hq (A3 o p X);have ac:=SJ b E.1 E.2;clear i o C j q X p;go_wp2_with (first| (refine Zs rfl 39 _ _ rfl P.heap.size 0 (b.map Kf).toArray rfl rfl O R K ?_;rw[Jz];generalize World.setCells _ _ _ _=w4 at z L Y⊢;clear O R K;have r5:=zc y.2.2 (z.block _ y.2.1))| (refine Zr rfl 39 _ rfl s.heap.size 0 rfl (b.map Kf) _ r5 underlying39 rfl u ?_)| (refine Zr rfl 39 _ rfl P.heap.size 0 rfl (b.map Kf) _ L underlying39 rfl u ?_))
 go_ret;exact HE s T _ (y.1.trans (z.mono y.1.size))
end
end Go.Proofs.YtpfbdlnibdfcoaaGreatDoor
