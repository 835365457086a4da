import Derived.Test.YtpfbdlnibdfcoaaGreatDoorPvRefCode5
namespace Go.Proofs.YtpfbdlnibdfcoaaGreatDoor
open Go.RowKit Tryz
open Value renaming int->Ia,string->La,slice->Ma,bool->Oa,pointer->Qa,agg->Sa,tuple->Wa,iface->ca,nilIface->da
open IntKind renaming i64->ka
open Obj renaming cells->ma
open Ending renaming returned->na
open Tryz renaming prog->oa
set_option maxRecDepth 100000
set_option maxHeartbeats 0
section
variable{l:List Nat}{at_:Nat}
theorem KF(hb:∀x∈l,x<256){end_:Nat}(he:end_<=l.length):(Ak l at_ end_).1.2.2<=9/\((Ak l at_ end_).2=0->at_+(Ak l at_ end_).1.2.2<=end_):=by
 unfold Ak;by_cases a:end_<=at_;.rw[Zo a];exact⟨by simp,λh=>by simp at h⟩
 .rw[Zj a];have d:l[at_]! <256:=by rw[Z9 l at_ (by omega)];exact hb _ (Zy _)
  by_cases b:l[at_]! <128;.rw[Zo b];exact⟨by simp,λ_=>by simp only;omega⟩
  .rw[Zj b];have c:l[at_]! -(if 192<=l[at_]! then 192 else 128)<=63:=by split<;>omega
   generalize l[at_]! -(if 192<=l[at_]! then 192 else 128)=k at c⊢;split;.exact⟨by simp,λ_=>by simp only;omega⟩
   .split;.exact⟨by simp only;omega,λh=>by simp at h⟩
    .split;.exact⟨by simp only;omega,λh=>by simp at h⟩
     .exact⟨by simp only;omega,λ_=>by simp only;omega⟩
theorem Qm(a b:Nat)(h:a+b<=4294967296):wrap64 ((a:Int)+(b:Int))=((a+b:Nat):Int):=by unfold wrap64;omega
theorem Lz(a b:Nat)(h:a+b<=4294967296):IntKind.i64.wrap ((a:Int)+(b:Int))=((a+b:Nat):Int):=(Ci _ (by omega) (by omega)).trans (by omega)
theorem rp(a b:Nat)(h:b<=a)(h2:a<=4294967296):wrap64 ((a:Int)-(b:Int))=((a-b:Nat):Int):=by unfold wrap64;omega
variable{d:Nat}
theorem Sg.Ii{E:Nat}{W:Fa}(hr:Kx d l at_=.error (.place at_ (.base E)))(hE:0<E){e:Ending}{w':Fa}(h:Hp (Wa #[Hb,Ki E 0 0 at_]) W e w'):Sg d l at_ W e w':=by
 obtain⟨rfl,b⟩:=h;refine⟨b,λc a=>?_,λx a=>?_⟩;.rw[hr]at a;cases a;exact⟨hE,rfl⟩
 .rw[hr]at a;cases a
theorem nt{E:Nat}(h:Ny (l.drop at_)=.error E):Kx d l at_=.error (.place at_ (.base E)):=by
 cases d with
 |zero=>rw[Kx,h]
 |succ d=>rw[Kx,h]
theorem zC{a b:Nat}(h:Ny (l.drop at_)=.ok (false,a,b)):Kx d l at_=.ok (.text at_ (at_+a+b) ((l.drop (at_+a)).take b)):=by
 cases d with
 |zero=>rw[Kx,h];rfl
 |succ d=>rw[Kx,h];rfl
theorem yM:∀(d deep:Nat) (s:Da) (at_ end_:Nat) (w:Fa),deep+d=6->s.size<=2048->end_<=s.size->at_<=end_->Calls oa 129 #[La s,Ia ka (at_:Int),Ia ka (end_:Int),Ia ka (deep:Int)] w (Sg d ((Ke s).take end_) at_ w):=by
 intro d;induction d with
 |zero=>
  intro deep s at_ end_ w K L I U;obtain rfl:deep=6:=by omega
  have J:=ta s;obtain⟨F,i⟩:=KF (sh s) (at_:=at_) (end_:=end_) (by omega);have j:=λW=>VF s at_ end_ W I (by omega);have f:=vH (sh s) (at_:=at_) (end_:=end_) (by omega) (by omega);obtain⟨⟨⟨l,N,Z⟩,E⟩,B⟩:=nm (Ak (Ke s) at_ end_);have c:=ko B;unfold Pn at j;rw[B]at j F i f;simp only at j F i f;obtain⟨R,z⟩:=nm (Eu (Ke s) at_ end_);rw[z]at c f;by_cases v:E=0
  .subst v;have i:=i rfl;rw[Zj (by omega)]at c;by_cases t:end_-(at_+Z)<N;.rw[Zo t]at c;subst c;rw[Zj (by omega)]at f;exact(TF s at_ end_ 6 w l N Z (at_+Z) (end_-(at_+Z)) (Qm _ _ (by omega)) (rp _ _ (by omega) (by omega)) (by omega) j).mono λe w' h=>Sg.Ii (nt f) (by omega) h
   .rw[Zj t]at c;cases l with
    |true=>rw[Zj (by simp)]at c;subst c;rw[Zo rfl]at f;refine(wQ s at_ end_ 6 w N Z (at_+Z) (end_-(at_+Z)) (Qm _ _ (by omega)) (rp _ _ (by omega) (by omega)) (by omega) (by omega) j).mono λe w' h=>Sg.Ii (d:=0) ?_ (by omega) h;rw[Kx,f];rfl
    |false=>
     have hcut:Ke (s.extract (at_+Z) (at_+Z+N))=((Ke s).drop (at_+Z)).take N:=by rw[Ok];congr 1;omega
     have n:Ke (s.extract at_ (at_+Z+N))=((Ke s).drop at_).take (Z+N):=by rw[Ok];congr 1;omega
     have y:∀W,Calls oa 88 #[La (s.extract (at_+Z) (at_+Z+N))] W λe w'=>e=na (La (Kg (Kh (((Ke s).drop (at_+Z)).take N))))/\Ba W w':=λW=>by have :=Sr (s.extract (at_+Z) (at_+Z+N)) W (by rw[Qt _ _ _ (by omega)];omega);rw[hcut]at this;exact this
     have u:∀b∈Kh (((Ke s).drop (at_+Z)).take N),b<256:=by
      intro b g;unfold Kh at g;rcases Yc.1 g with g|g
      .split at g;.cases g
       .exact kt _ _ b g
      .exact sh s b (Yu (Y4 g))
     by_cases o:Kh (((Ke s).drop (at_+Z)).take N)=((Ke s).drop at_).take (Z+N)
     .rw[Zj (by simp[o])]at c;subst c;rw[Zo rfl]at f;have D:Kg (Kh (((Ke s).drop (at_+Z)).take N))=s.extract at_ (at_+Z+N):=Mj (by rw[qg u,n,o]);refine(dI s at_ end_ 6 w N Z (at_+Z) (end_-(at_+Z)) (at_+Z+N) (Qm _ _ (by omega)) (rp _ _ (by omega) (by omega)) (by omega) _ _ _ (Lz _ _ (by omega)) ⟨by omega,by omega,by omega⟩ rfl rfl (by rw[D];exact beq_self_eq_true _) (Qm _ _ (by omega)) j y).mono λe w' h=>?_;obtain⟨rfl,g⟩:=h;have q:=zC (d:=0) f;refine⟨g,λH a=>?_,λx a=>?_⟩;.rw[q]at a;cases a
      .rw[q]at a;cases a;refine⟨false,_,none,0,0,Tree.text ⟨⟨rfl,rfl⟩,?_⟩ 0,rfl⟩;show It.text _ _ _=It.text _ _ (Ke (s.extract (at_+Z) (at_+Z+N)));rw[hcut,List.drop_take,Jb,Vf (by omega)];rfl
     .rw[Zo ⟨rfl,o⟩]at c;subst c;rw[Zj (by omega)]at f;refine(mH s at_ end_ 6 w N Z (at_+Z) (end_-(at_+Z)) (at_+Z+N) (Qm _ _ (by omega)) (rp _ _ (by omega) (by omega)) (by omega) _ _ _ (Lz _ _ (by omega)) ⟨by omega,by omega,by omega⟩ rfl rfl (js λe=>o ?_) j y).mono λe w' h=>Sg.Ii (nt f) (by omega) h;rw[<-n,<-e,qg u]
  .rw[Zo v]at c;subst c;rw[Zj v]at f;exact(MH s at_ end_ 6 w l N Z R (by omega) j).mono λe w' h=>Sg.Ii (nt f) (by omega) h
 |succ d ih=>
  intro deep s at_ end_ w K L I U;have J:=ta s;obtain⟨F,i⟩:=KF (sh s) (at_:=at_) (end_:=end_) (by omega);have j:=λW=>VF s at_ end_ W I (by omega);have f:=vH (sh s) (at_:=at_) (end_:=end_) (by omega) (by omega);obtain⟨⟨⟨l,N,Z⟩,E⟩,B⟩:=nm (Ak (Ke s) at_ end_);have c:=ko B;unfold Pn at j;rw[B]at j F i f;simp only at j F i f;obtain⟨R,z⟩:=nm (Eu (Ke s) at_ end_);rw[z]at c f;by_cases v:E=0
  .subst v;have i:=i rfl;rw[Zj (by omega)]at c;by_cases t:end_-(at_+Z)<N;.rw[Zo t]at c;subst c;rw[Zj (by omega)]at f;exact(TF s at_ end_ deep w l N Z (at_+Z) (end_-(at_+Z)) (Qm _ _ (by omega)) (rp _ _ (by omega) (by omega)) (by omega) j).mono λe w' h=>Sg.Ii (nt f) (by omega) h
   .rw[Zj t]at c;cases l with
    |true=>
     rw[Zj (by simp)]at c;subst c;rw[Zo rfl]at f;have G:=Qt s 0 (at_+Z+N) (by omega);have C:Ke (s.extract 0 (at_+Z+N))=(Ke s).take (at_+Z+N):=by rw[Ok,Yx,Ka]
     have q:∀r,Nr d (s.extract 0 (at_+Z+N)) (at_+Z)=r->Kx (d+1) ((Ke s).take end_) at_=(match r with | .error e=>.error e| .ok its=>.ok (.list at_ (at_+Z+N) its)):=by intro r h;unfold Nr at h;rw[C,G,Ka,show at_+Z+N-(at_+Z)=N by omega]at h;rw[Kx,f];simp only[if_true];rw[Jb,Vf (by omega),h];cases r<;>rfl
     refine(kN d s at_ end_ deep w N Z (at_+Z) (end_-(at_+Z)) (at_+Z+N) (s.extract 0 (at_+Z+N)) (by rw[G];omega) (by omega) (by omega) (Qm _ _ (by omega)) (rp _ _ (by omega) (by omega)) (by omega) (by omega) (Qm _ _ (by omega)) j (λW x Y V=>?_)).mono ?_;.rw[C];exact ih (deep+1) s x (at_+Z+N) W (by omega) L (by omega) V
     .rintro e w' ⟨g,S,T⟩;refine⟨g,λH a=>?_,λx a=>?_⟩
      .cases hi:Nr d (s.extract 0 (at_+Z+N)) (at_+Z)with
       |error er2=>have :=q _ hi;simp only at this;rw[this]at a;cases a;exact S H hi
       |ok its=>have :=q _ hi;simp only at this;rw[this]at a;cases a
      .cases hi:Nr d (s.extract 0 (at_+Z+N)) (at_+Z)with
       |error er2=>have :=q _ hi;simp only at this;rw[this]at a;cases a
       |ok its=>have :=q _ hi;simp only at this;rw[this]at a;cases a;obtain⟨p,m,k,X,M,O,P,Q⟩:=T its hi;exact⟨true,_,p,m,k,.inr ⟨rfl,X,M,O,rfl,by rw[P];rfl⟩,Q⟩
    |false=>
     have hcut:Ke (s.extract (at_+Z) (at_+Z+N))=((Ke s).drop (at_+Z)).take N:=by rw[Ok];congr 1;omega
     have n:Ke (s.extract at_ (at_+Z+N))=((Ke s).drop at_).take (Z+N):=by rw[Ok];congr 1;omega
     have y:∀W,Calls oa 88 #[La (s.extract (at_+Z) (at_+Z+N))] W λe w'=>e=na (La (Kg (Kh (((Ke s).drop (at_+Z)).take N))))/\Ba W w':=λW=>by have :=Sr (s.extract (at_+Z) (at_+Z+N)) W (by rw[Qt _ _ _ (by omega)];omega);rw[hcut]at this;exact this
     have u:∀b∈Kh (((Ke s).drop (at_+Z)).take N),b<256:=by
      intro b g;unfold Kh at g;rcases Yc.1 g with g|g
      .split at g;.cases g
       .exact kt _ _ b g
      .exact sh s b (Yu (Y4 g))
     by_cases o:Kh (((Ke s).drop (at_+Z)).take N)=((Ke s).drop at_).take (Z+N)
     .rw[Zj (by simp[o])]at c;subst c;rw[Zo rfl]at f;have D:Kg (Kh (((Ke s).drop (at_+Z)).take N))=s.extract at_ (at_+Z+N):=Mj (by rw[qg u,n,o]);refine(dI s at_ end_ deep w N Z (at_+Z) (end_-(at_+Z)) (at_+Z+N) (Qm _ _ (by omega)) (rp _ _ (by omega) (by omega)) (by omega) _ _ _ (Lz _ _ (by omega)) ⟨by omega,by omega,by omega⟩ rfl rfl (by rw[D];exact beq_self_eq_true _) (Qm _ _ (by omega)) j y).mono λe w' h=>?_;obtain⟨rfl,g⟩:=h;have q:=zC (d:=d+1) f;refine⟨g,λH a=>?_,λx a=>?_⟩;.rw[q]at a;cases a
      .rw[q]at a;cases a;refine⟨false,_,none,0,0,Tree.text ⟨⟨rfl,rfl⟩,?_⟩ (d+1),rfl⟩;show It.text _ _ _=It.text _ _ (Ke (s.extract (at_+Z) (at_+Z+N)));rw[hcut,List.drop_take,Jb,Vf (by omega)];rfl
     .rw[Zo ⟨rfl,o⟩]at c;subst c;rw[Zj (by omega)]at f;refine(mH s at_ end_ deep w N Z (at_+Z) (end_-(at_+Z)) (at_+Z+N) (Qm _ _ (by omega)) (rp _ _ (by omega) (by omega)) (by omega) _ _ _ (Lz _ _ (by omega)) ⟨by omega,by omega,by omega⟩ rfl rfl (js λe=>o ?_) j y).mono λe w' h=>Sg.Ii (nt f) (by omega) h;rw[<-n,<-e,qg u]
  .rw[Zo v]at c;subst c;rw[Zj v]at f;exact(MH s at_ end_ deep w l N Z R (by omega) j).mono λe w' h=>Sg.Ii (nt f) (by omega) h
def Tc(s:Da)(w:Fa)(e:Ending)(w':Fa):Prop:=Ba w w'/\(∀er,Gb (Ke s)=.error er->0<er.num/\e=na (Wa #[Hb,Ki er.num 0 0 er.at_]))/\
  ∀x,Gb (Ke s)=.ok x->∃(b:Bool) (tx:Da) (p:Option Addr) (m c:Nat),Tree Ni kP 6 w' (λk=>w.heap.size<=k) ⟨0,x.ra,b,tx,Ma p m c⟩ x/\e=na (Wa #[Aa ⟨0,x.ra,b,tx,Ma p m c⟩,Ki 0 0 0 0])
theorem Lw(s:Da)(w:Fa):Calls oa 79 #[La s] w (Tc s w):=by
 have t:=ta s;by_cases r:2048<s.size
 .have V:(2048:Int)<(s.size:Int):=by omega
  have A:Aside (Gb (Ke s)=.error (.base 1)):=(by unfold Gb;rw[Zo (by omega)]:Gb (Ke s)=.error (.base 1));clear r t;go_enter func79,ntmps79;go_wp2;refine Zv (v:=Wa #[Hb,Ki 1 0 0 0]) (by simp[results,results79,go_sem]) rfl ⟨?_,λE a=>?_,λx a=>?_⟩;.exact((Zb _ _).alloc (Za _) _).alloc (by simp) _
  .rw[A.o]at a;cases a;exact⟨by decide,rfl⟩
  .rw[A.o]at a;cases a
 .have V:(s.size:Int)<=2048:=by omega
  have C:Hid (∀W,Calls oa 129 #[La s,Ia ka 0,Ia ka (s.size:Int),Ia ka 0] W (Sg 6 (Ke s) 0 W)):=λW=>by have :=yM 6 0 s 0 s.size W (by omega) (by omega) (Za _) (by omega);rw[Zz (by omega)]at this;exact this
  have b:Gb (Ke s)=match Kx 6 (Ke s) 0 with | .error e=>.error e| .ok x=>if x.ra<s.size then .error (.place x.ra (.base 4))else .ok x:=by unfold Gb;rw[Zj (by omega),t];cases Kx 6 (Ke s) 0<;>rfl
  clear r t;go_enter func79,ntmps79;go_wp2_with fail
  refine(C _).mono ?_;rintro e q ⟨d,i,j⟩;have o:=d.size;simp only[Yz]at o;have g:=((Lb.fresh w [Oa false,La ⟨#[]⟩,Ma none 0 0,Ia ka 0,Ia ka 0] 152).alloc (ma #[Ia ka 0,Ia ka 0,Ia ka 0,Ia ka 0] 91)).below d;have h:=(Lb.fresh (w.alloc (ma #[Oa false,La ⟨#[]⟩,Ma none 0 0,Ia ka 0,Ia ka 0] 152)) [Ia ka 0,Ia ka 0,Ia ka 0,Ia ka 0] 91).below d;rw[Yz]at h;have H:Aside (Ba w q):=Below.behind (((Zb _ _).alloc (Za _) _).alloc (by simp) _) d;have S:=g.1;have T:=h.1;obtain⟨I,f0⟩:=g.2 0 _ rfl;obtain⟨J,f1⟩:=g.2 1 _ rfl;obtain⟨K,f2⟩:=g.2 2 _ rfl;obtain⟨L,f3⟩:=g.2 3 _ rfl;obtain⟨M,f4⟩:=g.2 4 _ rfl;obtain⟨N,g0⟩:=h.2 0 _ rfl;obtain⟨O,g1⟩:=h.2 1 _ rfl;obtain⟨P,g2⟩:=h.2 2 _ rfl;obtain⟨Q,g3⟩:=h.2 3 _ rfl;have n1:¬w.heap.size=q.heap.size:=by omega
  have n2:¬w.heap.size+1=q.heap.size:=by omega
  have n3:¬w.heap.size=q.heap.size+1:=by omega
  clear g h;rcases hr:Kx 6 (Ke s) 0 with E|x
  .obtain⟨z,rfl⟩:=i E hr;rw[hr]at b;simp only at b;obtain⟨D,n⟩:=nm E.num;obtain⟨ea,u⟩:=nm E.at_;have A5:=Hq (A4 b n u (by rw[<-n];exact z:0<D));rw[n,u];have ac:((D:Int)==0)=false:=by have :=A5.2.2.2;simp;omega
   have ae:((D:Int) != 0)=true:=by have :=A5.2.2.2;simp;omega
   clear d i j hr n u z b o C;go_wp2;go_region;all_goals go_wp2
   all_goals refine Zv (v:=Wa #[Hb,Ki D 0 0 ea]) (by simp[results,results79,go_sem,I,J,K,L,M,N,O,P,Q,S,T]) rfl ⟨?_,λG a=>?_,λY a=>?_⟩
   all_goals first
    | (rw[A5.1]at a;cases a;done)
    | (rw[A5.1]at a;cases a;rw[A5.2.1,A5.2.2.1];exact⟨A5.2.2.2,rfl⟩)
    |skip
   all_goals first
    |refine Kb (V8 (V8 ?_ ?_ _) ?_ _)
    |refine V8 (V8 ?_ ?_ _) ?_ _
   all_goals repeat' (refine Yr ?_ ?_ _)
   all_goals first
    |exact H.o
    | (simp only;omega)
    | (simp;omega)
  .obtain⟨l,Z,p,m,U,F,rfl⟩:=j x hr;rw[hr]at b;simp only at b;obtain⟨f,B⟩:=nm x.ra;rw[B]at F b⊢;rw[show Ki 0 0 0 0=Value.agg #[Ia ka 0,Ia ka 0,Ia ka 0,Ia ka 0]from rfl];by_cases c:f<s.size
   .rw[Zo c]at b;have X:(f:Int)<(s.size:Int):=by omega
    have A5:Aside (Gb (Ke s)=.error (.place f (.base 4))):=b;clear d i j hr b o C F c;go_wp2;go_region;all_goals go_wp2
    all_goals refine Zv (v:=Wa #[Hb,Ki 4 0 0 f]) (by simp[results,results79,go_sem,I,J,K,L,M,N,O,P,Q,S,T]) rfl ⟨?_,λG a=>?_,λY a=>?_⟩
    all_goals first
     | (rw[A5.o]at a;cases a;done)
     | (rw[A5.o]at a;cases a;exact⟨Nat.succ_pos 3,rfl⟩)
     |skip
    all_goals first
     |refine Kb (V8 (V8 ?_ ?_ _) ?_ _)
     |refine V8 (V8 ?_ ?_ _) ?_ _
    all_goals repeat' (refine Yr ?_ ?_ _)
    all_goals first
     |exact H.o
     | (simp only;omega)
     | (simp;omega)
   .rw[Zj c]at b;have X:(s.size:Int)<=(f:Int):=by omega
    have A5:=Hq (A3 b B (Tree.Cb (λk R=>by simpa using R) (Za _) (λ_ _ _=>rfl) 6 F));clear d i j hr b o C F c B;go_wp2;refine Zv (v:=Wa #[Aa ⟨0,f,l,Z,Ma p m U⟩,Ki 0 0 0 0]) (by simp[results,results79,go_sem,I,J,K,L,M,N,O,P,Q,S,T]) rfl ⟨?_,λG a=>?_,λy a=>?_⟩
    .refine V8 (V8 ?_ ?_ _) ?_ _;all_goals repeat' (refine Yr ?_ ?_ _)
     all_goals first
      |exact H.o
      | (simp only;omega)
      | (simp;omega)
    .rw[A5.1]at a;cases a
    .rw[A5.1]at a;cases a;refine⟨l,Z,p,m,U,?_,by rw[A5.2.1]⟩;rw[A5.2.1];have ah:q.heap.size<=q.heap.size:=Za _;refine Tree.Cb (λk R=>by omega) (by simp;omega) (λk R ag=>?_) 6 A5.2.2;rw[Z0 _ _ _ (by simp;omega),Z0 _ _ _ (by simp;omega)];repeat rw[Zd _ _ _ _ (by simp only;omega)]
end
section
theorem re.kh{w:Fa}{F:Nat->Prop}{v:Value}{n:Nat}{cs:List Value}(h:re w F v n cs):Oe w v n cs:=by
 rcases h with h|⟨g,cap,rfl,_,_,_,_,h⟩;.exact .inl ⟨⟨_,_,h.1⟩,h.2⟩
 .exact .inr ⟨g,0,cap,rfl,h⟩
end
section
variable{iv:Nat->Nat×Nat}{es es':List nh}{rs:List Raw}
theorem dR{p1 p2 p3 p4:Option Addr}{m1 m2 m3 m4 c1 c2 c3 c4 n:Nat}{mk:Da}:∀u∈Ha ⟨Ma p1 m1 c1,Ma p2 m2 c2,Ma p3 m3 c3,Ma p4 m4 c4,n,mk⟩,u.oneCell'=true:=by intro u a;simp only[Yf,Vi,or_false]at a;rcases a with rfl|rfl|rfl|rfl|rfl<;>rfl
theorem XJ{X w':Fa}{b:Option Nat}(h:X.drew.grownBy w' b):X.grownBy w' b:=⟨h.os,h.tape,h.output,h.size,h.block⟩
theorem uQ(q:Nat)(h:q<=4611686018427387904):wrap64 ((q:Int)+1)=((q+1:Nat):Int):=by unfold wrap64;omega
theorem aS:∀(es:List nh) (i:Nat) (hi:i<es.length) (j:Nat),j<5->(es.flatMap Ha)[i*5+j]? =(Ha es[i])[j]? :=by
 intro es;induction es with
 |nil=>intro i hi;simp at hi
 |cons p ps ih=>
  intro i hi j a;rw[List.flatMap_cons];cases i with
  |zero=>rw[Jr,Zf,Yl (by simpa using a)];rfl
  |succ i=>rw[Z4 (by simp;omega),show(i+1)*5+j-(Ha p).length=i*5+j by simp;omega,ih i (by simpa using hi) j a];rfl
end
section
theorem lx(v:Value)(n:Nat)(m:Da)(w:Fa)(h:ke w v n m)(hn:n<=4194304):Calls oa 21 #[v,La m] w λe w'=>e=na (Oa true)/\w'=w:=by
 obtain⟨p,c,rfl⟩:=h.shape;have H:=Hq h;have d:=Hq hn;clear h hn;go_enter func21,ntmps21;go_wp2;go_loopg [5] n (λgh i wr=>∃k,k<=n/\gh=n-k/\i=Ia ka (k:Int)/\wr=w)
 case atStart=>exact⟨0,Xa _,rfl,rfl,rfl⟩
 case round=>
  obtain⟨k,j,rfl,rfl,rfl⟩:=hrel;by_cases a:k<n
  .have b:(k:Int)<(n:Int):=by omega
   rcases H.o with⟨_,h0⟩|⟨g,cap,e,hc⟩;.omega
   .simp only[Z3]at e;obtain⟨rfl,-,rfl⟩:=e;have f:=hc k a;clear hc;go_wp2;go_roundg (n-(k+1))
    case measure=>omega
    case rel=>exact⟨k+1,by omega,rfl,by rw[Im k (by have :=d.o;omega)],rfl⟩
  .have b:(n:Int)<=(k:Int):=by omega
   clear a;go_wp2;go_ret;exact⟨rfl,rfl⟩
theorem sA:(oa.info? 9).map (λi=>(i.zero,i.size,i.bytes))=some (some (La ⟨#[]⟩),1,16):=by kernel_rfl
theorem zO:(oa.info? 69).map (λi=>(i.zero,i.size,i.bytes))=some (some (Sa #[Ma none 0 0,Ma none 0 0,Ma none 0 0,Ma none 0 0,La ⟨#[]⟩]),5,112):=by kernel_rfl
theorem XT{B bw lo N n c:Nat}{p:Option Addr}{a0 a1 a2 a4 vt:Value}{es:List nh}{cs:List Value}{w:Fa}(hh:w.heap[bw]? =some (ma #[a0,a1,a2,vt,a4,Ia ka (N:Int)] 34 (0,0)))(hv:Db w B 5 vt es.length (es.flatMap Ha))(hvb:vt.ownBlock≠some bw)(hl:Db w lo 1 (Ma p n c) n cs)(hlb:∀g,(Value.slice p n c).ownBlock=some g->g≠bw/\vt.ownBlock≠some g)(hn:n<=1048576)(hN:N<=8589934592)(hE:es.length<=8589934592)(hB:B<=w.heap.size)(Ct:lo<=w.heap.size):Calls oa 64 #[Qa (some ⟨bw,3,none⟩),Ma p n c] w λe w'=>e=na (Wa #[])/\Rn B bw a0 a1 a2 a4 vt es N (Ma p n c) w w':=by
 obtain⟨i0,am,ar,au,aw⟩:=Xl sA;obtain⟨i1,dn,du,dv,dw⟩:=Xl zO;have cf:=(Zg.1 hh).1;have b5:=Ju w _ 5 _ _ (0,0) hh;have f5:=Kd w _ 5 _ _ hh;obtain⟨Y,G⟩:∃Y,Y=w.setCell ⟨bw,5,none⟩ (Ia ka ((N+1:Nat):Int)):=⟨_,rfl⟩;have az:=Hq (MN bw N (N+1) w Y G rfl (by omega) b5 f5);have cw:Y.heap.size=w.heap.size:=by rw[G];simp
 have bv:Y.heap[bw]? =some (ma #[a0,a1,a2,vt,a4,Ia ka ((N+1:Nat):Int)] 34 (0,0)):=by rw[G];exact De (cs:=[a0,a1,a2,vt,a4,Ia ka (N:Int)]) hh 5 _
 have cq:Db Y lo 1 (Ma p n c) n cs:=hl.Cb (by omega) λk _ e=>by rw[G];exact Zd _ _ _ _ (hlb k e).1
 have dc:Db Y B 5 vt es.length (es.flatMap Ha):=hv.Cb (by omega) λk _ e=>by rw[G];exact Zd _ _ _ _ λe'=>hvb (e.trans (Y5 some e'))
 have P:=Hq (A5 hh hv hvb (λg M=>⟨(hlb g M).1,(hlb g M).2,(hl.block g M).2⟩:(∀g,(Value.slice p n c).ownBlock=some g->g≠bw/\vt.ownBlock≠some g/\g<w.heap.size)) G);have X:=Hq (A5 cw bv cq dc cf);have D:=Hq (A5 hn hN hE hB Ct);clear hh hv hvb hl hlb hn hN hE hB Ct b5 f5 cw bv cq dc cf G;go_enter func64,ntmps64;go_wp2_with fail
 refine az.mono ?_;rintro e O ⟨d,rfl,ai⟩;have K:=Hq (A2 ai (X.2.2.1.below ai));clear ai az;go_wp2;go_loopg [5] n (λgh i W=>∃k,k<=n/\gh=n-k/\i=Ia ka (k:Int)/\zn O p n c d k W)
 case atStart=>exact⟨0,Xa _,rfl,rfl,zn.start K.2⟩
 case round=>
  obtain⟨k,hk,rfl,rfl,hF⟩:=hrel;by_cases cu:k<n
  .have dq:(k:Int)<(n:Int):=by omega
   obtain⟨g,eh,e,ac,f,F,di,dj,dk⟩:=K.2.full (by omega);simp only[Z3]at e;obtain⟨rfl,-,rfl⟩:=e;obtain⟨a1,a2,a3⟩:=hF.row g rfl;have h1:=a2 k (by omega);rw[Zf]at h1;obtain⟨u0,c0⟩:=X9.1 h1.1;have f0:=h1.2;have A3:Aside _:=hF.next cu F;clear hF h1 a2 a3 ac F di dj dk;go_wp2;go_roundg (n-(k+1))
   case measure=>omega
   case rel=>exact⟨k+1,by omega,rfl,by rw[Im k (by have :=D.o;omega)],A3.o⟩
  .have dq:(n:Int)<=(k:Int):=by omega
   have dr:k=n:=by omega
   subst dr;have bc:=hF.own K.2;have al:=hF.grown;have dm:=al.size;clear hF cu hk;go_upto_region 6 with fail
   obtain⟨xb,aq⟩:=nm wr.heap.size;obtain⟨W1,ah⟩:∃W1,W1=wr.alloc (ma #[Ma p k c,Ma none 0 0,Ma none 0 0,Ma none 0 0,La d] 69):=⟨_,rfl⟩;have bl:an O lo (Ma p k c) k xb d (Ma none 0 0) (Ma none 0 0) (Ma none 0 0) W1:=by rw[ah,<-aq];exact⟨rE al ⟨rfl,rfl,rfl,by simp,λk hk _=>Z0 _ _ _ hk⟩,bc.alloc _,Lb.fresh wr [Ma p k c,Ma none 0 0,Ma none 0 0,Ma none 0 0,La d] _⟩
   rw[<-ah,aq];have C:=Hq (A4 (by omega :O.heap.size<=xb) (λb hb=>(K.2.block b hb).2:(∀b,(Value.slice p k c).ownBlock=some b->b<O.heap.size)) (by have :=D.o;have :=X.1;have :=K.1.size;omega :lo<=O.heap.size) (by have :=X.1;have :=K.1.size;omega :w.heap.size<=O.heap.size));have A3:=Hq bl;clear bl ah aq bc al dm;have xl:=A3.x.1;have I:Hid (∀o,Db (W1.alloc o) lo 1 (Ma p k c) k (yT d k)):=λo=>A3.own.alloc o;go_upto_region 7 with(at_builtin;refine xA _ rfl _ _ 40 rfl 9 i0 (La ⟨#[]⟩) 1 16 underlying40 am ar au aw rfl (by decide) lo (Ma p k c) k (yT d k) rfl (I _) W1.heap.size 0 1 1 (yT d 1) rfl rfl ?c1 (rC d 1) ?c2 ?c3 ?c4 ?_)
   case c1=>exact wg W1 (yT d 1) 9
   case c2=>have :=D.o;unfold maxLen;omega
   case c3=>have :=D.o;omega
   case c4=>have :=C.o;have :=A3.grown.size;simp;omega
   intro v1 t1 ae bf ac ci dh;obtain⟨v,r,h,rfl⟩:=ae.shape;obtain⟨R,S,T,H,U,ay⟩:=an.more (idx:=1) A3 C.1 C.2.1 (by omega) ae bf ac (by simpa using ci);obtain⟨xc,xf⟩:=H.2 1 _ rfl;have V:=H.1;have q:Hid (an O lo (Ma p k c) k xb d (Ma v r h) (Ma none 0 0) (Ma none 0 0) (t1.setCell ⟨xb,1,none⟩ (Ma v r h))):=⟨R,S,T⟩;have L:=U;clear ae bf ac ci dh R S T H U I xl;go_upto_region 7 with fail
   obtain⟨W2,bm⟩:∃W2,W2=t1.setCell ⟨xb,1,none⟩ (Ma v r h):=⟨_,rfl⟩;rw[<-bm]at L q⊢;have A4:=Hq q.o;clear q bm xc xf V A3;have xl:=A4.x.1;have I:Hid (∀o,Db (W2.alloc o) lo 1 (Ma p k c) k (yT d k)):=λo=>A4.own.alloc o;go_upto_region 8 with(at_builtin;refine xA _ rfl _ _ 40 rfl 9 i0 (La ⟨#[]⟩) 1 16 underlying40 am ar au aw rfl (by decide) lo (Ma p k c) k (yT d k) rfl (I _) W2.heap.size 0 2 2 (yT d 2) rfl rfl ?c1 (rC d 2) ?c2 ?c3 ?c4 ?_)
   case c1=>exact wg W2 (yT d 2) 9
   case c2=>have :=D.o;unfold maxLen;omega
   case c3=>have :=D.o;omega
   case c4=>have :=C.o;have :=A4.grown.size;simp;omega
   intro v2 t2 E bi f Q ch;obtain⟨y,s,l,rfl⟩:=E.shape;obtain⟨R,S,T,H,U,de⟩:=an.more (idx:=2) A4 C.1 C.2.1 (by omega) E bi f (by simpa using Q);have L:=L.more (xb:=xb) (idx:=2) (u:=Ma y s l) ay f λg M j=>(ch g M j).imp id λ⟨a,u,b,c⟩=>⟨u,a,b,c⟩;obtain⟨xc,xf⟩:=H.2 2 _ rfl;have V:=H.1;have q:Hid (an O lo (Ma p k c) k xb d (Ma v r h) (Ma y s l) (Ma none 0 0) (t2.setCell ⟨xb,2,none⟩ (Ma y s l))):=⟨R,S,T⟩;have L2:=U;clear E bi f Q ch R S T H U I xl;go_upto_region 8 with fail
   obtain⟨W3,bn⟩:∃W3,W3=t2.setCell ⟨xb,2,none⟩ (Ma y s l):=⟨_,rfl⟩;rw[<-bn]at L L2 q⊢;have A5:=Hq q.o;clear q bn xc xf V A4;have xl:=A5.x.1;have I:Hid (∀o,Db (W3.alloc o) lo 1 (Ma p k c) k (yT d k)):=λo=>A5.own.alloc o;go_upto_region 9 with(at_builtin;refine xA _ rfl _ _ 40 rfl 9 i0 (La ⟨#[]⟩) 1 16 underlying40 am ar au aw rfl (by decide) lo (Ma p k c) k (yT d k) rfl (I _) W3.heap.size 0 3 3 (yT d 3) rfl rfl ?c1 (rC d 3) ?c2 ?c3 ?c4 ?_)
   case c1=>exact wg W3 (yT d 3) 9
   case c2=>have :=D.o;unfold maxLen;omega
   case c3=>have :=D.o;omega
   case c4=>have :=C.o;have :=A5.grown.size;simp;omega
   intro v3 t3 ag bj F cj ak;obtain⟨z,t,m,rfl⟩:=ag.shape;obtain⟨R,S,T,H,U,dz⟩:=an.more (idx:=3) A5 C.1 C.2.1 (by omega) ag bj F (by simpa using cj);have L:=L.more (xb:=xb) (idx:=3) (u:=Ma z t m) ay F λg M j=>(ak g M j).imp id λ⟨a,u,b,c⟩=>⟨u,a,b,c⟩;have L2:=L2.more (xb:=xb) (idx:=3) (u:=Ma z t m) de F λg M j=>(ak g M j).imp id λ⟨a,u,b,c⟩=>⟨u,a,b,c⟩;obtain⟨xc,xf⟩:=H.2 3 _ rfl;have V:=H.1;have q:Hid (an O lo (Ma p k c) k xb d (Ma v r h) (Ma y s l) (Ma z t m) (t3.setCell ⟨xb,3,none⟩ (Ma z t m))):=⟨R,S,T⟩;have L3:=U;clear ag bj F cj ak R S T H U I xl ay de dz;go_upto_region 9 with fail
   obtain⟨J,bq⟩:∃J,J=t3.setCell ⟨xb,3,none⟩ (Ma z t m):=⟨_,rfl⟩;rw[<-bq]at L L2 L3 q⊢;have A6:=Hq q.o;have Z:=(q.grown.block bw (by have :=X.2.2.2.2;have :=C.2.2.2;omega) λe=>(P.2.2.2.1 bw e.symm).1 rfl).trans ((K.1.block bw (by have :=X.o;omega)).trans X.2.1);have ao:=(X.2.2.2.1.below K.1).Cb q.grown.size λk hk e=>q.grown.block k hk λe'=>(P.2.2.2.1 k e'.symm).2.1 e;clear q bq xc xf V A5;obtain⟨pv,mv,cv,rfl⟩:=ao.shape;have dg:=Ju J _ 3 _ _ (0,0) Z;have df:=Kd J _ 3 _ _ Z;have aj:=(Zg.1 Z).1;have x0:=(A6.x.2 0 _ rfl).1;have x1:=(A6.x.2 1 _ rfl).1;have x2:=(A6.x.2 2 _ rfl).1;have x3:=(A6.x.2 3 _ rfl).1;have x4:=(A6.x.2 4 _ rfl).1;have xl:=A6.x.1;have I:Hid (∀o,Db (J.alloc o) B 5 (Ma pv mv cv) es.length (es.flatMap Ha)):=λo=>ao.alloc o;have AL:=Hq (A3 L L2 L3);have HE:Hid (es.length+1<=8589934593/\B<=J.heap.size):=⟨by have :=D.o;omega,by have :=D.o;have :=C.o;have :=A6.grown.size;omega⟩;have HX:Hid ((J.alloc (ma #[Ma p k c,Ma v r h,Ma y s l,Ma z t m,La d] 69)).rangeAt J.heap.size 0 (Ha ⟨Ma p k c,Ma v r h,Ma y s l,Ma z t m,k,d⟩)):=wg J (Ha ⟨Ma p k c,Ma v r h,Ma y s l,Ma z t m,k,d⟩) _;have ba:=Hq P.2.2.1;clear L L2 L3 ao Z;go_region_law (refine kI _ rfl (.tmp 44) (.tmp 46) 29 rfl 69 i1 _ 5 112 underlying29 dn du dv dw rfl (by decide) B (Ma pv mv cv) es.length _ (by simp[Act.eval]) (I _) J.heap.size 0 1 1 (Ha ⟨Ma p k c,Ma v r h,Ma y s l,Ma z t m,k,d⟩) (by simp[Act.eval]) rfl HX dR (by have :=HE.o;unfold maxLen;omega) (by have :=HE.o;omega) (by have :=HE.o;simp;omega) ?_;intro v2 w2 E f Q dt;have AM:Aside (Rn B bw a0 a1 a2 a4 (Ma pv mv cv) es N (Ma p k c) w (w2.setCell ⟨bw,3,none⟩ v2)):=YM P.1 P.2.1 P.2.2.1 P.2.2.2.1 D.1 P.2.2.2.2 K.1 A6 AL.1 AL.2.1 AL.2.2 E (XJ f) Q;obtain⟨pz,mz,cz,rfl⟩:=E.shape;have z4:w2.cell? ⟨bw,3,none⟩=some (Ma pv mv cv):=World.grownBy.cell f ((Z8 _ _ _ aj).trans dg) (λe=>ba e.symm);have ei:w2.frozen? ⟨bw,3,none⟩=false:=(Yd (f.block bw (by simp;omega) (λe=>ba e.symm))).trans ((Vr _ _ _ aj).trans df);have z5:bw<w2.heap.size:=(by have :=f.size;simp at this;omega);clear E f Q dt)
   all_goals go_end0
   all_goals exact⟨rfl,AM.o⟩
theorem FU{B:Nat}(bw:Nat)(es:List nh)(v:Value)(w:Fa)(h3:w.cell? ⟨bw,3,none⟩=some v)(h4:w.cell? ⟨bw,4,none⟩=some (Ma none 0 0))(h:Db w B 5 v es.length (es.flatMap Ha))(he:∀e∈es,Il w v e)(hE:es.length<=8589934592):Calls oa 7 #[Qa (some ⟨bw,3,none⟩)] w λe w'=>e=na (Oa true)/\Ba w w':=by
 obtain⟨p,m,c,rfl⟩:=h.shape;have hm:=h.kh.len;have H:=Hq h;have X:=Hq he;have V:Hid (m=es.length/\m<=8589934592):=⟨hm,by omega⟩;have L:bw<w.heap.size:=by simpa using Yo w _ h3
 clear h hm hE he;go_enter func7,ntmps7;go_wp2;go_loopg [3] m (λgh i W=>∃k,k<=m/\gh=m-k/\i=Ia ka (k:Int)/\Ba w W)
 case atStart=>exact⟨0,Xa _,rfl,rfl,Zb _ _⟩
 case round=>
  obtain⟨k,hk,rfl,rfl,r⟩:=hrel;have b3:wr.cell? ⟨bw,3,none⟩=some (Ma p m c):=(r.cell (p:=⟨bw,3,none⟩) L).trans h3;by_cases aj:k<m
  .have ai:(k:Int)<(m:Int):=by omega
   have O:k<es.length:=by have :=V.o;omega
   obtain⟨g,ak,e,Z,ac,ae,ag,ah,N⟩:=H.full (by omega);simp only[Z3]at e;obtain⟨rfl,-,rfl⟩:=e;have d:=X _ (Zy O);have t:=aS es k O;obtain⟨⟨l,a,b,c',n,mk⟩,M⟩:=nm (es[k]);rw[M]at d t;obtain⟨K,E,P⟩:=d.fl.shape;obtain⟨G,z,Q⟩:=d.fa.shape;obtain⟨I,C,R⟩:=d.fb.shape;obtain⟨J,D,S⟩:=d.fc.shape;simp only at P Q R S;subst P Q R S;have q:∀j u,([Ma K n E,Ma G (n+1) z,Ma I (n+2) C,Ma J (n+3) D,La mk]:List Value)[j]? =some u->j<5->wr.cell? ⟨g,k*5+j,none⟩=some u:=λj u hu hj=>by have :=N (k*5+j) u (by rw[t j hj];exact hu);rw[Zf]at this;exact(r.cell (Yo w _ this)).trans this
   have e0:wr.cell? ⟨g,k*5,none⟩=some (Ma K n E):=q 0 _ rfl (by omega);have e1:wr.cell? ⟨g,k*5+1,none⟩=some (Ma G (n+1) z):=q 1 _ rfl (by omega);have e2:wr.cell? ⟨g,k*5+2,none⟩=some (Ma I (n+2) C):=q 2 _ rfl (by omega);have e3:wr.cell? ⟨g,k*5+3,none⟩=some (Ma J (n+3) D):=q 3 _ rfl (by omega);have e4:wr.cell? ⟨g,k*5+4,none⟩=some (La mk):=q 4 _ rfl (by omega);have T:=d.hn;simp only at T;have y:∀(o:Obj) (x:Value),(∀b,x.ownBlock=some b->b<w.heap.size)->∀j,ke w x j mk->ke (wr.alloc o) x j mk:=λo x hx j hf=>hf.Cb λb f=>(Z0 _ _ _ (Zm (hx b f) r.size)).trans (r.block b (hx b f));have F0:Hid (∀o,Calls oa 21 #[Ma K n E,La mk] (wr.alloc o) λe w'=>e=na (Oa true)/\w'=wr.alloc o):=λo=>lx (Ma K n E) n mk (wr.alloc o) (y o _ (λb f=>(d.ap b (.inl f)).1) _ d.fl) (by omega);have F1:Hid (∀o,Calls oa 21 #[Ma G (n+1) z,La mk] (wr.alloc o) λe w'=>e=na (Oa true)/\w'=wr.alloc o):=λo=>lx (Ma G (n+1) z) (n+1) mk (wr.alloc o) (y o _ (λb f=>(d.ap b (.inr (.inl f))).1) _ d.fa) (by omega);have F2:Hid (∀o,Calls oa 21 #[Ma I (n+2) C,La mk] (wr.alloc o) λe w'=>e=na (Oa true)/\w'=wr.alloc o):=λo=>lx (Ma I (n+2) C) (n+2) mk (wr.alloc o) (y o _ (λb f=>(d.ap b (.inr (.inr (.inl f)))).1) _ d.fb) (by omega);have F3:Hid (∀o,Calls oa 21 #[Ma J (n+3) D,La mk] (wr.alloc o) λe w'=>e=na (Oa true)/\w'=wr.alloc o):=λo=>lx (Ma J (n+3) D) (n+3) mk (wr.alloc o) (y o _ (λb f=>(d.ap b (.inr (.inr (.inr f)))).1) _ d.fc) (by omega);have s:Aside (Ba w wr):=r;clear r y q d t M Z ac ae ag ah N T;go_wp2_with fail
   refine(F0 _).mono ?_;rintro e U ⟨rfl,rfl⟩;go_wp2_with fail
   refine(F1 _).mono ?_;rintro e U ⟨rfl,rfl⟩;go_wp2_with fail
   refine(F2 _).mono ?_;rintro e U ⟨rfl,rfl⟩;go_wp2_with fail
   refine(F3 _).mono ?_;rintro e U ⟨rfl,rfl⟩;go_wp2;go_roundg (m-(k+1))
   case measure=>omega
   case rel=>exact⟨k+1,by omega,rfl,ld ((uQ k (by have :=V.o;omega))),s.alloc s.size _⟩
  .have ai:(m:Int)<=(k:Int):=by omega
   have Y:=(r.cell (p:=⟨bw,4,none⟩) L).trans h4;have s:Aside (Ba w wr):=r;clear r aj;obtain⟨W,F⟩:=nm wr;have A2:Aside (wr=W):=F;clear F;go_wp2;go_loopg [9] 0 (λg i w2=>g=0/\i=Ia ka 0/\w2=W)
   case atStart=>exact⟨rfl,rfl,A2.o⟩
   case round=>
    obtain⟨rfl,rfl,F⟩:=hrel;have q4:W.cell? ⟨bw,4,none⟩=some (Ma none 0 0):=by rw[<-A2.o];exact Y
    have A3:Aside (Ba w W):=by rw[<-A2.o];exact s.o
    subst F;clear s A2 Y;go_wp2;go_ret;exact⟨rfl,A3.o⟩
end
end Go.Proofs.YtpfbdlnibdfcoaaGreatDoor
