import Derived.Test.YtpfbdlnibdfcoaaGreatDoorPvTreB
namespace Go.Proofs.YtpfbdlnibdfcoaaGreatDoor
open Go.RowKit Tryz
open Value renaming int->Ia,string->La,slice->Ma,bool->Oa,pointer->Qa,agg->Sa,tuple->Wa,iface->ca,nilIface->da
open IntKind renaming i64->ka
open Obj renaming cells->ma
open Ending renaming returned->na
open Tryz renaming prog->oa
set_option maxRecDepth 100000
set_option maxHeartbeats 0
structure Ed where
 path:Da
 val:Da
 stub:Bool
 sum:Fin 32->Nat
def Ge(x:Ed):List Value:=La x.path::La x.val::Oa x.stub::(List.ofFn x.sum).map Kf
theorem Ql(x:Ed):(Ge x).length=35:=by simp[Ge]
theorem wx(x:Ed):∀u∈Ge x,u.oneCell'=true:=by
 intro u a;unfold Ge at a;rcases Yf.1 a with rfl|a;.rfl
 rcases Yf.1 a with rfl|a;.rfl
 rcases Yf.1 a with rfl|a;.rfl
 obtain⟨n,_,rfl⟩:=Xd.1 a;rfl
theorem RM(l:List Ed)(i:Nat)(hi:i<l.length)(j:Nat)(hj:j<35):(l.flatMap Ge)[i*35+j]? =(Ge l[i])[j]? :=by
 induction l generalizing i with
 |nil=>simp at hi
 |cons x l ih=>
  rw[List.flatMap_cons];cases i with
  |zero=>rw[Jr,Zf,Yl (by rw[Ql];exact hj)];rfl
  |succ i=>rw[Z4 (by rw[Ql];omega),Ql,show(i+1)*35+j-35=i*35+j by omega,ih i (by simpa using hi)];rfl
abbrev Od(w:Fa)(C:Nat)(v:Value)(l:List Ed):Prop:=Db w C 35 v l.length (l.flatMap Ge)
theorem Od.nil(w:Fa)(C:Nat):Od w C (Ma none 0 0) []:=Db.nil _ _ _
variable{w:Fa}{C:Nat}{l:List Ed}
theorem Od.len{p:Option Addr}{m c:Nat}(h:Od w C (Ma p m c) l):m=l.length:=by
 rcases h.2 with⟨h1,h2⟩|⟨g,cap,h1,_⟩;.simp only[Z3]at h1;omega
 .simp only[Z3]at h1;exact h1.2.1
variable{v:Value}
theorem Od.row(h:Od w C v l){i:Nat}(hi:i<l.length):∃g cap,v=Ma (some ⟨g,0,none⟩) l.length cap/\C<=g/\g<w.heap.size/\w.rangeAt g (i*35) (Ge l[i]):=by
 obtain⟨g,cap,e,b,c,k,m,n,d⟩:=h.full (by omega);refine⟨g,cap,e,b,c,λj u a=>?_⟩;have f:j<35:=by have :=(Zw.1 a).1;rwa [Ql]at this
 have :=d (i*35+j) u (by rw[RM l i hi j f];exact a);rwa [Zf]at this
theorem Od.path{w:Fa}{g i:Nat}{x:Ed}(h:w.rangeAt g (i*35) (Ge x)):w.cell? ⟨g,i*35,none⟩=some (La x.path)/\w.cell? ⟨g,i*35+1,none⟩=some (La x.val)/\w.cell? ⟨g,i*35+2,none⟩=some (Oa x.stub):=⟨h 0 _ rfl,h 1 _ rfl,h 2 _ rfl⟩
def Of:Value:=Sa (Ge ⟨⟨#[]⟩,⟨#[]⟩,false,λ_=>0⟩).toArray
theorem sm:(oa.info? 181).map (λi=>(i.zero,i.size,i.bytes))=some (some Of,35,72):=by kernel_rfl
theorem SA:Of.cells.size=35:=by simp[Of,Value.cells,Ql]
theorem sy:(oa.info? 181).map (·.size)=some 35:=by obtain⟨i,a,_,b,_⟩:=Xl sm;rw[a,Vp,b]
theorem VQ(w:Fa)(cs:Array Value)(h:cs.size=35):(Instr.buildSlice 57 1 #[(0,Sa cs)]).run oa w=.ok (Ma (some ⟨w.heap.size,0,none⟩) 1 1) (w.alloc (ma cs 181)):=by obtain⟨i,b,c,a,d⟩:=Xl sm;refine run_buildSlice w _ 181 1 _ cs i _ underlying57 b c (by rw[a];decide) (by rw[a];decide) ?_;rw[a];have :=Great.fill_whole (s:=35) (by decide) [Sa cs] ((Array.range (1*35)).map (Of.cells[· %Of.cells.size]!)) (by simpa[Value.cells]using h) (by simp);simpa[Value.cells]using this
@[simp] theorem WU(cs:Array Value):Value.cells (Sa cs)=cs:=rfl
theorem vB(dst:Option Tmp)(x:Operand)(type:TypeId)(pos:String)(af:Array Edge)(gd:Option (Nat×Bool))(a:Act)(w:Fa)(K:Act->Fa->Prop)(Q:Exit->Act->Fa->Prop)(hx:a.eval x=Sa (a.eval x).cells)(hs:(a.eval x).cells.size=35):Oper.wp oa {dst:=dst,op:=.buildSlice 57 1 #[(0,x)],type:=type,pos:=pos,after:=af,guard:=gd} a w K Q=K (a.put dst (Ma (some ⟨w.heap.size,0,none⟩) 1 1)) (w.alloc (ma (a.eval x).cells 181)):=by generalize (a.eval x).cells=cs at hx hs⊢;have h:=VQ w cs hs;unfold Oper.wp execOp;simp only[List.map_toArray,Xm,J9,hx,Je,h,Result.andThen_ok];rfl
theorem gL(s t:Da):K7 t s↔t.size<=s.size/\s.extract 0 t.size=t:=⟨λh=>⟨np h,Lx h⟩,λh=>QC h.2⟩
theorem Cx(s t:Da)(w:Fa):Calls oa 113 #[La s,La t] w λe w'=>e=na (Oa (decide (K7 t s)))/\w'=w:=by
 by_cases b:t.size<=s.size
 .have d:(t.size:Int)<=(s.size:Int):=by omega
  obtain⟨u,c⟩:=nm (s.extract 0 t.size);have a:decide (K7 t s)=decide (u=t):=by rw[decide_eq_decide,gL,c];exact⟨λh=>h.2,λh=>⟨b,h⟩⟩
  rw[a];clear a b;by_cases e:u=t;.subst e;rw[Z5 rfl];go_enter func113,ntmps113;go_wp2;go_ret;exact⟨rfl,rfl⟩
  .rw[Zt e];have f:=St e;go_enter func113,ntmps113;go_wp2;go_ret;exact⟨rfl,rfl⟩
 .have d:¬(t.size:Int)<=(s.size:Int):=by omega
  have a:=Zt λh=>b (np h);rw[a];clear a b;go_enter func113,ntmps113;go_wp2;go_ret;exact⟨rfl,rfl⟩
def Ed.cut(p:Da)(x:Ed):Ed:={x with path:=x.path.extract p.size x.path.size}
def K8(l:List Ed)(p:Da):List Ed:=(l.filter λx=>decide (K7 p x.path)).map (Ed.cut p)
variable{p:Da}{k:Nat}
theorem jL(hk:k<l.length)(h:K7 p l[k].path):K8 (l.take (k+1)) p=K8 (l.take k) p++[l[k].cut p]:=by rw[K8,K8,Z1 hk,List.filter_append,Xk];simp[h]
theorem iM(hk:k<l.length)(h:¬K7 p l[k].path):K8 (l.take (k+1)) p=K8 (l.take k) p:=by rw[K8,K8,Z1 hk,List.filter_append,Xk];simp[h]
theorem nu(l:List Ed)(p:Da):(K8 l p).length<=l.length:=by rw[K8,Zl];exact List.length_filter_le ..
abbrev E3:Array Value:=#[La ⟨#[]⟩,La ⟨#[]⟩,Oa false,Ia .u8 0,Ia .u8 0,Ia .u8 0,Ia .u8 0,Ia .u8 0,Ia .u8 0,Ia .u8 0,Ia .u8 0,Ia .u8 0,Ia .u8 0,Ia .u8 0,Ia .u8 0,Ia .u8 0,Ia .u8 0,Ia .u8 0,Ia .u8 0,Ia .u8 0,Ia .u8 0,Ia .u8 0,Ia .u8 0,Ia .u8 0,Ia .u8 0,Ia .u8 0,Ia .u8 0,Ia .u8 0,Ia .u8 0,Ia .u8 0,Ia .u8 0,Ia .u8 0,Ia .u8 0,Ia .u8 0,Ia .u8 0]
theorem xP(w:Fa)(x:Ed):(w.alloc (ma E3 181)).there w.heap.size 0 (Ge x).toArray.size/\(oa.info? 181).map (·.size)=some (Ge x).toArray.size/\(oa.info? 181).map (·.size)=some (Ge x).length/\(Ge x).toArray.all (·.oneCell')=true/\Ba w ((w.alloc (ma E3 181)).setCells w.heap.size 0 (Ge x))/\((w.alloc (ma E3 181)).setCells w.heap.size 0 (Ge x)).rangeAt w.heap.size 0 (Ge x)/\((w.alloc (ma E3 181)).setCells w.heap.size 0 (Ge x)).heap.size=w.heap.size+1/\((w.alloc (ma E3 181)).setCells w.heap.size 0 (Ge x)).frozen? ⟨w.heap.size,0,none⟩=false:=by
 have b:(w.alloc (ma E3 181)).there w.heap.size 0 35:=Le w _ 181 35 rfl;have c:Ba w (w.alloc (ma E3 181)):=(Zb _ _).alloc (Za _) _;have d:(w.alloc (ma E3 181)).heap.size=w.heap.size+1:=by simp
 generalize w.alloc (ma E3 181)=w1 at b c d;have a:=Ql x;refine⟨by simpa[a]using b,by rw[sy];simp[a],by rw[sy];simp[a],Yp (wx x),Cg c (Za _) _ _,Zn _ _ _ _ (by rw[a];exact b),by rw[(Og _ _ _ _).1];exact d,?_⟩;rw[World.frozen?_setCells];exact(b 0 (by omega)).2
variable{cs:List Value}
theorem uM{g:Nat}{u:Value}(h:w.rangeAt g 0 (v::cs)):(w.setCell ⟨g,0,none⟩ u).rangeAt g 0 (u::cs):=by
 intro j x a;rw[Zf];cases j with
 |zero=>have :=h 0 v rfl;rw[Ys _ _ _ this];exact a
 |succ j=>rw[Zp _ _ _ _ (by simp)];have :=h (j+1) x a;rwa [Zf]at this
theorem LB{wr w1 w2:Fa}{B:Nat}{n:Nat}(hb:Below B w wr)(hB:B<=wr.heap.size)(h1:Ba wr w1)(ho:Db w1 B 35 v n cs)(hg:w1.grownBy w2 v.ownBlock):Below B w w2:=by have h:=hb.trans (h1.mono hB);refine⟨hg.os.trans h.os,hg.tape.trans h.tape,hg.output.trans h.output,Z2 h.size hg.size,λk a=>(hg.block k (by have :=h1.size;omega) λe=>?_).trans (h.block k a)⟩;have :=(ho.block k e.symm).1;omega
theorem Od.more{B:Nat}{y:Ed}(h:Db w B 35 v (l.length+1) (l.flatMap Ge++Ge y)):Od w B v (l++[y]):=by unfold Od;rw[Zq,List.flatMap_append];simpa using h
attribute [local go_sem ↓] vB in
theorem Fv(h:Od w C v l)(hl:l.length<=2097152)(hp:∀x∈l,x.path.size<=64):Calls oa 106 #[v,La p] w λe w'=>Ba w w'/\∃v',e=na v'/\Od w' w.heap.size v' (K8 l p):=by
 obtain⟨pk,mk,ck,rfl⟩:=h.shape;obtain rfl:=h.len;obtain⟨i0,hi,ae,ag,ah⟩:=Xl sm;have D:=Hq (A3 h hl hp);have F:=Hq Cx;clear h hl hp;go_enter func106,ntmps106;go_wp2;go_loopg [5,6] l.length (λg out i wr=>∃k:Nat,k<=l.length/\g=l.length-k/\i=Ia ka (k:Int)/\Ba w wr/\Od wr w.heap.size out (K8 (l.take k) p))
 case atStart=>exact⟨0,Xa _,rfl,rfl,Zb _ _,Od.nil _ _⟩
 case round=>
  obtain⟨k,hk,rfl,rfl,Q,R⟩:=hrel;obtain⟨U,T,P,rfl⟩:=R.shape;have j:=Hq (A2 Q R);have E:=D.1.below Q;clear Q R;by_cases c:k<l.length
  .have i1:(k:Int)<(l.length:Int):=by omega
   obtain⟨g,ai,hv,-,Z,f⟩:=Od.row E c;simp only[Z3]at hv;obtain⟨rfl,-,rfl⟩:=hv;obtain⟨O,-,-⟩:=Od.path f;have m:=D.2.2 _ (Zy c);have H:Hid (wrap64 ((k:Int)+1)=((k+1:Nat):Int)):=by have h:wrap64 ((k:Int)+1)=((k+1:Nat):Int):=(by unfold wrap64;have :=D.2.1;omega);exact h
   by_cases a:K7 p l[k].path
   .have tg:=Hq (jL c a);have K:=np a;have b:=Hq (Z5 a);obtain⟨x,z⟩:=nm l[k];rw[z]at O f m tg K b;clear a z E;go_wp2_with fail
    refine(F x.path p _).mono ?_;rintro e V ⟨rfl,u⟩;obtain rfl:=u.symm;rw[b.o];obtain⟨t1,z2,z1,r,q,n,L,I⟩:=xP wr x;have X:=n 0 _ rfl;have i3:(p.size:Int)<=(x.path.size:Int):=by omega
    go_upto_region 9 with(first| (refine Zr rfl 181 _ rfl g (k*35) rfl (Ge x) _ f underlying181 rfl z1 ?_)| (refine Zs rfl 181 _ _ rfl wr.heap.size 0 (Ge x).toArray rfl rfl t1 z2 r ?_;rw[Jz];generalize World.setCells _ _ _ _=w5 at q n L I X⊢;clear t1 z2 r))
    obtain⟨y,S⟩:=nm (x.cut p);have s:(w5.setCell ⟨wr.heap.size,0,none⟩ (La (x.path.extract p.size x.path.size))).rangeAt wr.heap.size 0 (Ge y):=by rw[<-S];exact uM n
    have d:Ba wr (w5.setCell ⟨wr.heap.size,0,none⟩ (La (x.path.extract p.size x.path.size))):=q.setCell (Za _) _;generalize w5.setCell ⟨wr.heap.size,0,none⟩ (La (x.path.extract p.size x.path.size))=w6 at s d⊢;have aj:(Ge y).toArray.size=35:=by simp[Ql]
    have zy:(oa.info? 181).map (·.size)=some (Ge y).length:=by rw[sy,Ql]
    have G:Hid (∀t,Db (w6.alloc (ma (Ge y).toArray t)) w.heap.size 35 (Ma U T P) (K8 (l.take k) p).length ((K8 (l.take k) p).flatMap Ge)):=λt=>(j.2.below d).alloc _;have W:Hid (∀t,(w6.alloc (ma (Ge y).toArray t)).rangeAt w6.heap.size 0 (Ge y)):=λt=>wg w6 _ t;have N:Hid ((K8 (l.take k) p).length<=2097152/\w.heap.size<=w6.heap.size):=⟨by have h1:=nu (l.take k) p;have :=D.2.1;rw[Zx]at h1;omega,by have :=j.1.size;have :=d.size;omega⟩;have M:=Hq (A2 d (by rw[<-S];exact tg.o:K8 (l.take (k+1)) p=K8 (l.take k) p++[y]));clear S d n q L I X f O tg b K m i3 Z;go_upto_region 4 with(first| (refine Zr rfl 181 _ rfl wr.heap.size 0 rfl (Ge y) _ s underlying181 rfl zy ?_)| (at_builtin;refine ll _ rfl _ _ 57 rfl 181 i0 Of 35 72 underlying57 hi ae ag ah SA (by decide) w.heap.size (Ma U T P) _ _ rfl (G _) w6.heap.size 0 1 1 (Ge y) rfl (by rw[Ql]) (W _) (wx y) (by have :=N.1;unfold maxLen;omega) (by have :=N.1;omega) (by have :=N.2;simp;omega) ?_))
    intro v2 V o J Y ac;have B:=Hq (A2 (LB j.1 j.1.size ((M.1).alloc M.1.size _) (G _) J) (by rw[M.2];exact Od.more o:Od V w.heap.size v2 (K8 (l.take (k+1)) p)));obtain⟨p2,m2,k2,rfl⟩:=o.shape;clear o J Y ac s;go_wp2;go_roundg (l.length-(k+1))
    case measure=>omega
    case rel=>exact⟨k+1,c,rfl,ld H.o,B.o⟩
   .have tg:=Hq (iM c a);have b:=Hq (Zt a);obtain⟨x,z⟩:=nm l[k];rw[z]at O f b;clear a z E m;go_wp2_with fail
    refine(F x.path p _).mono ?_;rintro e V ⟨rfl,u⟩;obtain rfl:=u.symm;rw[b.o];go_wp2;go_roundg (l.length-(k+1))
    case measure=>omega
    case rel=>exact⟨k+1,c,rfl,ld H.o,j.1,by rw[tg.o];exact j.2⟩
  .have i1:¬(k:Int)<(l.length:Int):=by omega
   have B:Hid (Ba w wr/\Od wr w.heap.size (Ma U T P) (K8 l p)):=by have h:=j.o;rw[Zz (by omega)]at h;exact h
   clear E;go_wp2;go_ret;exact⟨B.1,_,rfl,B.2⟩
def Po:Option Nat->Int
 |none=> -1
 |some i=>(i:Int)
def kg(l:List Ed):Option Nat->List Ed
 |none=>l
 |some j=>l.eraseIdx j
theorem ML(hk:k<l.length):kg (l.take (k+1)) (some k)=kg (l.take k) (some k):=by
 have c:(l.take k).length=k:=by rw[Zx];omega
 have a:(l.take k++[l[k]]).eraseIdx k=l.take k:=by rw[List.eraseIdx_append_of_length_le (by omega),c,J4];simp
 have b:(l.take k).eraseIdx k=l.take k:=List.eraseIdx_of_length_le (by omega);simp only[kg];rw[Z1 hk,a,b]
variable{o:Option Nat}
theorem CM(hk:k<l.length)(ho:o≠some k):kg (l.take (k+1)) o=kg (l.take k) o++[l[k]]:=by
 have a:(l.take k).length=k:=by rw[Zx];omega
 cases o with
 |none=>exact Z1 hk
 |some j=>
  simp only[kg];by_cases h:j<k;.rw[Z1 hk,List.eraseIdx_append_of_lt_length (by omega)]
  .have :k<j:=by have :j≠k:=λe=>ho (by rw[e]);omega
   rw[List.eraseIdx_of_length_le (by rw[Zx];omega),List.eraseIdx_of_length_le (by omega)];exact Z1 hk
theorem MB(l:List Ed)(o:Option Nat):(kg l o).length<=l.length:=by
 cases o with
 |none=>exact Za _
 |some j=>simp only[kg];rw[List.length_eraseIdx];split<;>omega
attribute [local go_sem ↓] vB in
theorem pG(h:Od w C v l)(hl:l.length<=2097152):Calls oa 104 #[v,Ia ka (Po o)] w λe w'=>Ba w w'/\∃v',e=na v'/\Od w' w.heap.size v' (kg l o):=by
 obtain⟨pk,mk,ck,rfl⟩:=h.shape;obtain rfl:=h.len;obtain⟨U,T,O,P,Q⟩:=Xl sm;have x:=Hq (A2 h hl);obtain⟨R,f⟩:=nm (Po o);rw[f];have H:=Hq f;clear h hl f;go_enter func104,ntmps104;go_wp2;go_loopg [5,6] l.length (λg out i wr=>∃k:Nat,k<=l.length/\g=l.length-k/\i=Ia ka (k:Int)/\Ba w wr/\Od wr w.heap.size out (kg (l.take k) o))
 case atStart=>exact⟨0,Xa _,rfl,rfl,Zb _ _,by rw[show kg (l.take 0) o=[]by cases o<;>simp[kg]];exact Od.nil _ _⟩
 case round=>
  obtain⟨k,hk,rfl,rfl,B,D⟩:=hrel;obtain⟨F,E,z,rfl⟩:=D.shape;have c:=Hq (A2 B D);have p:=x.1.below B;clear B D;by_cases b:k<l.length
  .have V:(k:Int)<(l.length:Int):=by omega
   have r:Hid (wrap64 ((k:Int)+1)=((k+1:Nat):Int)):=by have h:wrap64 ((k:Int)+1)=((k+1:Nat):Int):=(by unfold wrap64;have :=x.2;omega);exact h
   by_cases a:o=some k
   .have K:R=(k:Int):=by rw[<-H.o,a];rfl
    subst K;have tg:Hid (kg (l.take (k+1)) o=kg (l.take k) o):=by rw[a];exact ML b
    clear p;go_wp2;go_roundg (l.length-(k+1))
    case measure=>omega
    case rel=>exact⟨k+1,b,rfl,ld r.o,c.1,by rw[tg.o];exact c.2⟩
   .have ae:((k:Int)==R)=false:=by
     rw[Xe];intro e;apply a;have h:=H.o;rw[<-e]at h;cases o with
     |none=>simp only[Po]at h;omega
     |some j=>simp only[Po]at h;rw[show j=k by omega]
    obtain⟨g,Z,M,-,J,m⟩:=Od.row p b;simp only[Z3]at M;obtain⟨rfl,-,rfl⟩:=M;have tg:=Hq (CM b a);obtain⟨y,N⟩:=nm l[k];rw[N]at m tg;have ac:(Ge y).toArray.size=35:=by simp[Ql]
    have Y:(oa.info? 181).map (·.size)=some (Ge y).length:=by rw[sy,Ql]
    have q:Hid (∀t,Db (wr.alloc (ma (Ge y).toArray t)) w.heap.size 35 (Ma F E z) (kg (l.take k) o).length ((kg (l.take k) o).flatMap Ge)):=λt=>c.2.alloc _;have G:Hid (∀t,(wr.alloc (ma (Ge y).toArray t)).rangeAt wr.heap.size 0 (Ge y)):=λt=>wg wr _ t;have u:=Hq (A2 (by have S:=MB (l.take k) o;have :=x.2;rw[Zx]at S;omega :(kg (l.take k) o).length<=2097152) c.1.size);clear N p J a;go_upto_region 4 with(first| (refine Zr rfl 181 _ rfl g (k*35) rfl (Ge y) _ m underlying181 rfl Y ?_)| (at_builtin;refine ll _ rfl _ _ 57 rfl 181 U Of 35 72 underlying57 T O P Q SA (by decide) w.heap.size (Ma F E z) _ _ rfl (q _) wr.heap.size 0 1 1 (Ge y) rfl (by rw[Ql]) (G _) (wx y) (by have :=u.1;unfold maxLen;omega) (by have :=u.1;omega) (by have :=u.2;simp;omega) ?_))
    intro W X d s I L;have n:=Hq (A2 (LB c.1 c.1.size ((Zb _ _).alloc (Za _) _) (q _) s) (by rw[tg.o];exact Od.more d:Od X w.heap.size W (kg (l.take (k+1)) o)));obtain⟨p2,m2,k2,rfl⟩:=d.shape;clear d s I L m;go_wp2;go_roundg (l.length-(k+1))
    case measure=>omega
    case rel=>exact⟨k+1,b,rfl,ld r.o,n.o⟩
  .have V:¬(k:Int)<(l.length:Int):=by omega
   have n:Hid (Ba w wr/\Od wr w.heap.size (Ma F E z) (kg l o)):=by have h:=c.o;rw[Zz (by omega)]at h;exact h
   clear p;go_wp2;go_ret;exact⟨n.1,_,rfl,n.2⟩
structure vd(w:Fa)(C b:Nat)(v:Value)(l:List Ed):Prop where
 heap:w.heap[b]? =some (ma #[v] 59 (0,0))
 row:Od w C v l
theorem vd.cell{w:Fa}{C b:Nat}{v:Value}{l:List Ed}(h:vd w C b v l):w.cell? ⟨b,0,none⟩=some v:=Ju w _ 0 _ _ (0,0) h.heap
variable{b:Nat}
theorem vd.cg(h:vd w C b v l):w.frozen? ⟨b,0,none⟩=false:=Kd w _ 0 _ _ h.heap
theorem vd.lt(h:vd w C b v l):b<w.heap.size:=(Zg.1 h.heap).1
theorem vd.below{w w':Fa}{C b:Nat}{v:Value}{l:List Ed}(h:vd w C b v l)(hb:Ba w w'):vd w' C b v l:=⟨(hb.block b h.lt).trans h.heap,h.row.below hb⟩
theorem vw(h:vd w C b v l)(hl:l.length<=2097152)(hs:∀x∈l,x.stub=false):Calls oa 102 #[Qa (some ⟨b,0,none⟩),La p] w λe w'=>e=na (Oa false)/\w'=w:=by
 obtain⟨F,E,B,rfl⟩:=h.row.shape;obtain rfl:=Od.len h.row;have d:=Hq (A3 h hl hs);have z:=h.cell;have f:=Hq Cx;clear h hl hs;go_enter func102,ntmps102;go_wp2;go_loopg [5] l.length (λg i wr=>∃k:Nat,k<=l.length/\g=l.length-k/\i=Ia ka (k:Int)/\wr=w)
 case atStart=>exact⟨0,Xa _,rfl,rfl,rfl⟩
 case round=>
  obtain⟨k,D,rfl,rfl,r⟩:=hrel;obtain rfl:=r.symm;by_cases a:k<l.length
  .have u:(k:Int)<(l.length:Int):=by omega
   obtain⟨g,y,n,-,m,c⟩:=Od.row d.1.row a;simp only[Z3]at n;obtain⟨rfl,-,rfl⟩:=n;obtain⟨s,-,t⟩:=Od.path c;rw[d.2.2 _ (Zy a)]at t;have j:Hid (wrap64 ((k:Int)+1)=((k+1:Nat):Int)):=by have h:wrap64 ((k:Int)+1)=((k+1:Nat):Int):=(by unfold wrap64;have :=d.2.1;omega);exact h
   generalize l[k].path=q at s;clear c m;go_wp2_with fail
   refine(f p q _).mono ?_;rintro e G ⟨rfl,o⟩;obtain rfl:=o.symm;go_wp2;go_roundg (l.length-(k+1))
   case measure=>omega
   case rel=>exact⟨k+1,a,rfl,ld j.o,rfl⟩
  .have u:¬(k:Int)<(l.length:Int):=by omega
   go_wp2;go_ret;exact⟨rfl,rfl⟩
def Nt:List Ed->Da->Option Nat
 | [],_=>none
 |x::l,p=>if x.path=p then some 0 else(Nt l p).map (· +1)
theorem PF:∀{i:Nat},(∀j (h:j<l.length),j<i->l[j].path≠p)->i<=l.length->Nt l p=(Nt (l.drop i) p).map (· +i):=by
 induction l with
 |nil=>intro i _ a;have :i=0:=(by simpa using a);subst this;rfl
 |cons x l ih=>
  intro i h a;cases i with
  |zero=>rw[Yx];cases Nt (x::l) p<;>rfl
  |succ i=>have b:=h 0 (by simp) (by omega);rw[Vl]at b;rw[Nt,Zj b,Y6,ih (i:=i) (λj c d=>by have :=h (j+1) (by simpa using c) (by omega);simpa using this) (by simpa using a)];cases Nt (l.drop i) p<;>simp[Nat.add_assoc]
theorem KO{i:Nat}(h:∀j (hj:j<l.length),j<i->l[j].path≠p)(hi:i<l.length)(he:l[i].path=p):Nt l p=some i:=by rw[PF h (V1 hi),Yv hi,Nt,Zo he];simp
theorem JO(h:∀j (hj:j<l.length),l[j].path≠p):Nt l p=none:=by rw[PF (i:=l.length) (λj hj _=>h j hj) (Za _),Ji (Za _)];rfl
theorem KA(h:vd w C b v l)(hl:l.length<=2097152)(hs:∀x∈l,x.stub=false):Calls oa 103 #[Qa (some ⟨b,0,none⟩),La p] w λe w'=>e=na (Ia ka (Po (Nt l p)))/\w'=w:=by
 obtain⟨M,L,J,rfl⟩:=h.row.shape;obtain rfl:=Od.len h.row;obtain⟨R,s⟩:=nm (Po (Nt l p));have f:=Hq (A4 h hl hs s);have I:=h.cell;rw[s];clear h hl hs s;go_enter func103,ntmps103;go_wp2;go_loopg [5] l.length (λg i wr=>∃k:Nat,k<=l.length/\g=l.length-k/\i=Ia ka (k:Int)/\(∀j (m:j<l.length),j<k->l[j].path≠p)/\wr=w)
 case atStart=>exact⟨0,Xa _,rfl,rfl,λj _ h=>absurd h (Nat.not_lt_zero _),rfl⟩
 case round=>
  obtain⟨k,K,rfl,rfl,a,B⟩:=hrel;obtain rfl:=B.symm;by_cases c:k<l.length
  .have F:(k:Int)<(l.length:Int):=by omega
   obtain⟨g,G,z,-,o,n⟩:=Od.row f.1.row c;simp only[Z3]at z;obtain⟨rfl,-,rfl⟩:=z;obtain⟨u,-,E⟩:=Od.path n;rw[f.2.2.1 _ (Zy c)]at E;have t:Hid (wrap64 ((k:Int)+1)=((k+1:Nat):Int)):=by have h:wrap64 ((k:Int)+1)=((k+1:Nat):Int):=(by unfold wrap64;have :=f.2.1;omega);exact h
   by_cases d:l[k].path=p
   .have r:Hid (R=(k:Int)):=by rw[<-f.2.2.2,KO a c d];rfl
    rw[d]at u;clear n o a d;go_wp2;go_ret;exact⟨by rw[r.o];rfl,rfl⟩
   .have D:Hid (∀j (m:j<l.length),j<k+1->l[j].path≠p):=λj m H=>by
     by_cases e:j=k;.subst e;exact d
     .exact a j m (by omega)
    have y:=St d;generalize l[k].path=q at u y;clear n o a d;go_wp2;go_roundg (l.length-(k+1))
    case measure=>omega
    case rel=>exact⟨k+1,c,rfl,ld t.o,D.o,rfl⟩
  .have F:¬(k:Int)<(l.length:Int):=by omega
   have r:Hid (R= -1):=by rw[<-f.2.2.2,JO λj m=>a j m (by omega)];rfl
   clear a;go_wp2;go_ret;exact⟨by rw[r.o];rfl,rfl⟩
def Gl(x:Ed)(l:List Ed):Nat:=l.foldl (λn y=>Gf ((Ke x.path).take n) (Ke y.path)) x.path.size
theorem IU(x:Ed)(l:List Ed)(y:Ed):Gl x (l++[y])=Gf ((Ke x.path).take (Gl x l)) (Ke y.path):=by unfold Gl;rw[List.foldl_append];rfl
theorem DC(p:List Nat):∀(l:List Ed) (n:Nat),l.foldl (λn y=>Gf (p.take n) (Ke y.path)) n<=n
 | [],n=>Za n
 |y::l,n=>by have h1:=DC p l (Gf (p.take n) (Ke y.path));have h2:=(Dt (p.take n) (Ke y.path)).1;rw[Zx]at h2;rw[X6];omega
theorem tr(x:Ed)(l:List Ed):Gl x l<=x.path.size:=DC _ _ _
theorem xS{a b:List Nat}{j:Nat}(h:a.take j=b.take j)(e:a[j]? =b[j]?):a.take (j+1)=b.take (j+1):=by rw[Jj,Jj,h,e]
theorem mF(s:Da)(k:Nat)(h:k<s.size):(Ke s)[k]? =some (s[k]'h).toNat:=by unfold Ke;rw[Yt,Zk (by simpa using h)];rfl
theorem nA{x:Ed}(h:Od w C v (x::l))(hl:l.length<=2097152)(hp:∀y∈x::l,y.path.size<=64):Calls oa 112 #[v] w λe w'=>e=na (Ia ka ((Gl x l:Nat):Int))/\Ba w w':=by
 obtain⟨g,ae,rfl,V,W,t⟩:=Od.row h (i:=0) (by simp);have G:(x::l).length=l.length+1:=rfl;rw[Jr,Vl]at t;obtain⟨c0,-,-⟩:w.cell? ⟨g,0,none⟩=some (La x.path)/\True/\True:=⟨t 0 _ rfl,trivial,trivial⟩;have z:=Hq (A3 h hl hp);obtain⟨L,M⟩:=nm (l.length+1);rw[G,M];have ag:(0:Int)<(L:Int):=by omega
 have O:=Hq M;clear h hl hp t G V M W;go_enter func112,ntmps112;go_wp2;go_loopg [3,4] l.length (λgh n i wr=>∃k:Nat,k<=l.length/\gh=l.length-k/\i=Ia ka ((k+1:Nat):Int)/\n=Ia ka ((Gl x (l.take k):Nat):Int)/\∃q,wr=w.drewN q)
 case atStart=>exact⟨0,Xa _,rfl,rfl,rfl,0,rfl⟩
 case round=>
  obtain⟨k,hk,rfl,rfl,rfl,q,rfl⟩:=hrel;obtain⟨n,o⟩:=nm (Gl x (l.take k));rw[o];have X:n<=x.path.size:=by rw[<-o];exact tr _ _
  by_cases b:k<l.length
  .have i1:((k+1:Nat):Int)<(L:Int):=by have :=O.o;omega
   obtain⟨g',ac,Y,-,-,u⟩:=Od.row z.1 (i:=k+1) (by simpa using b);simp only[Z3,Xj,Addr.mk.injEq,and_true]at Y;obtain⟨rfl,-,rfl⟩:=Y;rw[List.getElem_cons_succ]at u;obtain⟨R,-,-⟩:=Od.path u;have Z:=z.2.2 x (Yj ..);have J:=z.2.2 _ (Yy _ (Zy b));obtain⟨y,N⟩:=nm l[k];have E:Gl x (l.take (k+1))=Gf ((Ke x.path).take n) (Ke y.path):=by rw[Z1 b,IU,o,N]
   have tg:=Hq E;clear E;rw[N]at R J;obtain⟨d,H⟩:=nm x.path;obtain⟨c,I⟩:=nm y.path;rw[H]at c0 X Z tg;rw[I]at R J tg;have r:Hid (wrap64 (((k+1:Nat):Int)+1)=((k+1+1:Nat):Int)):=by have h:wrap64 (((k+1:Nat):Int)+1)=((k+1+1:Nat):Int):=(by unfold wrap64;have :=z.2.1;omega);exact h
   clear u N H I o;go_wp2;go_loopg [5] n (λgh kk wr=>∃j:Nat,j<=n/\j<=c.size/\gh=n-j/\kk=Ia ka (j:Int)/\((Ke d).take n).take j=(Ke c).take j/\∃q,wr=w.drewN q)
   case atStart=>exact⟨0,Xa _,Xa _,rfl,rfl,by simp,q,rfl⟩
   case round=>
    obtain⟨j,ah,ai,rfl,rfl,a,q2,rfl⟩:=hrel;have f:((Ke d).take n).length=n:=by rw[Zx,ta];omega
    have m:=ta c;by_cases Q:j<n
    .have i2:(j:Int)<(n:Int):=by omega
     have F:j<d.size:=by omega
     by_cases K:j<c.size
     .have i3:(j:Int)<(c.size:Int):=by omega
      have i4:(j:Int)<(d.size:Int):=by omega
      have B:=mF d j F;have s:=mF c j K;obtain⟨P,T⟩:=nm (c[j]'K).toNat;obtain⟨a2,U⟩:=nm (d[j]'F).toNat;rw[U]at B;rw[T]at s;have D:((Ke d).take n)[j]? =some a2:=by rw[Xp Q,B]
      by_cases c3:P=a2
      .subst c3;have HQ:=Hq (xS a (by rw[D,s]));clear B s D a f m;go_upto_region 6 with fail
       go_quiet (fail)
       go_wp2;go_roundg (n-(j+1))
       case measure=>omega
       case rel=>exact⟨j+1,Q,K,rfl,ld rfl,HQ.o,_,rfl⟩
      .have aj:((P:Int)==(a2:Int))=false:=by rw[Xe];omega
       have p:=Hq (xq j _ _ a (by omega) (by omega) (.inr (.inr (by rw[D,s];simp;omega))));clear B s D a f m;go_upto_region 6 with fail
       go_quiet (fail)
       go_wp2;go_roundg (l.length-(k+1))
       case measure=>omega
       case rel=>exact⟨k+1,b,rfl,ld r.o,by rw[tg.o,p.o],_,rfl⟩
     .have i3:¬(j:Int)<(c.size:Int):=by omega
      have p:=Hq (xq j _ _ a (by omega) (by omega) (.inr (.inl (by omega))));clear a f m;go_upto_region 6 with fail
      go_quiet (fail)
      go_wp2;go_roundg (l.length-(k+1))
      case measure=>omega
      case rel=>exact⟨k+1,b,rfl,ld r.o,by rw[tg.o,p.o],_,rfl⟩
    .have i2:¬(j:Int)<(n:Int):=by omega
     have p:=Hq (xq j _ _ a (by omega) (by omega) (.inl (by omega)));clear a f m;go_upto_region 6 with fail
     go_quiet (fail)
     go_wp2;go_roundg (l.length-(k+1))
     case measure=>omega
     case rel=>exact⟨k+1,b,rfl,ld r.o,by rw[tg.o,p.o],_,rfl⟩
  .have i1:¬((k+1:Nat):Int)<(L:Int):=by have :=O.o;omega
   have S:Gl x l=n:=by rw[<-o,Zz (by omega)]
   have HE:=Hq S;clear S;clear o;go_wp2;go_ret;exact⟨by rw[HE.o];rfl,Below.drewN (Zb _ _) q⟩
def Al(x:Ed)(l:List Ed):Nat:=if l.length=0 then 1 else if 0<Gl x l then 2 else 3
theorem Qr{x:Ed}(h:Od w C v (x::l))(hl:l.length<=2097152)(hp:∀y∈x::l,y.path.size<=64)(hs:x.stub=false):Calls oa 111 #[v] w λe w'=>e=na (Ia ka ((Al x l:Nat):Int))/\Ba w w':=by
 have c:=Hq (nA h hl hp);obtain⟨g,z,rfl,o,p,f⟩:=Od.row h (i:=0) (by simp);rw[Jr,Vl]at f;have t:w.cell? ⟨g,2,none⟩=some (Oa false):=by rw[<-hs];exact f 2 _ rfl
 have k:(x::l).length=l.length+1:=rfl;rw[k]at c⊢;unfold Al;clear h hp f k o hs;by_cases j:l.length=0
 .rw[j,Zo rfl];rw[j]at c;go_enter func111,ntmps111;go_wp2_with fail
  refine c.mono ?_;rintro e s ⟨rfl,b⟩;have B:=(Zc (a:=⟨g,2,none⟩) (b.block g p)).trans t;have d:=Hq b;clear b;go_wp2;go_ret;exact⟨rfl,d.o⟩
 .rw[Zj j];have r:(((l.length+1:Nat):Int)==1)=false:=by rw[Xe];omega
  obtain⟨L,m⟩:=nm (l.length+1);rw[m]at r c⊢;obtain⟨n,q⟩:=nm (Gl x l);rw[q]at c⊢;clear m q j;by_cases u:0<n
  .have D:(0:Int)<(n:Int):=by omega
   rw[Zo u];go_enter func111,ntmps111;go_wp2_with fail
   refine c.mono ?_;rintro e s ⟨rfl,b⟩;have d:=Hq b;clear b;go_wp2;go_ret;exact⟨rfl,d.o⟩
  .obtain rfl:n=0:=by omega
   rw[Zj (by omega)];go_enter func111,ntmps111;go_wp2_with fail
   refine c.mono ?_;rintro e s ⟨rfl,b⟩;have d:=Hq b;clear b;go_wp2;go_ret;exact⟨rfl,d.o⟩
end Go.Proofs.YtpfbdlnibdfcoaaGreatDoor
