/-
  Proved: for every script of steps that together hold at most 1048576 values and letters, the call of twigslaw.Proofs at the named commit returns true and leaves its argument as it was: every New, Put, Delete, Get, Root, Prove, Extract, Verify, VerifyStorage answers as the document says, the lists that came out read as their owner wrote them, those that went in are the same behind the call, and behind the last step the root of every map is the document's.
  Conditions: the second form's bound on what comes in; the listed package-level variables hold what the program's text lays (the card ties them).
-/
import Derived.Test.YtpfbdlnibdfcoaaGreatDoorCards
import Derived.Test.YtpfbdlnibdfcoaaGreatDoorTie
import Derived.Test.YtpfbdlnibdfcoaaGreatDoorPvPsD
import Derived.Test.YtpfbdlnibdfcoaaGreatDoorPvProofsClosed
namespace Go.Proofs.YtpfbdlnibdfcoaaGreatDoor
open Go.ChangeShapes Go.WideShapes Go.ChangeAt Go.RowKit
set_option maxRecDepth 100000
set_option maxHeartbeats 0
theorem yx:Tryz.prog.cellsOf 50=160:=by kernel_rfl
theorem cE:Tryz.prog.cellsOf 9=1:=by kernel_rfl
theorem gS:Tryz.prog.cellsOf 4=1:=by kernel_rfl
theorem EQ:Tryz.prog.cellsOf 40=1:=by kernel_rfl
variable{H:Type}
theorem mM(d:DataW H):1<=Rows.uptoBulk d:=by
 cases d with
 |lit l=>cases l<;>simp[Rows.uptoBulk]
 |_=>simp[Rows.uptoBulk]
theorem yz{H:Type}{d:DataW H}:∀{l:List (DataW H)},d∈l->Rows.uptoBulk d<=Rows.uptoBulkAll l
 |e::l,h=>by
  rw[Rows.uptoBulkAll];rcases Yf.1 h with rfl|h;.omega
  .have :=yz h;omega
theorem FF:∀l:List (DataW H),l.length<=Rows.uptoBulkAll l:=by
 intro l;induction l with
 |nil=>simp[Rows.uptoBulkAll]
 |cons e l ih=>rw[Rows.uptoBulkAll,Zu];have :=mM e;omega
variable{cs:List Value}
theorem Wp{o n j:Nat}{l:List Value}(h:(cs.drop o).take n=l)(hj:j<l.length):cs.toArray[o+j]? =l[j]? :=by
 have a:l.length<=n:=by rw[<-h,Zx];exact Nat.min_le_left _ _
 have e:((cs.drop o).take n)[j]? =(cs.drop o)[j]? :=Xp (by omega);rw[h,List.getElem?_drop]at e;rw[e];simp
theorem RR:Tryz.prog.cellsOf 37=32:=by kernel_rfl
theorem TO:Tryz.prog.cellsOf 39=32:=by kernel_rfl
theorem OP:Tryz.prog.cellsOf 48=20:=by kernel_rfl
theorem CT:Tryz.prog.cellsOf 5=1:=by kernel_rfl
variable{enc:TypeId×Value->H}{W:Fa}{base fuel:Nat}{sp:Nat->Bool}{held:Bool}{x:DataW H×List MemPlace}
theorem KC{N:Nat}{t:TypeId}(ht:Tryz.prog.underlying t=some (.array N 5))(hc:Tryz.prog.cellsOf t=N)(h:DataW.trod enc Tryz.prog W base sp held fuel t cs=some x):∃root:List Nat,root.length=N/\(∀b∈root,b<256)/\cs=root.map Kf:=by
 obtain⟨u,m,_,_,l,r,q⟩:=DataW.trod_array ht h;rw[hc]at l;have f:∀i,i<N->∃n:Nat,n<256/\cs[i]? =some (Kf n):=by
  intro i d;have p:=q i d;rw[CT,Nat.mul_one,Zk (by rw[r];exact d)]at p;obtain⟨z,e,_,s⟩:=DataW.trod_int Tryz.underlying5 p;have k:=bounds_u8 s;refine⟨z.toNat,by omega,?_⟩;have j:(cs.drop i)[0]? =some (.int .u8 z):=by rw[<-Xp (show 0<1 by omega),e];rfl
  rw[List.getElem?_drop,V0]at j;rw[j];congr 2;omega
 refine⟨cs.map (λv=>match v with | .int _ z=>z.toNat|_=>0),by rw[Zl,l],?_,?_⟩;.intro b k;obtain⟨v,g,rfl⟩:=Xd.1 k;obtain⟨i,c,rfl⟩:=Xv g;obtain⟨n,o,a⟩:=f i (by omega);rw[Zk c,Xj]at a;rw[a];simpa using o
 .rw[Xx];conv=>lhs;rw[<-List.map_id cs]
  apply Vs;intro v g;obtain⟨i,c,rfl⟩:=Xv g;obtain⟨n,o,a⟩:=f i (by omega);rw[Zk c,Xj]at a;rw[a];simp
theorem sI(h:DataW.trod enc Tryz.prog W base sp held fuel 40 cs=some x):∃p c,∃l:List Da,cs=[.slice p l.length c]/\Nf W p l c/\l.length<=Rows.uptoBulk x.1/\(∀u∈l,u.size<=Rows.uptoBulk x.1)/\∀a,0<l.length->p=some a->a.block<W.heap.size:=by
 rcases Go.Deep.open_slice1 Tryz.underlying40 cE h with⟨No,hx⟩|⟨a,len,cap,m,n,V,D,Pl,No,_,hlc,_,hm,hx,hel⟩;.exact⟨none,0,[],No,.inl ⟨rfl,rfl,rfl⟩,by simp,by simp,λa d=>by simp at d⟩
 .have G:len<=m:=by rw[hm];split<;>omega
  have w:∀i,i<len->∃s:Da,W.cell? (a.add i)=some (.string s)/\s.size<=Rows.uptoBulk (D i):=λi y=>by
   obtain⟨g,r⟩:=hel i (by omega);obtain⟨s,C,F,_⟩:=DataW.trod_string Tryz.underlying9 r;simp only[Vo,and_true]at C;refine⟨s,by rw[g,C],?_⟩;have e:s.data.toList.length=s.size:=by rw[Yh];rfl
   rw[(Prod.mk.inj F).1,show Rows.uptoBulk (H:=H) (.lit (.string s.data.toList))=s.data.toList.length+1 from rfl];omega
  obtain⟨f,k⟩:=Go.Deep.choose_lt w;obtain⟨b,v,q⟩:=a;have E:Rows.uptoBulk x.1=Rows.uptoBulkAll ((List.range len).map D)+Rows.uptoBulkAll ((List.range (m-len)).map λj=>D (len+j))+1:=by rw[hx];rfl
  have t:0<len->q=none/\b<W.heap.size:=λd=>by obtain⟨g,-⟩:=k 0 d;have r:=World.cell?_spot g;exact⟨by simpa[Addr.add]using r,by simpa[Addr.add]using Yo W _ g⟩
  refine⟨some ⟨b,v,q⟩,cap,(List.range len).map f,by rw[No];simp,?_,?_,λu o=>?_,λa d e=>?_⟩
  .by_cases d:0<len
   .obtain⟨rfl,z⟩:=t d;refine .inr ⟨b,v,rfl,by simpa using hlc,λ_=>z,λj u o=>?_⟩;have B:j<len:=by have :=(Zw.1 o).1;simpa using this
    rw[Xx,Yt,List.getElem?_range B]at o;have :=(k j B).1;rw[X7]at this;rw[this];simpa using o
   .obtain rfl:len=0:=by omega
    exact .inl ⟨rfl,rfl,rfl⟩
  .have :=FF ((List.range len).map D);rw[Zl,List.length_range]at this;rw[E,Zl,List.length_range];omega
  .obtain⟨i,y,rfl⟩:=Xd.1 o;have g:=(k i (X3.1 y)).2;have r:=yz (Xd.2 ⟨i,y,rfl⟩:D i∈(List.range len).map D);omega
  .obtain rfl:=Zi e;rw[Zl,List.length_range]at d;exact(t d).2
theorem nP(h:DataW.trod enc Tryz.prog W base sp held fuel 50 cs=some x)(hbk:Rows.uptoBulk x.1<=1048576):∃kd a K s fl hh ad p1 p2 l m c1 c2,U1 W cs.toArray kd a K s fl hh ad p1 p2 l m c1 c2/\(-9223372036854775808<=a/\a<9223372036854775808):=by
 obtain⟨b,n,_,rfl,hl,E,c⟩:=DataW.trod_struct Tryz.underlying50 h;have d:∀i,i<12->∃y,b[i]? =some y:=λi hi=>⟨b[i]'(by rw[E];show i<12;omega),Zk _⟩;have F:∀{i:Nat} {y:DataW H×List MemPlace},b[i]? =some y->Rows.uptoBulk y.1<=1048576:=λ{i y} hy=>by have h1:y.1∈b.map (·.1):=Xd.2 ⟨y,Vw hy,rfl⟩;have h2:=yz h1;have h3:Rows.uptoBulk (DataW.agg (b.map (·.1)))=Rows.uptoBulkAll (b.map (·.1))+1:=rfl;simp only at hbk;omega
 obtain⟨y0,ag⟩:=d 0 (by omega);obtain⟨y1,ah⟩:=d 1 (by omega);obtain⟨y2,ai⟩:=d 2 (by omega);obtain⟨y4,aj⟩:=d 4 (by omega);obtain⟨y5,B⟩:=d 5 (by omega);obtain⟨y6,ak⟩:=d 6 (by omega);obtain⟨y7,C⟩:=d 7 (by omega);obtain⟨y8,D⟩:=d 8 (by omega);obtain⟨al,G⟩:=d 11 (by omega);have T:DataW.trod enc Tryz.prog W base sp held n 3 ((cs.drop 0).take (Tryz.prog.cellsOf 3))=b[0]? :=c 0 _ rfl;have U:DataW.trod enc Tryz.prog W base sp held n 3 ((cs.drop 1).take (Tryz.prog.cellsOf 3))=b[1]? :=c 1 _ rfl;have V:DataW.trod enc Tryz.prog W base sp held n 37 ((cs.drop 2).take (Tryz.prog.cellsOf 37))=b[2]? :=c 2 _ rfl;have X:DataW.trod enc Tryz.prog W base sp held n 39 ((cs.drop 35).take (Tryz.prog.cellsOf 39))=b[4]? :=c 4 _ rfl;have Y:DataW.trod enc Tryz.prog W base sp held n 9 ((cs.drop 67).take (Tryz.prog.cellsOf 9))=b[5]? :=c 5 _ rfl;have Z:DataW.trod enc Tryz.prog W base sp held n 4 ((cs.drop 68).take (Tryz.prog.cellsOf 4))=b[6]? :=c 6 _ rfl;have f7:DataW.trod enc Tryz.prog W base sp held n 40 ((cs.drop 69).take (Tryz.prog.cellsOf 40))=b[7]? :=c 7 _ rfl;have f8:DataW.trod enc Tryz.prog W base sp held n 40 ((cs.drop 70).take (Tryz.prog.cellsOf 40))=b[8]? :=c 8 _ rfl;have q:DataW.trod enc Tryz.prog W base sp held n 48 ((cs.drop 140).take (Tryz.prog.cellsOf 48))=b[11]? :=c 11 _ rfl;rw[ag]at T;rw[ah]at U;rw[ai]at V;rw[aj]at X;rw[B]at Y;rw[ak]at Z;rw[C]at f7;rw[D]at f8;rw[G]at q;obtain⟨kd,I,_,_⟩:=DataW.trod_int Tryz.underlying3 T;obtain⟨a,J,_,w1⟩:=DataW.trod_int Tryz.underlying3 U;obtain⟨K,f,r,O⟩:=KC Tryz.underlying37 RR V;obtain⟨hh,w,ae,e4⟩:=KC Tryz.underlying39 TO X;obtain⟨s,P,x5,_⟩:=DataW.trod_string Tryz.underlying9 Y;obtain⟨fl,Q,_⟩:=DataW.trod_bool Tryz.underlying4 Z;obtain⟨p1,c1,l,R,r7,l7,z7,b7⟩:=sI f7;obtain⟨p2,c2,m,S,r8,l8,_,_⟩:=sI f8;obtain⟨ad,v,ac,M⟩:=KC Tryz.underlying48 OP q;rw[Wt]at I J;rw[cE]at P;rw[gS]at Q;rw[EQ]at R S;have hb:=bounds_i64 w1;have g:∀{o N:Nat} {t:TypeId} {L:List Nat},L.length=N->(cs.drop o).take (Tryz.prog.cellsOf t)=L.map Kf->ki cs.toArray o (L.map Kf):=λhL e j u p=>by rw[Wp e (Zw.1 p).1];exact p
 have hs:s.size<=1048576:=by
  have h5:=F B;have e:s.data.toList.length=s.size:=by rw[Yh];rfl
  rw[x5,show Rows.uptoBulk (H:=H) (.lit (.string s.data.toList))=s.data.toList.length+1 from rfl]at h5;omega
 have h7:=F C;have h8:=F D;refine⟨kd,a,K.toArray,s,fl,hh,ad,p1,p2,l,m,c1,c2,⟨⟨⟨by rw[Ym,hl,yx],Wp (j:=0) I (by simp),Wp (j:=0) J (by simp),λj k=>?_,Wp (j:=0) P (by simp),by simpa using f,λj=>?_⟩,⟨by rw[Ym,hl,yx],g f O,g w e4,g v M,Wp (j:=0) R (by simp),Wp (j:=0) S (by simp),f,w,v,r,ae,ac⟩,Wp (j:=0) Q (by simp)⟩,r7,r8,by omega,by omega,λu p=>Z2 (z7 u p) h7,hs,b7⟩,by omega,by omega⟩
 .have z:j<K.length:=by simpa using k
  rw[Wp O (by simpa using z),Yt,Zk z];simp
 .by_cases k:j<K.length;.rw[Z9 K.toArray j (by simpa using k)];exact r _ (by simp)
  .rw[getElem!_neg K.toArray j (by simpa using k)];decide
theorem iG(On:Option Addr)(n cap:Nat)(w:Fa)(sent:Nat->Addr)(hG:Ground w sent)(hn:n<=1048576)(hS:E9 w On n):Calls Tryz.prog 3 #[.slice On n cap] w λe w'=>e=.returned (.bool true)/\Ba w w':=by
 have c:=Hq (nO On n cap w sent hG hn hS);clear hG hn hS;go_enter Tryz.func3,Tryz.ntmps3;go_wp2_with fail
 refine c.mono ?_;rintro e d ⟨rfl,a⟩;have b:Hid (Ba w d):=a;clear a;go_wp2;go_ret;exact⟨rfl,b.o⟩
theorem XO(os:Os):laidMetH Tryz.prog Rows.proofsUptoRow.laid ((P0 os).forCall (λ_ _=>0) ⟨#[],#[.slice none 0 0],[]⟩).memory:=laidMetH_of_parts (laidMet_of_run' 8 (by kernel_rfl) (by kernel_rfl)) (by kernel_rfl)
theorem sM(os:Os)(enc:TypeId×Value->H):∃places,DataW.whole enc Tryz.prog ((P0 os).forCall (λ_ _=>0) ⟨#[],#[.slice none 0 0],[]⟩).memory Tryz.f3.params.toList Rows.proofsSpec.vars false #[Value.slice none 0 0].toList 8=some ([.nil],[],places):=⟨[],by kernel_rfl⟩
theorem aK(hL:laidMetH Tryz.prog Rows.proofsUptoRow.laid W):(∃sent,Qb W sent)/\Ht W/\qb W:=by have h:laidMet Tryz.prog (("math/bits.deBruijn32tab",Rows.laid_math_bits_deBruijn32tab)::("twigs/digest.turns",Rows.laid_twigs_digest_turns)::("twigs/digest.roundKeys",Rows.laid_twigs_digest_roundKeys)::([1,2,3,4,5,6,7,8,9,10,11,12,13].map λn=>(Hk n,Hj n))) W:=hL.1;exact⟨lR (by decide) (by decide) h.tail.tail.tail,rT (hs:=[("errors.errorType",Rows.laid_errors_errorType)]) (Y8.2 rfl) hL.2,RK h.tail⟩
theorem QL(H:Type)(enc:TypeId×Value->H)(W:Fa)(base:Nat)(args:Array Value)(ds gs:List (DataW H))(before:List MemPlace)(hval:∀(j:Nat) t v,Tryz.f3.params[j]? =some t->args[j]? =some v->Value.okWide Tryz.prog W .any base t v)(hW:DataW.Whole enc Tryz.prog Tryz.f3.params.toList Rows.proofsSpec.vars false W args.toList ds gs before)(hL:laidMetH Tryz.prog Rows.proofsUptoRow.laid W)(hk:Rows.uptoSmall H (ds++gs)=true):Calls Tryz.prog 3 args W λe W'=>∃v,e=.returned v/\Rows.proofsSpec.post enc Tryz.prog Tryz.f3 false true false false W args v W':=by
 obtain⟨⟨sent,J⟩,C,L⟩:=aK hL;have hM:16<=W.heap.size:=by have h1:=Yo W _ (L.1 0 (by omega));have h2:=Yo W _ (L.2 0 (by omega));simp only at h1 h2;omega
 have Z:Ground W sent:=⟨⟨J,L,hM,λn R=>J.low R,λn R=>(J.plain n R).lt⟩,C,Yo W _ C⟩;have d:=hW;obtain⟨p,q,B,hV,rfl,aw,ay⟩:=hW;have Y:DataW.TrodAll enc Tryz.prog W 0 (λ_=>true) true Tryz.f3.params.toList args.toList ds p:=B;rw[Tryz.params3]at Y hval;obtain⟨v0,az,d0,ar,p0,q0,am,rfl,rfl,V,r0⟩:=trodAll_cons Y;obtain⟨rfl,rfl,rfl⟩:=trodAll_nil r0;obtain rfl:args=#[v0]:=by cases args;simp_all
 obtain⟨rfl,rfl⟩:=trodVars_none hV;obtain⟨a0,len,T,rfl⟩:=okWide_slice Tryz.underlying22 (hval 0 22 v0 rfl rfl);have X:=V;obtain⟨ao,hf⟩:=V;clear B;simp only[Jy]at d hk;have aj:∀x∈p0,x.block<W.heap.size:=λx u=>by simpa using d.lt x u
 have z:∀W':Fa,Ba W W'->Rows.proofsSpec.post enc Tryz.prog Tryz.f3 false true false false W #[.slice a0 len T] (.bool true) W':=by
  intro W' c;refine⟨[d0],[],_,[]++[],p0++[],[],d,?_,?_,?_,c.frame _,λh=>by cases h⟩;.exact trodAll_cons_mk (shut_bool Tryz.underlying4 true) trodAll_mk0
  .exact trodAll_cons_mk (Below.trod eR (by kernel_rfl) (Jx (by kernel_rfl)) X c aj) trodAll_mk0
  .rfl
 rcases Go.Deep.open_slice Tryz.underlying22 hf with⟨No,u⟩|⟨a,len',cap',m,n,D,Pl,No,_,hlc,hcm,hm,u,hel⟩;.simp[Value.cells]at No;obtain⟨rfl,rfl,rfl⟩:=No;refine(iG none 0 0 W sent Z (by omega) (λi hi=>by omega)).mono λe W' ⟨P,c⟩=>?_;subst P;exact⟨_,rfl,z _ c⟩
 .simp[Value.cells]at No;obtain⟨rfl,rfl,rfl⟩:=No;simp only[if_true]at hm;subst hm;simp only[Prod.mk.injEq]at u;obtain⟨rfl,rfl⟩:=u;have w:Rows.uptoBulkAll [DataW.slice (H:=H) ((List.range len).map D) ((List.range (m-len)).map λj=>D (len+j))]<=1048576:=Jx hk;simp only[Rows.uptoBulkAll,Rows.uptoBulk]at w;have ae:=FF ((List.range len).map D);rw[Zl,List.length_range]at ae;have hS:E9 W (some a) len:=by
   intro i hi;obtain⟨U,ah,ai⟩:=hel i (by omega);obtain⟨_,G,g⟩:=World.cells?_some ah;have Q:D i∈(List.range len).map D:=Xd.2 ⟨i,X3.2 hi,rfl⟩;have au:=yz Q;obtain⟨kd,aa,K,s,fl,hh,ad,p1,p2,l,mm,c1,c2,I,ac⟩:=nP ai (by show Rows.uptoBulk (D i)<=1048576;omega);rw[yx]at G g;obtain⟨b,al,S⟩:=a;obtain⟨aq,N,_⟩:=hel 0 (by omega);obtain⟨_,O,o⟩:=World.cells?_some N;rw[yx]at O o;have r:=o 0 (by omega);rw[Zk (by omega)]at r;have y:S=none:=by simpa[Addr.add]using World.cell?_spot r
   subst y;have E:=g 0 (by omega);have ak:U[0]? =some (.int .i64 kd):=by have :=I.op.k.k;simpa using this
   rw[ak]at E;have ag:b<W.heap.size:=by have :=Yo W _ E;simpa[X7]using this
   refine⟨b,al,U.toArray,kd,aa,K,s,fl,hh,ad,p1,p2,l,mm,c1,c2,rfl,ag,I,ac,λj v hv=>?_⟩;have hj:j<160:=by have :=(Zw.1 hv).1;simpa[G]using this
   have F:=g j hj;rw[X7,X7]at F;rw[F,<-hv]
  refine(iG (some a) len m W sent Z (by omega) hS).mono λe W' ⟨P,c⟩=>?_;subst P;exact⟨_,rfl,z _ c⟩
theorem rP(os:Os)(started:os.Started)(H:Type)(enc:TypeId×Value->H)(F:Stop.Interp):ReturnsInHanded {} Tryz.checked os 3 .any ((Rows.OpenSpec.upto Rows.proofsSpec).preRow enc Tryz.prog Tryz.f3 Rows.proofsUptoRow.domain false Rows.proofsUptoRow.laid) (((Rows.OpenSpec.upto Rows.proofsSpec).at F).post enc Tryz.prog Tryz.f3 false true false false):=by obtain⟨g,n⟩:=sM os enc;refine returnsInHanded_of_row (C:=Tryz.checked) (s:=Rows.OpenSpec.upto Rows.proofsSpec) own started (by kernel_rfl) Tryz.func3 (witness_row_at (enc:=enc) (C:=Tryz.checked) false (P0 os) #[.slice none 0 0] rfl (by kernel_rfl) (by kernel_rfl) (by kernel_rfl) (OpenSpec.preRow_of_cond 8 n (by kernel_rfl) (λk m=>by cases m;kernel_rfl) (by kernel_rfl) (XO os))) ?_;intro W d c h i a e l _ b _ j _ _;exact QL H enc W d c h i a e l j (b _ rfl)
theorem QO:Rows.ProofsUptoSaid:=OpenClaim.holds_of_cond 3 Tryz.f3 rfl rfl rfl rfl rfl rfl rfl ⟨rfl,rfl,rfl,rfl,rfl⟩ rfl rfl rfl rfl rfl (by as_aux_lemma=>kernel_rfl) Tryz.func3 KK
  (Jx (by as_aux_lemma=>kernel_rfl)) (by unfold Func.isWrapper;first| (rw[Zo (by decide+kernel)];kernel_rfl)| (rw[Zj (by decide+kernel)];exact⟨rfl,rfl⟩))
  (λos started H enc _ F=>by rw[OpenClaim.pre_eq_preRow];exact rP os started H enc F)
theorem plain(f:FuncId)(fn:Func)(hf:Tryz.pinned.checked.prog.funcNamed "twigs/twigslaw.Proofs" =some f)(hfn:Tryz.pinned.checked.prog.funcs[f]? =some fn):Rows.proofsUptoCard.stood.looks=Tryz.pinned.checked.prog.looks []/\∀(j:Nat) t,fn.params[j]? =some t->Tryz.pinned.checked.prog.wantsStandIn t=false:=by
 obtain rfl:f=3:=Zi ((show Tryz.prog.funcNamed "twigs/twigslaw.Proofs" =some 3 by kernel_rfl).symm.trans hf)|>.symm;obtain rfl:fn=Tryz.f3:=(Zi (Tryz.func3.symm.trans hfn)).symm;refine⟨by kernel_rfl,λj t a=>?_⟩;rw[Tryz.params3]at a;obtain rfl:t=22:=by simpa using Array.mem_of_getElem? a
 exact(show Tryz.prog.wantsStandIn 22=false by kernel_rfl)
theorem proofs_upto:Rows.ProofsUptoCardSaid:=Claim7.holds_tied_plain_at .later [] _ _ _ _ QO (λ_ h=>by cases h) (by as_aux_lemma=>kernel_rfl) (λ_ h=>by cases h) proofsUpto_row_tie rfl ⟨rfl,rfl⟩ (by as_aux_lemma=>kernel_rfl) rfl plain (by as_aux_lemma=>kernel_rfl)
end Go.Proofs.YtpfbdlnibdfcoaaGreatDoor
