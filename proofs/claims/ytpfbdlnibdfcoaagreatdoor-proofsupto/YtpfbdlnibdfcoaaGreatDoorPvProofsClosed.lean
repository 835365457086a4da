import Derived.Test.YtpfbdlnibdfcoaaGreatDoorRows
import Derived.Test.YtpfbdlnibdfcoaaGreatDoorPvSmaG
namespace Go.Proofs.YtpfbdlnibdfcoaaGreatDoor
open Go.ChangeShapes Go.WideShapes Go.ChangeAt Go.RowKit
set_option maxRecDepth 100000
set_option maxHeartbeats 0
section
theorem lm:Tryz.prog.globalNamed "twigs/digest.turns" =some 15:=by kernel_rfl
theorem Fk:(Tryz.prog.globals[15]?).map (·.type)=some 128:=by kernel_rfl
theorem zE:Tryz.prog.globalNamed "twigs/digest.roundKeys" =some 13:=by kernel_rfl
theorem SM:(Tryz.prog.globals[13]?).map (·.type)=some 129:=by kernel_rfl
theorem GO:Tryz.prog.cellsOf 129=24:=by kernel_rfl
theorem Cn:Tryz.prog.cellsOf 127=5:=by kernel_rfl
theorem DM:Tryz.prog.cellsOf 44=1:=by kernel_rfl
theorem Wt:Tryz.prog.cellsOf 3=1:=by kernel_rfl
def Ai:Nat->List Int
 |0=>[0,36,3,41,18]
 |1=>[1,44,10,45,2]
 |2=>[62,6,43,15,61]
 |3=>[28,55,25,21,56]
 |4=>[27,20,39,8,14]
 |_=>[]
variable{cs:List Value}
theorem nK(h:∀i,i<5->(cs.drop (i*5)).take 5=(Ai i).map λz=>Value.int .i64 z)(j:Nat)(hj:j<25):cs[j]? =some (.int .i64 ((Fb[j]! :Nat):Int)):=by
 have e:cs[j]? =((cs.drop (j/5*5)).take 5)[j%5]? :=by rw[List.getElem?_take,Zo (by omega),List.getElem?_drop];congr 1;omega
 rw[e,h (j/5) (by omega)];have a:∀i:Fin 25,(Ai (i.val/5))[i.val%5]? =some ((Fb[i.val]! :Nat):Int):=by decide+kernel
 rw[Yt,a ⟨j,hj⟩];rfl
theorem sv{H:Type}{enc:TypeId×Value->H}{P:Program}{w:Fa}{base:Nat}{sp:Nat->Bool}{held:Bool}{fuel:Nat}{t e:TypeId}{n m c:Nat}{rows:List (DataW H)}{p:List MemPlace}(ht:P.underlying t=some (.array n e))(hn:n=m)(hc:P.cellsOf e=c)(h:DataW.trod enc P w base sp held fuel t cs=some (.agg rows,p))(i:Nat)(hi:i<m)(d:DataW H)(hd:rows[i]? =some d):∃f q,DataW.trod enc P w base sp held f e ((cs.drop (i*c)).take c)=some (d,q):=by
 subst hn;obtain⟨k,f,_,b,_,l,j⟩:=DataW.trod_array ht h;simp only[Prod.mk.injEq,DataW.agg.injEq]at b;obtain⟨g,_⟩:=b;have a:=j i hi;rw[hc]at a;rw[g,Yt]at hd;cases hq:k[i]? with
 |none=>rw[hq]at hd;cases hd
 |some y=>rw[hq]at hd a;simp only[Vp,Xj]at hd;exact⟨f,y.2,by rw[a,<-hd]⟩
theorem RK{rest:List (String×DataW Unit)}{W:Fa}(h':laidMet Tryz.prog (("twigs/digest.turns",Rows.laid_twigs_digest_turns)::("twigs/digest.roundKeys",Rows.laid_twigs_digest_roundKeys)::rest) W):qb W:=by
 refine⟨?_,?_⟩
 .obtain⟨t,⟨s,u,l,m,p,q,h,k,d,b,_,_⟩,_⟩:=h';obtain rfl:=Zi (lm.symm.trans h);obtain rfl:=Zi (Fk.symm.trans k);have e:∀i,i<5->(l.toList.drop (i*5)).take 5=(Ai i).map λz=>Value.int .i64 z:=by
   intro i o;match i,o with
   |0,_=>obtain⟨f,q,a⟩:=sv Tryz.underlying128 rfl Cn b 0 (by omega) (Lib.tabData .i64 (Ai 0)) rfl;exact Lib.cells_of_tab Tryz.underlying127 Tryz.underlying3 Wt Cn a
   |1,_=>obtain⟨f,q,a⟩:=sv Tryz.underlying128 rfl Cn b 1 (by omega) (Lib.tabData .i64 (Ai 1)) rfl;exact Lib.cells_of_tab Tryz.underlying127 Tryz.underlying3 Wt Cn a
   |2,_=>obtain⟨f,q,a⟩:=sv Tryz.underlying128 rfl Cn b 2 (by omega) (Lib.tabData .i64 (Ai 2)) rfl;exact Lib.cells_of_tab Tryz.underlying127 Tryz.underlying3 Wt Cn a
   |3,_=>obtain⟨f,q,a⟩:=sv Tryz.underlying128 rfl Cn b 3 (by omega) (Lib.tabData .i64 (Ai 3)) rfl;exact Lib.cells_of_tab Tryz.underlying127 Tryz.underlying3 Wt Cn a
   |4,_=>obtain⟨f,q,a⟩:=sv Tryz.underlying128 rfl Cn b 4 (by omega) (Lib.tabData .i64 (Ai 4)) rfl;exact Lib.cells_of_tab Tryz.underlying127 Tryz.underlying3 Wt Cn a
  intro j c;have n:=World.var?_cell lm d j;rw[n];have :=nK e j c;simpa using this
 .intro j c;have r:Lib.TabIs Tryz.prog W "twigs/digest.roundKeys" .u64 [1,32898,9223372036854808714,9223372039002292224,32907,2147483649,9223372039002292353,9223372036854808585,138,136,2147516425,2147483658,2147516555,9223372036854775947,9223372036854808713,9223372036854808579,9223372036854808578,9223372036854775936,32778,9223372039002259466,9223372039002292353,9223372036854808704,2147483649,9223372039002292232]:=Lib.tabIs_of_head (rest:=rest) zE SM Tryz.underlying129 Tryz.underlying44 DM GO h'.tail;rw[r.cell zE j c];have g:∀i:Fin 24,([1,32898,9223372036854808714,9223372039002292224,32907,2147483649,9223372039002292353,9223372036854808585,138,136,2147516425,2147483658,2147516555,9223372036854775947,9223372036854808713,9223372036854808579,9223372036854808578,9223372036854775936,32778,9223372039002259466,9223372039002292353,9223372036854808704,2147483649,9223372039002292232]:List Int).getD i.val 0=((cb[i.val]! :Nat):Int):=by decide+kernel
  rw[g ⟨j,c⟩]
theorem own:ownKnob Tryz.prog.godebug=none:=by kernel_rfl
theorem eR:laidOutB Tryz.prog=true:=by kernel_rfl
def Tf:Obj->Obj
 | .cells _ t frozen=>.cells #[.int .i64 0,.int .i64 36,.int .i64 3,.int .i64 41,.int .i64 18,.int .i64 1,.int .i64 44,.int .i64 10,.int .i64 45,.int .i64 2,.int .i64 62,.int .i64 6,.int .i64 43,.int .i64 15,.int .i64 61,.int .i64 28,.int .i64 55,.int .i64 25,.int .i64 21,.int .i64 56,.int .i64 27,.int .i64 20,.int .i64 39,.int .i64 8,.int .i64 14] t frozen
 |o=>o
def Rv:Obj->Obj
 | .cells _ t frozen=>.cells #[.int .u8 0,.int .u8 1,.int .u8 28,.int .u8 2,.int .u8 29,.int .u8 14,.int .u8 24,.int .u8 3,.int .u8 30,.int .u8 22,.int .u8 20,.int .u8 15,.int .u8 25,.int .u8 17,.int .u8 4,.int .u8 8,.int .u8 31,.int .u8 27,.int .u8 13,.int .u8 23,.int .u8 21,.int .u8 19,.int .u8 16,.int .u8 7,.int .u8 26,.int .u8 12,.int .u8 18,.int .u8 6,.int .u8 11,.int .u8 5,.int .u8 10,.int .u8 9] t frozen
 |o=>o
def Tr:Obj->Obj
 | .cells _ t frozen=>.cells #[.int .u64 1,.int .u64 32898,.int .u64 9223372036854808714,.int .u64 9223372039002292224,.int .u64 32907,.int .u64 2147483649,.int .u64 9223372039002292353,.int .u64 9223372036854808585,.int .u64 138,.int .u64 136,.int .u64 2147516425,.int .u64 2147483658,.int .u64 2147516555,.int .u64 9223372036854775947,.int .u64 9223372036854808713,.int .u64 9223372036854808579,.int .u64 9223372036854808578,.int .u64 9223372036854775936,.int .u64 32778,.int .u64 9223372039002259466,.int .u64 9223372039002292353,.int .u64 9223372036854808704,.int .u64 2147483649,.int .u64 9223372039002292232] t frozen
 |o=>o
abbrev Ts:Da:={data:=#[109,111,114,101,32,98,121,116,101,115,32,116,104,97,110,32,116,104,101,114,101,32,109,97,121,32,98,101]}
abbrev Tg:Da:={data:=#[105,116,32,101,110,100,115,32,116,111,111,32,101,97,114,108,121]}
abbrev Tt:Da:={data:=#[115,111,109,101,116,104,105,110,103,32,105,115,32,108,101,102,116,32,98,101,104,105,110,100,32,116,104,101,32,101,110,100]}
abbrev Tu:Da:={data:=#[108,105,115,116,115,32,97,114,101,32,116,111,111,32,100,101,101,112,32,105,110,32,111,110,101,32,97,110,111,116,104,101,114]}
abbrev Rw:Da:={data:=#[97,32,98,121,116,101,32,111,102,32,116,104,101,32,112,97,116,104,32,105,115,32,97,98,111,118,101,32,49,53]}
abbrev Th:Da:={data:=#[97,32,118,97,108,117,101,32,104,97,115,32,110,111,32,98,121,116,101,32,111,114,32,116,111,111,32,109,97,110,121]}
abbrev Rl:Da:={data:=#[116,104,105,115,32,105,115,32,110,111,32,97,99,99,111,117,110,116]}
abbrev Tw:Da:={data:=#[105,116,32,119,111,117,108,100,32,98,101,32,119,114,105,116,116,101,110,32,111,116,104,101,114,119,105,115,101]}
abbrev Rx:Da:={data:=#[97,110,111,116,104,101,114,32,100,105,103,101,115,116,32,105,115,32,119,97,110,116,101,100]}
abbrev Tx:Da:={data:=#[116,104,105,115,32,104,97,115,32,110,111,116,32,116,104,101,32,102,111,114,109,32,111,102,32,97,32,110,111,100,101]}
abbrev Ty:Da:={data:=#[97,32,110,111,100,101,32,105,115,32,110,101,101,100,101,100,32,111,102,32,119,104,105,99,104,32,116,104,101,32,100,105,103,101,115,116,32,97,108,111,110,101,32,105,115,32,107,110,111,119,110]}
abbrev Uu:Da:={data:=#[116,104,105,115,32,105,115,32,110,111,32,111,112,101,114,97,116,105,111,110]}
abbrev Ti:Da:={data:=#[116,104,101,114,101,32,97,114,101,32,116,111,111,32,102,101,119,32,110,111,100,101,115,44,32,111,114,32,116,111,111,32,109,97,110,121]}
def E0:Array Obj:=#[.cells #[.string Ts] 424,.cells #[.string Tg] 424,.cells #[.string Tt] 424,.cells #[.string Tu] 424,.cells #[.string Rw] 424,.cells #[.string Th] 424,.cells #[.string Rl] 424,.cells #[.string Tw] 424,.cells #[.string Rx] 424,.cells #[.string Tx] 424,.cells #[.string Ty] 424,.cells #[.string Uu] 424,.cells #[.string Ti] 424]
noncomputable def low:Nat:=(World.holding Tryz.prog default ⟨#[],#[],[]⟩).heap.size
noncomputable section
def Tz:Obj->Obj
 | .cells _ t frozen=>.cells #[.iface 395 (.pointer (some ⟨low+0,0,none⟩))] t frozen
 |o=>o
def Tj:Obj->Obj
 | .cells _ t frozen=>.cells #[.iface 395 (.pointer (some ⟨low+1,0,none⟩))] t frozen
 |o=>o
def T4:Obj->Obj
 | .cells _ t frozen=>.cells #[.iface 395 (.pointer (some ⟨low+2,0,none⟩))] t frozen
 |o=>o
def T5:Obj->Obj
 | .cells _ t frozen=>.cells #[.iface 395 (.pointer (some ⟨low+3,0,none⟩))] t frozen
 |o=>o
def Ry:Obj->Obj
 | .cells _ t frozen=>.cells #[.iface 395 (.pointer (some ⟨low+4,0,none⟩))] t frozen
 |o=>o
def Tk:Obj->Obj
 | .cells _ t frozen=>.cells #[.iface 395 (.pointer (some ⟨low+5,0,none⟩))] t frozen
 |o=>o
def Rm:Obj->Obj
 | .cells _ t frozen=>.cells #[.iface 395 (.pointer (some ⟨low+6,0,none⟩))] t frozen
 |o=>o
def T6:Obj->Obj
 | .cells _ t frozen=>.cells #[.iface 395 (.pointer (some ⟨low+7,0,none⟩))] t frozen
 |o=>o
def Rz:Obj->Obj
 | .cells _ t frozen=>.cells #[.iface 395 (.pointer (some ⟨low+8,0,none⟩))] t frozen
 |o=>o
def T7:Obj->Obj
 | .cells _ t frozen=>.cells #[.iface 395 (.pointer (some ⟨low+9,0,none⟩))] t frozen
 |o=>o
def T8:Obj->Obj
 | .cells _ t frozen=>.cells #[.iface 395 (.pointer (some ⟨low+10,0,none⟩))] t frozen
 |o=>o
def Uv:Obj->Obj
 | .cells _ t frozen=>.cells #[.iface 395 (.pointer (some ⟨low+11,0,none⟩))] t frozen
 |o=>o
def Tl:Obj->Obj
 | .cells _ t frozen=>.cells #[.iface 395 (.pointer (some ⟨low+12,0,none⟩))] t frozen
 |o=>o
def R3:Obj->Obj
 | .cells _ t frozen=>.cells #[.iface 328 (.agg #[typeHandle Tryz.prog 142])] t frozen
 |o=>o
def P0(os:Os):Fa:={World.holding Tryz.prog os ⟨E0,#[],[]⟩with heap:=(((((((((((((((((World.holding Tryz.prog os ⟨E0,#[],[]⟩).heap.modify 15 Tf).modify 13 Tr).modify 14 R3).modify 1 Tz).modify 2 Tj).modify 3 T4).modify 0 T5).modify 4 Ry).modify 9 Tk).modify 11 Rm).modify 12 T6).modify 5 Rz).modify 6 T7).modify 10 T8).modify 7 Uv).modify 8 Tl).modify 16 Rv}
end
end
section
abbrev Ro(text:List UInt8):DataW Unit:=.iface "*errors.errorString" (.ptr (.agg [.lit (.string text)]))
theorem CD{P:Program}{w:Fa}{ti tp te ts:TypeId}{ms:Array (String×TypeId)}{f:Field}(hi:P.underlying ti=some (.interface ms))(hrow:∀u,P.typeName? 3 u=some "*errors.errorString" ->u=tp)(hp:P.underlying tp=some (.pointer te))(he:P.underlying te=some (.struct #[f]))(hft:f.type=ts)(hfo:f.offset=0)(hs:P.underlying ts=some .string)(hc:P.cellsOf te=1)(No:P.cellsOf ts=1):∀(L:List (String×Nat×List UInt8)) (ps:List MemPlace),(∀x∈L,P.globalNamed x.1=some x.2.1/\(P.globals[x.2.1]?).map (·.type)=some ti)->DataW.LaidVars P w (L.map λx=>(x.1,Ro x.2.2)) ps->ps.Nodup->(∀b off,MemPlace.cell b off∈ps->(∃c t,w.heap[b]? =some (.cells c t (0,0)))/\∀u v,w.cell? ⟨b,off,none⟩=some (.iface u v)->Value.okWide P w .any 0 u v)->∃as_:List Addr,as_.length=L.length/\as_.Nodup/\(∀a∈as_,MemPlace.cell a.block a.off∈ps)/\∀(i:Nat) (x:String×Nat×List UInt8) (a:Addr),L[i]? =some x->as_[i]? =some a->w.var? P x.1=some #[.iface tp (.pointer (some a))]/\Plain w a.block
 | [],ps,_,_,_,_=>⟨[],rfl,List.nodup_nil,⟨λ_ h=>(by cases h),λ_ _ _ h=>(by cases h)⟩⟩
 | (n,g,text)::L,ps,hL,hv,hnd,hrows=>by
  obtain⟨g0,t0,cs0,f0,p0,q0,hg0,ht0,hv0,hd0,hq,rfl⟩:=hv;obtain⟨hg,ht⟩:=hL _ (Yj ..);obtain rfl:=Zi (hg.symm.trans hg0);obtain rfl:=Zi (ht.symm.trans ht0);obtain⟨l0⟩:=cs0;have ok0:∀u v,l0=[.iface u v]->Value.okWide P w .any 0 u v:=λu v e=>by subst e;exact(hrows g 0 (by simp[MemPlace.row])).2 u v (by simpa using World.var?_cell hg0 hv0 0)
  obtain⟨a0,s0,rfl,hc0,hs0,hz0,rfl⟩:=errorString_of_trod hi hrow hp he hft hfo hs hc No hd0 ok0;have hm0:MemPlace.cell a0.block a0.off∈MemPlace.row a0 1:=by simp[MemPlace.row]
  have hnq:=(List.nodup_append.1 hnd).2.1;obtain⟨as_,h1,h2,h3,h4⟩:=CD hi hrow hp he hft hfo hs hc No L q0 (λx hx=>hL x (Yy _ hx)) hq hnq (λb off hm=>hrows b off (Vc _ hm));refine⟨a0::as_,by simp[h1],List.nodup_cons.2 ⟨λhin=>?_,h2⟩,?_,?_⟩;.exact(List.nodup_append.1 hnd).2.2 _ (Vc _ hm0) _ (h3 a0 hin) rfl
  .intro a ha;rcases Yf.1 ha with rfl|ha;.exact List.mem_append_left _ (Vc _ hm0)
   .exact Vc _ (h3 a ha)
  .intro i x a hx ha;cases i with
   |zero=>simp only[List.getElem?_cons_zero,Xj]at hx ha;subst hx ha;exact⟨hv0,(hrows a0.block a0.off (List.mem_append_left _ (Vc _ hm0))).1⟩
   |succ i=>exact h4 i x a (by simpa using hx) (by simpa using ha)
def Hj:Nat->DataW Unit
 |1=>Rows.laid_twigs_fault_Long
 |2=>Rows.laid_twigs_fault_Short
 |3=>Rows.laid_twigs_fault_Form
 |4=>Rows.laid_twigs_fault_Rest
 |5=>Rows.laid_twigs_fault_Deep
 |6=>Rows.laid_twigs_fault_Nibble
 |7=>Rows.laid_twigs_fault_Digest
 |8=>Rows.laid_twigs_fault_Node
 |9=>Rows.laid_twigs_fault_Op
 |10=>Rows.laid_twigs_fault_Stack
 |11=>Rows.laid_twigs_fault_Value
 |12=>Rows.laid_twigs_fault_Stub
 |_=>Rows.laid_twigs_fault_Account
def Hk:Nat->String
 |1=> "twigs/fault.Long"
 |2=> "twigs/fault.Short"
 |3=> "twigs/fault.Form"
 |4=> "twigs/fault.Rest"
 |5=> "twigs/fault.Deep"
 |6=> "twigs/fault.Nibble"
 |7=> "twigs/fault.Digest"
 |8=> "twigs/fault.Node"
 |9=> "twigs/fault.Op"
 |10=> "twigs/fault.Stack"
 |11=> "twigs/fault.Value"
 |12=> "twigs/fault.Stub"
 |_=> "twigs/fault.Account"
def Pe:DataW Unit->List UInt8
 | .iface _ (.ptr (.agg [.lit (.string t)]))=>t
 |_=>[]
theorem PG:∀n∈Gq,Tryz.prog.globalNamed (Hk n)=some (Ri n)/\(Tryz.prog.globals[Ri n]?).map (·.type)=some 142:=by intro n a;simp only[Gq,Yf,Vi,or_false]at a;rcases a with rfl|rfl|rfl|rfl|rfl|rfl|rfl|rfl|rfl|rfl|rfl|rfl|rfl<;>exact⟨by kernel_rfl,by kernel_rfl⟩
theorem yO:Tryz.prog.cellsOf 424=1:=by kernel_rfl
theorem PS:Tryz.prog.cellsOf 9=1:=by kernel_rfl
theorem QE: "*" ++ "errors.errorString" = "*errors.errorString" :=by decide
theorem wA(u:TypeId)(h:Tryz.prog.typeName? 3 u=some "*errors.errorString"):u=395:=typeName_ptr_named (nm:= "errors.errorString") (by rw[QE];kernel_rfl) (by kernel_rfl) (by decide) u (by rw[QE];exact h)
theorem lR{order:List Nat}{W:Fa}(hall:∀n∈Gq,n∈order)(hin:∀n∈order,n∈Gq)(h:laidMet Tryz.prog (order.map λn=>(Hk n,Hj n)) W):∃sent,Qb W sent:=by
 obtain⟨E,j,t,i⟩:=h;have C:∀n∈Gq,Hj n=Ro (Pe (Hj n)):=by intro n c;simp only[Gq,Yf,Vi,or_false]at c;rcases c with rfl|rfl|rfl|rfl|rfl|rfl|rfl|rfl|rfl|rfl|rfl|rfl|rfl<;>rfl
 have e:(order.map λn=>(Hk n,Hj n))=(order.map λn=>(Hk n,Ri n,Pe (Hj n))).map λx=>(x.1,Ro x.2.2):=by rw[Xx];refine Vs λn c=>?_;show(Hk n,Hj n)=(Hk n,Ro (Pe (Hj n)));rw[<-C n (hin n c)]
 rw[e]at j;obtain⟨g,y,z,_,B⟩:=CD Tryz.underlying142 wA Tryz.underlying395 Tryz.underlying424 rfl rfl Tryz.underlying9 yO PS _ E (λx l=>by obtain⟨n,c,rfl⟩:=Xd.1 l;exact PG n (hin n c)) j t i;rw[Zl]at y;refine⟨λn=>(g[order.idxOf n]?).getD default,⟨?_,?_,?_⟩⟩;all_goals
  have d:∀n∈Gq,∃a,g[order.idxOf n]? =some a/\W.var? Tryz.prog (Hk n)=some #[.iface 395 (.pointer (some a))]/\Plain W a.block:=by
   intro n c;have p:=List.idxOf_lt_length_of_mem (hall n c);refine⟨g[order.idxOf n]'(by omega),Zk _,?_⟩;have l:(order.map λn=>(Hk n,Ri n,Pe (Hj n)))[order.idxOf n]? =some (Hk n,Ri n,Pe (Hj n)):=by rw[Yt,Zk p,List.getElem_idxOf];rfl
   exact B _ _ _ l (Zk _)
 .intro n c;obtain⟨a,f,j,_⟩:=d n c;rw[f];exact World.var?_cell (PG n c).1 j 0
 .intro n c;obtain⟨a,f,_,D⟩:=d n c;rw[f];exact D
 .intro m q n c u;obtain⟨a,f,_,_⟩:=d m q;obtain⟨b,o,_,_⟩:=d n c;rw[f,o];intro k;simp only[Yk]at k;subst k;obtain⟨F,v⟩:=Zw.1 f;obtain⟨G,w⟩:=Zw.1 o;have :=(List.getElem_inj z).1 (v.trans w.symm);have r:=List.getElem_idxOf (List.idxOf_lt_length_of_mem (hall m q));have s:=List.getElem_idxOf (List.idxOf_lt_length_of_mem (hall n c));apply u;rw[<-r,<-s];simp only[this]
theorem fO:(List.range Tryz.prog.types.size).all (λu=> !(Tryz.prog.rowNamed u [101,114,114,111,114])||u==142)=true:=by kernel_rfl
theorem NC:(Tryz.prog.cutTypes.find? (·.1== "internal/reflectlite.rtype")).map (·.2)=some 328:=by kernel_rfl
theorem RJ:Tryz.prog.globalNamed "errors.errorType" =some 14:=by kernel_rfl
theorem JM:Tryz.prog.globals.size=17:=by kernel_rfl
theorem rT{W:Fa}{hs:List (String×DataW Unit)}(hm:("errors.errorType",Rows.laid_errors_errorType)∈hs)(h:handlesMet Tryz.prog hs W):Ht W:=by
 obtain⟨a,u,b,c,d,e,f,g⟩:∃a u b,(Rows.laid_errors_errorType:DataW Unit).handleName? =some a/\(Tryz.prog.cutTypes.find? (·.1== "internal/reflectlite.rtype")).map (·.2)=some u/\b<Tryz.prog.types.size/\Tryz.prog.rowNamed b a=true/\W.var? Tryz.prog "errors.errorType" =some #[.iface u (.agg #[typeHandle Tryz.prog b])]:=h _ hm;obtain rfl:u=328:=(Zi (NC.symm.trans d)).symm;obtain rfl:a=[101,114,114,111,114]:=(Zi ((show(Rows.laid_errors_errorType:DataW Unit).handleName? =some [101,114,114,111,114]by kernel_rfl).symm.trans c)).symm;have :=Xy.1 fO b (X3.2 e);rw[f]at this;obtain rfl:b=142:=by simpa using this
 have i:=World.var?_cell RJ g 0;refine i.trans ?_;unfold typeHandle;rw[JM];rfl
end
section
theorem KK:joinedFacts Tryz.prog 3 Tryz.f3 (Rows.OpenSpec.upto Rows.proofsSpec).bare Rows.proofsUptoRow=true:=by
 unfold joinedFacts;simp only[X5];repeat' apply And.intro
 all_goals (as_aux_lemma=>kernel_rfl)
end
end Go.Proofs.YtpfbdlnibdfcoaaGreatDoor
