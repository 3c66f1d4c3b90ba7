import Derived.Test.YtmfpiodlecapiaaGreatDoorJ12
import Derived.Laws.MakeOwn
import Derived.Conc.TokenWalk
set_option maxHeartbeats 4000000
set_option maxRecDepth 100000
namespace Go.Proofs.YtmfpiodlecapiaaGreatDoor
open Go.Proofs.Tryz
open Go.Ren Go.bn
def slots:FuncId->List (Nat×Nat)
 |46=> [(30,1),(25,1),(3,2),(6,2),(7,2),(8,2),(9,2),(10,2),(20,2),(23,2),(22,1),(33,1)]
 |89=> [(0,2),(1,2),(2,2),(3,2),(4,2),(5,2),(12,1),(8,1),(19,1),(21,1)]
 |91=> [(45,2),(53,2),(68,2),(74,2),(79,2)]
 |92=> [(16,1),(9,2),(17,2),(22,2),(24,2),(26,2)]
 |94=> [(20,2),(46,2),(66,2),(74,2),(33,3),(53,3)]
 |170=> [(13,2),(19,2),(28,2)]
 |148=> [(13,2)]
 |149=> [(24,2),(42,2),(52,1)]
 |150=> [(14,2),(21,2),(31,2),(40,2),(25,1),(43,1)]
 |187=> [(4,4)]
 |188=> [(11,2),(20,2)]
 |_=> []
def jX(f:FuncId)(s:Nat):Nat:=((slots f).lookup s).getD 0
def inside(f:FuncId):Bool:= [94,170,171,147,148,149,188,113,112,168,169].contains f
def outside(f:FuncId):Bool:=f==156
theorem II:iP prog outside inside (jX 170) f170=true:=by kernel_rfl
theorem Qj:iP prog outside inside (jX 171) f171=true:=by kernel_rfl
theorem Ua:iP prog outside inside (jX 147) f147=true:=by kernel_rfl
theorem T9:iP prog outside inside (jX 148) f148=true:=by kernel_rfl
theorem IG:iP prog outside inside (jX 149) f149=true:=by kernel_rfl
theorem T_:iP prog outside inside (jX 188) f188=true:=by kernel_rfl
theorem LY:iP prog outside inside (jX 113) f113=true:=by kernel_rfl
theorem Z5:iP prog outside inside (jX 112) f112=true:=by kernel_rfl
theorem Z7:iP prog outside inside (jX 168) f168=true:=by kernel_rfl
theorem Qi:iP prog outside inside (jX 169) f169=true:=by kernel_rfl
theorem XA:iP prog outside inside (jX 94) f94=true:=by kernel_rfl
theorem AB{ρ:Array Nat}:∀(n t:Nat) {acc:Array Value},bF ρ acc acc->bF ρ (Extern.BytealgMakeNoZero.digits n t acc) (Extern.BytealgMakeNoZero.digits n t acc)
 |0,_,_,h=>h
 |n+1,t,_,h=>AB n (t/256) (h.push (.int _ _))
theorem BH{P:Program}{ρ:Array Nat}(ps rs:Array TypeId){xs ys:Array Value}(h:bF ρ xs ys):SR P (wo 0) ρ (Extern.BytealgMakeNoZero.makeNoZero ps rs xs) (Extern.BytealgMakeNoZero.makeNoZero ps rs ys):=by
 rcases Classical.em (∃n,xs=#[.int .i64 n])with⟨n,rfl⟩|hn
 .have hs:ys.size=1:=by rw[<-h.1];rfl
  obtain⟨v,hv,QP⟩:=h.get (i:=0) (v:=.int .i64 n) rfl;obtain rfl:ys=#[v]:=by
   apply Array.ext_getElem?;intro i;cases i with
   |zero=>rw[hv];rfl
   |succ i=>rw[Array.getElem?_eq_none (by omega)];simp
  cases QP;unfold Extern.BytealgMakeNoZero.makeNoZero;dsimp only;cases rs[0]? with
  |none=>exact aF
  |some t=>
   dsimp only;refine(aS t).seq fun jo d d' e1 hd=>?_;replace hd:=hd.1;subst hd;cases d<;>first
    |exact aF
    |(refine fG (fun _=>SR.die (iC _)) (fun _=>?_)
      refine qH fun cap=>?_;refine(rT _).seq fun xM _ _ e2 _=>?_;refine qH fun b=>?_;refine(kL _ (AB cap b bF.empty)).seq fun qR x y e3 hx=>?_;exact SR.ret (SV.sl _ _ hx))
 .have key:Extern.BytealgMakeNoZero.makeNoZero ps rs xs=stuck "bytealg.MakeNoZero: an int expected" :=by
   obtain⟨l⟩:=xs;match l,hn with
   | [],_=>rfl
   |[x],hn=>
    cases x with
    |int k n=>cases k<;>first|rfl|exact absurd ⟨_,rfl⟩ hn
    |_=>rfl
   |_::_::_,_=>rfl
  rw[key];exact aF
theorem DY:Extern.findNext f156=none:=by rfl
theorem DX:Extern.find f156=some (Extern.BytealgMakeNoZero.makeNoZero f156.params f156.resultTypes):=by rfl
theorem closed:Closed prog outside inside jX:=by
 refine⟨fun f hf ρ xs ys ha=>?_,fun f hf fn cH=>?_,fun f hf=>?_⟩
 .obtain rfl:f=156:=by simpa[outside]using hf
  unfold callFunc;refine iE ?_;rw[func156];have h1:(f156.name== "runtime.NumGoroutine")=false:=by kernel_rfl
  have h2:f156.body.isNone=true:=by kernel_rfl
  simp only[h1,h2,Bool.false_eq_true,if_false,if_true,DY,DX];refine SR.mark trivial ?_;exact(BH _ _ ha).seq fun jo v v' e hv=>SR.ret ⟨v,v',rfl,rfl,hv⟩
 .simp only[inside,List.contains_eq_mem,List.mem_cons,List.not_mem_nil,or_false,decide_eq_true_eq]at hf;rcases hf with rfl|rfl|rfl|rfl|rfl|rfl|rfl|rfl|rfl|rfl|rfl
  .rw[func94]at cH;obtain rfl:=Option.some.inj cH;exact XA
  .rw[func170]at cH;obtain rfl:=Option.some.inj cH;exact II
  .rw[func171]at cH;obtain rfl:=Option.some.inj cH;exact Qj
  .rw[func147]at cH;obtain rfl:=Option.some.inj cH;exact Ua
  .rw[func148]at cH;obtain rfl:=Option.some.inj cH;exact T9
  .rw[func149]at cH;obtain rfl:=Option.some.inj cH;exact IG
  .rw[func188]at cH;obtain rfl:=Option.some.inj cH;exact T_
  .rw[func113]at cH;obtain rfl:=Option.some.inj cH;exact LY
  .rw[func112]at cH;obtain rfl:=Option.some.inj cH;exact Z5
  .rw[func168]at cH;obtain rfl:=Option.some.inj cH;exact Z7
  .rw[func169]at cH;obtain rfl:=Option.some.inj cH;exact Qi
 .simp only[inside,List.contains_eq_mem,List.mem_cons,List.not_mem_nil,or_false,decide_eq_true_eq]at hf;rcases hf with rfl|rfl|rfl|rfl|rfl|rfl|rfl|rfl|rfl|rfl|rfl
  .exact⟨_,func94⟩
  .exact⟨_,func170⟩
  .exact⟨_,func171⟩
  .exact⟨_,func147⟩
  .exact⟨_,func148⟩
  .exact⟨_,func149⟩
  .exact⟨_,func188⟩
  .exact⟨_,func113⟩
  .exact⟨_,func112⟩
  .exact⟨_,func168⟩
  .exact⟨_,func169⟩
def aZ(f:FuncId):Bool:=inside f|| [91,150,187].contains f
def aQ(f:FuncId):Bool:=outside f||f==1000000
theorem Qn:iP prog aQ aZ (jX 91) f91=true:=by kernel_rfl
theorem Ql:iP prog aQ aZ (jX 150) f150=true:=by kernel_rfl
theorem IQ:iP prog aQ aZ (jX 187) f187=true:=by kernel_rfl
theorem EY:iP prog aQ aZ (jX 170) f170=true:=by kernel_rfl
theorem L6:iP prog aQ aZ (jX 171) f171=true:=by kernel_rfl
theorem Qo:iP prog aQ aZ (jX 147) f147=true:=by kernel_rfl
theorem Qk:iP prog aQ aZ (jX 148) f148=true:=by kernel_rfl
theorem EX:iP prog aQ aZ (jX 149) f149=true:=by kernel_rfl
theorem Qm:iP prog aQ aZ (jX 188) f188=true:=by kernel_rfl
theorem IU:iP prog aQ aZ (jX 113) f113=true:=by kernel_rfl
theorem XF:iP prog aQ aZ (jX 112) f112=true:=by kernel_rfl
theorem XG:iP prog aQ aZ (jX 168) f168=true:=by kernel_rfl
theorem LZ:iP prog aQ aZ (jX 169) f169=true:=by kernel_rfl
theorem Ub:iP prog aQ aZ (jX 94) f94=true:=by kernel_rfl
theorem bf:outside far=false:=rfl
theorem Vu:prog.funcs[(1000000:Nat)]? =none:=by kernel_rfl
theorem closed2:Closed prog aQ aZ jX:=by
 refine⟨fun f hf ρ xs ys ha=>?_,fun f hf fn cH=>?_,fun f hf=>?_⟩
 .simp only[aQ,Bool.or_eq_true,beq_iff_eq]at hf;rcases hf with hf|rfl
  .exact closed.ext f hf ρ xs ys ha
  .unfold callFunc;refine iE ?_;rw[Vu];exact aF
 .simp only[aZ,inside,Bool.or_eq_true,List.contains_eq_mem,List.mem_cons,List.not_mem_nil,or_false,decide_eq_true_eq]at hf;rcases hf with(rfl|rfl|rfl|rfl|rfl|rfl|rfl|rfl|rfl|rfl|rfl)|(rfl|rfl|rfl)
  .rw[func94]at cH;obtain rfl:=Option.some.inj cH;exact Ub
  .rw[func170]at cH;obtain rfl:=Option.some.inj cH;exact EY
  .rw[func171]at cH;obtain rfl:=Option.some.inj cH;exact L6
  .rw[func147]at cH;obtain rfl:=Option.some.inj cH;exact Qo
  .rw[func148]at cH;obtain rfl:=Option.some.inj cH;exact Qk
  .rw[func149]at cH;obtain rfl:=Option.some.inj cH;exact EX
  .rw[func188]at cH;obtain rfl:=Option.some.inj cH;exact Qm
  .rw[func113]at cH;obtain rfl:=Option.some.inj cH;exact IU
  .rw[func112]at cH;obtain rfl:=Option.some.inj cH;exact XF
  .rw[func168]at cH;obtain rfl:=Option.some.inj cH;exact XG
  .rw[func169]at cH;obtain rfl:=Option.some.inj cH;exact LZ
  .rw[func91]at cH;obtain rfl:=Option.some.inj cH;exact Qn
  .rw[func150]at cH;obtain rfl:=Option.some.inj cH;exact Ql
  .rw[func187]at cH;obtain rfl:=Option.some.inj cH;exact IQ
 .simp only[aZ,Bool.or_eq_true]at hf;rcases hf with hf|hf
  .exact closed.has f hf
  .simp only[List.contains_eq_mem,List.mem_cons,List.not_mem_nil,or_false,decide_eq_true_eq]at hf;rcases hf with rfl|rfl|rfl
   .exact⟨_,func91⟩
   .exact⟨_,func150⟩
   .exact⟨_,func187⟩
end Go.Proofs.YtmfpiodlecapiaaGreatDoor
namespace Go.bn
open Go.Ren
variable{n b c:Nat}{v:Value}
def Zd:Obj->Obj
 | .cells c e _=>.cells c e (0,c.size)
 |o=>o
def priv(Keep:Nat->Bool)(w:World):World:= {w with heap:=w.heap.mapIdx fun b o=>if Keep b then Zd o else .cells #[] 0}
theorem jB(h:(Array.range n)[b]? =some c):c=b/\b<n:=by
 rcases Nat.lt_or_ge b n with ai|eJ
 .rw[Array.getElem?_range]at h;simp[ai]at h;exact⟨h.symm,ai⟩
 .rw[Array.getElem?_eq_none (by simpa using eJ)]at h;cases h
theorem fU(h:b<n):(Array.range n)[b]? =some b:=by rw[Array.getElem?_range];simp[h]
section
variable {Keep:Nat->Bool} {w:World}
theorem pI(b:Nat):(priv Keep w).heap[b]? =(w.heap[b]?).map fun o=>if Keep b then Zd o else .cells #[] 0:=by
 simp[priv]
theorem mZ{i:Nat}(h:(priv Keep w).cell? ⟨b,i,none⟩=some v):Keep b=true/\w.cell? ⟨b,i,none⟩=some v/\(priv Keep w).frozen? ⟨b,i,none⟩=true/\b<w.heap.size:=by
 simp only[World.cell?,pI]at h;cases ho:w.heap[b]? with
 |none=>rw[ho]at h;simp at h
 |some o=>
  rw[ho]at h;simp only[Option.map_some]at h;cases hk:Keep b with
  |false=>rw[hk]at h;simp at h
  |true=>
   rw[hk]at h;simp only[if_true]at h;cases o with
   |cells c e fz=>
    simp only[Zd]at h;have hv:c[i]? =some v:=by simpa using h
    have hi:i<c.size:=(Array.getElem?_eq_some_iff.1 hv).1;refine⟨rfl,by simp[World.cell?,ho,hv],?_,(Array.getElem?_eq_some_iff.1 ho).1⟩;simp[World.frozen?,pI,ho,hk,Zd,hi]
   |_=>simp[Zd]at h
theorem NZ(hk:∀b i v,Keep b=true->w.cell? ⟨b,i,none⟩=some v->SV (Array.range w.heap.size) v v)(cj:∀b,Keep b=true->b<w.heap.size->∃c e fz,w.heap[b]? =some (.cells c e fz)):WR (Array.range w.heap.size) (priv Keep w) w:=by
 have hs:(priv Keep w).heap.size=w.heap.size:=by simp[priv]
 refine⟨by simp[hs],fun b hb=>?_,fun b b' c h h'=>by rw[<-(jB h).1,<-(jB h').1],fun b c h=>by rw[(jB h).1];exact(jB h).2,fun b i v h=>?_,fun b i c h h' _=>?_,rfl,rfl⟩
 .rw[hs]at hb;rw[pI];cases vA:Keep b with
  |true=>
   obtain⟨c,e,fz,ho⟩:=cj b vA hb;exact⟨c,e,(0,c.size),by rw[ho];simp[Zd]⟩
  |false=>exact⟨#[],0,(0,0),by rw[Array.getElem?_eq_getElem hb];simp⟩
 .obtain⟨h1,h2,_,h4⟩:=mZ h;exact⟨b,v,fU h4,h2,hk b i v h1 h2⟩
 .obtain⟨v,hv⟩:=Option.isSome_iff_exists.1 h;rw[(mZ hv).2.2.1]at h';cases h'
theorem TL(h:CO (Array.range w.heap.size) (priv Keep w) c):Keep c=true:=by
 obtain⟨b,i,h1,h2⟩:=h;obtain⟨v,hv⟩:=Option.isSome_iff_exists.1 h2;rw[(jB h1).1];exact(mZ hv).1
theorem TM(h:Own (Array.range w.heap.size) (priv Keep w) c):False:=by
 obtain⟨b,_,i,h2,h3⟩:=h;obtain⟨v,hv⟩:=Option.isSome_iff_exists.1 h2;rw[(mZ hv).2.2.1]at h3;cases h3
theorem P7(hk:Keep c=true)(h:w.cell? ⟨c,0,none⟩=some v):CO (Array.range w.heap.size) (priv Keep w) c:=by
 have ai:c<w.heap.size:=by
  simp only[World.cell?]at h;cases ho:w.heap[c]? with
  |none=>rw[ho]at h;cases h
  |some o=>exact(Array.getElem?_eq_some_iff.1 ho).1
 refine⟨c,0,fU ai,?_⟩;simp only[World.cell?,pI]at h⊢;cases ho:w.heap[c]? with
 |none=>rw[ho]at h;cases h
 |some o=>
  rw[ho]at h;cases o with
  |cells c e fz=>simp[hk,Zd]at h⊢;exact(Array.getElem?_eq_some_iff.1 h).1
  |_=>simp at h
end
end Go.bn
namespace Go.Proofs.YtmfpiodlecapiaaGreatDoor
open Go.Proofs.Tryz
section
open Go.Conc Go.ConcN Go.RowKit Go.Conc.Lib Go.ConcR.Gen Go.ConcN.Gen Go.kg Go.bn Go.Ren
open Go.ConcR (KK wgBlock WgAt stA smA rd wr mk Payload Aside2 DC0)
theorem UD{P:Program}:∀{n:Nat} {g g':Goroutine},Idle P false n g g'->Idl P n g g'
 |0,_,_,h=>h
 |_+1,_,_,⟨h1,g1,h2,h3⟩=>⟨h1,g1,h2,UD h3⟩
def oU(a0 a1 a2 a3 a4 a5:Addr):Array Value:=#[.pointer (some a0),.pointer (some a1),.pointer (some a2),.pointer (some a3),.pointer (some a4),.pointer (some a5)]++Array.replicate 19 undef
theorem ND{n:Nat}{a0 a1 a2 a3 a4 a5:Addr}(l0:a0.block<n)(l1:a1.block<n)(l2:a2.block<n)(l3:a3.block<n)(l4:a4.block<n)(l5:a5.block<n):TR (Array.range n) (jX Nw) (oU a0 a1 a2 a3 a4 a5) (oU a0 a1 a2 a3 a4 a5):=by
 have vr:∀a:Addr,a.block<n->VR (Array.range n) (.pointer (some a)) (.pointer (some a)):=fun a h=>.ptr ⟨fU h,rfl,rfl⟩;refine⟨rfl,fun i v v' h h'=>?_⟩;rw[h]at h';obtain rfl:=Option.some.inj h';clear h';unfold oU at h;rcases Nat.lt_or_ge i 6 with hi|hi
 .rw[Array.getElem?_append_left (by simpa using hi)]at h;match i,h,hi with
  |0,h,_=>obtain rfl:=Option.some.inj h;exact vr _ l0
  |1,h,_=>obtain rfl:=Option.some.inj h;exact vr _ l1
  |2,h,_=>obtain rfl:=Option.some.inj h;exact vr _ l2
  |3,h,_=>obtain rfl:=Option.some.inj h;exact vr _ l3
  |4,h,_=>obtain rfl:=Option.some.inj h;exact vr _ l4
  |5,h,_=>obtain rfl:=Option.some.inj h;exact vr _ l5
 .rw[Array.getElem?_append_right (by simpa using hi),Array.getElem?_replicate]at h;split at h
  .obtain rfl:=Option.some.inj h;exact CR.undef _
  .cases h
theorem Yx[Payload]{H:Ph}(hP:H.P=prog)(hX:H.X=aQ)(hA:H.A=aZ)(hK:H.K=jX)(UI:H.Cx=Gu prog.funcs.size [] ⟨H.Wg,0,none⟩)(hety:Payload.ety=3)
  {w:World}{cR cD z cz cp:Nat}{cS:Addr}(Keep:Nat->Bool)(hB:H.B0<=w.heap.size)(hz:w.heap[cz]? =some (.cells #[.int .i64 z] 3))(hKz:Keep cz=true)
  (ai:H.Wg<w.heap.size/\cp<w.heap.size/\cS.block<w.heap.size/\cD<w.heap.size/\cR<w.heap.size)
  (hk:∀b i v,Keep b=true->w.cell? ⟨b,i,none⟩=some v->SV (Array.range w.heap.size) v v)(cj:∀b,Keep b=true->b<w.heap.size->∃c e fz,w.heap[b]? =some (.cells c e fz))(hold:∀b,Keep b=true->H.old b\/b=cz\/b=cp)
  (Jc:WT prog (H.Node z) (H.Stop z) ⟨0,⟨Nw,oU ⟨H.Wg,0,none⟩ ⟨cp,0,none⟩ cS ⟨cD,0,none⟩ ⟨cR,0,none⟩ ⟨cz,0,none⟩,[.code (mJ f89)],false⟩,[],priv Keep w⟩):Born H cR cD cS z cz cp w:=by
 obtain⟨l1,l2,l3,l4,l5⟩:=ai;have l6:cz<w.heap.size:=(Array.getElem?_eq_some_iff.1 hz).1;obtain⟨rk,Dg⟩:=Jc.ZT;have eR:w.cell? ⟨cz,0,none⟩=some (.int .i64 z):=by simp[World.cell?,hz]
 let d:WX:=⟨22,.ofNat 5,7,0,0,Own (Array.range w.heap.size) (priv Keep w),CO (Array.range w.heap.size) (priv Keep w),cz,.int .i64 z,false⟩
 have cg:Bc H.P H.X H.A H.K (Array.range w.heap.size) ⟨Nw,oU ⟨H.Wg,0,none⟩ ⟨cp,0,none⟩ cS ⟨cD,0,none⟩ ⟨cR,0,none⟩ ⟨cz,0,none⟩,[.code (mJ f89)],false⟩ [] ⟨Nw,oU ⟨H.Wg,0,none⟩ ⟨cp,0,none⟩ cS ⟨cD,0,none⟩ ⟨cR,0,none⟩ ⟨cz,0,none⟩,[.code (mJ f89)],false⟩ []:=by
  rw[hP,hX,hA,hK];refine .one ⟨rfl,rfl,rfl,?_,?_⟩
  .exact ND l1 l2 l3 l4 l5 l6
  .intro x hx;simp only[List.mem_singleton]at hx;subst hx;kernel_rfl
 have htr:sQ H z d rk (gZ H.Cx ⟨Nw,oU ⟨H.Wg,0,none⟩ ⟨cp,0,none⟩ cS ⟨cD,0,none⟩ ⟨cR,0,none⟩ ⟨cz,0,none⟩,[.code (mJ f89)],false⟩ []) w:=by
  refine⟨Array.range w.heap.size,priv Keep w,_,[],_,[],rfl,⟨cg,NZ hk cj⟩,by rw[hP];exact Dg,rfl,rfl,fun b c h=>?_⟩;obtain⟨rfl,h2⟩:=jB h;exact fU (by omega)
 refine⟨d,rfl,rfl,rfl,?_,fun c hc=>TM hc,fun c hc=>hold c (TL hc),P7 hKz eR,rfl⟩;have e_:vZ d w:=⟨⟨#[.int .i64 z],by rw[hety];exact hz,rfl⟩,eR⟩;refine .born 5 _ rk rfl rfl rfl rfl ?_ htr e_;rw[hP,UI];exact UD (Zu _ _ _ _ _ _)
end
section
open Go.Conc Go.ConcN Go.RowKit Go.Conc.Lib Go.ConcR.Gen Go.ConcN.Gen
open Go.kg (RS ah)
open Go.ConcR (KK wgBlock WgAt stA smA rd wr mk Payload Aside2 DC0)
def AtF(P:Program)(g:Goroutine)(w:World):Prop:=g.status= .running/\∃g',stepG P false g w= .go g' w #[mk .disable]
def AtE(P:Program)(ty:TypeId)(Wg:Nat)(g:Goroutine)(w:World):Prop:=g.status= .running/\∃g',stepG P false g w= .go g' w #[mk (.releaseMerge (stA Wg))]/\∃m,Goes P false (RS ty Wg) DC0 (AtF P) m g' w
section
variable [Payload] {P:Program} {ty:TypeId} {Wg C n Low k:Nat} {v:Value} {Own Rd:Nat->Loc->Prop}
theorem Xv:∀(m N:Nat) (g:Goroutine) (w:World),Goes P false (RS ty Wg) DC0 (AtF P) m g w->Goes P false (RW ty Wg C n Low (k-1)) (DWs Wg Own Rd C n k) (AtR0 P ty Wg C n Low k v) N g w->False:=by
 intro m;induction m with
 |zero=>
  intro N g w h h';obtain⟨_,g',e⟩:=h w (RS.refl w);rcases Goes.cases h' with hs|⟨N',rfl,hs⟩
  .obtain⟨_,_,g1,e1,_⟩:=hs w (RW.refl w);rw[e]at e1;simp only[GStep.go.injEq]at e1;have:=e1.2.2;simp[mk]at this
  .obtain⟨g1,w1,es,e1,⟨_,dt⟩,_⟩:=hs w (RW.refl w);rw[e]at e1;simp only[GStep.go.injEq]at e1;obtain⟨_,_,rfl⟩:=e1;exact(dt (mk .disable) (by simp)).2.1 rfl
 |succ m ih=>
  intro N g w h h';rcases Goes.cases h with gv|⟨m',hm,gv⟩
  .exact(by
    obtain⟨_,g',e⟩:=gv w (RS.refl w);rcases Goes.cases h' with hs|⟨N',rfl,hs⟩
    .obtain⟨_,_,g1,e1,_⟩:=hs w (RW.refl w);rw[e]at e1;simp only[GStep.go.injEq]at e1;have:=e1.2.2;simp[mk]at this
    .obtain⟨g1,w1,es,e1,⟨_,dt⟩,_⟩:=hs w (RW.refl w);rw[e]at e1;simp only[GStep.go.injEq]at e1;obtain⟨_,_,rfl⟩:=e1;exact(dt (mk .disable) (by simp)).2.1 rfl)
  .obtain rfl:m'=m:=by omega
   obtain⟨g1,w1,es,e,⟨rfl,rfl⟩,hg⟩:=gv w (RS.refl w);rcases Goes.cases h' with hs|⟨N',rfl,hs⟩
   .obtain⟨_,_,g2,e2,_⟩:=hs w1 (RW.refl w1);rw[e]at e2;simp only[GStep.go.injEq]at e2;have:=e2.2.2;simp at this
   .obtain⟨g2,w2,es2,e2,_,eQ⟩:=hs w1 (RW.refl w1);rw[e]at e2;simp only[GStep.go.injEq]at e2;obtain⟨rfl,rfl,rfl⟩:=e2;exact ih _ _ _ hg eQ
theorem pin:∀(m N:Nat) (g:Goroutine) (w:World),WgLive ty Wg w->Goes P false (RS ty Wg) DC0 (AtE P ty Wg) m g w->Goes P false (RW ty Wg C n Low (k-1)) (DWs Wg Own Rd C n k) (AtR0 P ty Wg C n Low k v) N g w->
  Goes P false (RW ty Wg C n Low (k-1)) DC0 (AtR0 P ty Wg C n Low k v) N g w:=by
 have stopped:∀(N:Nat) (g:Goroutine) (w:World),(∀af,RS ty Wg w af->AtE P ty Wg g af)->Goes P false (RW ty Wg C n Low (k-1)) (DWs Wg Own Rd C n k) (AtR0 P ty Wg C n Low k v) N g w->
   Goes P false (RW ty Wg C n Low (k-1)) DC0 (AtR0 P ty Wg C n Low k v) N g w:=by
  intro N g w h h';rcases Goes.cases h' with hs|⟨N',rfl,hs⟩
  .exact Goes.stop hs
  .obtain⟨_,g',e,m',vz⟩:=h w (RS.refl w);obtain⟨g2,w2,es2,e2,_,eQ⟩:=hs w (RW.refl w);rw[e]at e2;simp only[GStep.go.injEq]at e2;obtain⟨rfl,rfl,rfl⟩:=e2;exact(Xv m' N' _ _ vz eQ).elim
 intro m;induction m with
 |zero=>exact fun N g w _ h h'=>stopped N g w h h'
 |succ m ih=>
  intro N g w hF h h';rcases Goes.cases h with gv|⟨m',hm,gv⟩
  .exact stopped N g w gv h'
  .obtain rfl:m'=m:=by omega
   rcases Goes.cases h' with hs|⟨N',rfl,hs⟩
   .exact Goes.stop hs
   .obtain⟨ga,wa,ea,ha,⟨rfl,rfl⟩,_⟩:=gv w (RS.refl w);have ag:g.status= .running:=by
     rcases h with hh|hh
     .exact(hh wa (RS.refl wa)).1
     .exact hh.1
    refine Goes.step ag fun af aa=>?_;obtain⟨g1,w1,es,e,⟨rfl,rfl⟩,hg⟩:=gv af ⟨aa.live⟩;obtain⟨g2,w2,es2,e2,_,eQ⟩:=hs w1 aa;rw[e]at e2;simp only[GStep.go.injEq]at e2;obtain⟨rfl,rfl,rfl⟩:=e2;rw[e,goes_go];exact⟨⟨rfl,rfl⟩,ih _ _ _ (aa.live hF) hg eQ⟩
end
section
variable {P:Program} {L:WgLink}
theorem Vy(H:WgLib P L){Wg:Nat}{c:Frame}{cs:List Frame}(w:World)(hF:WgLive L.tWg Wg w):
  ∃m,Goes P false (RS L.tWg Wg) DC0 (AtE P L.tWg Wg) m (G ((baseD L.done).at ⟨#[.pointer (some ⟨Wg,0,none⟩),undef,undef,undef],[]⟩ [.code (body_done L)]) (c::cs)) w:=by
 lib_facts
 refine⟨40,?_⟩;simp only[body_done,doneFn,Option.getD_some];u_reg ah hF
 u_op ah hF;u_in ah hF
 refine goes_call rfl rfl (by k_ne) rfl H.f_add (nm_add L) rfl ⟨by u_nil,?_⟩;walk_nrmf addFn
 u_c stepG_seq ah hF;u_cond true ah hF
 u_c stepG_seq ah hF;u_c stepG_seq ah hF;u_reg ah hF
 u_op ah hF;u_op ah hF;u_c stepG_region_end ah hF;u_cond true ah hF
 u_reg ah hF
 u_op ah hF;u_conv H.underlying_tWgP H.room_tWg (WgLive.cell0 hF).choose_spec ah hF
 refine Goes.stop (fun af aa=>?_);replace hF:=ah hF aa;clear aa;refine⟨rfl,_,stepG_markAt .releaseMerge (by simp) rfl rfl (by k_ne) rfl H.f_relMerge (x_relMerge_n L) (x_relMerge_b L) (x_relMerge_x L) (x_relMerge_f L) (by simp[Act.eval,stA]),10,?_⟩;walk_nrm
 u_c stepG_region_end ah hF;u_c stepG_seq ah hF;u_reg ah hF
 refine Goes.stop (fun af aa=>?_);exact⟨rfl,_,stepG_mark0 .disable (by simp) rfl rfl (by k_ne) rfl H.f_disable (x_disable_n L) (x_disable_b L) (x_disable_x L) (x_disable_f L)⟩
end
section
variable [Payload]
theorem w_end{Wg C n Low k:Nat}{val:Value}{T:Array Value}(hT:T.size=25){m:Int}{b z:Value}(hm:m=0\/m=1)(H5:T[21]? =some (.tuple #[.int .i64 m,b,z]))
  (w:World)(hK:WgLive link.tWg Wg w/\Has C (k-1) val w):
  ∃N,Goes prog false (RW link.tWg Wg C n Low (k-1)) DC0 (AtR0 prog link.tWg Wg C n Low k val) N
   (G (Gv.at ⟨T,[dcall link.done #[.pointer (some ⟨Wg,0,none⟩)]]⟩ [.inRegion (aX (lQ f89)) [1,2,3],.code (jV f89)]) [bot prog.funcs.size]) w:=by
 have H:=qW;obtain⟨v0,v1,v2,v3,v4,v5,v6,v7,v8,v9,v10,v11,v12,v13,v14,v15,v16,v17,v18,v19,v20,v21,v22,v23,v24,rfl⟩:∃v0 v1 v2 v3 v4 v5 v6 v7 v8 v9 v10 v11 v12 v13 v14 v15 v16 v17 v18 v19 v20 v21 v22 v23 v24,T=#[v0,v1,v2,v3,v4,v5,v6,v7,v8,v9,v10,v11,v12,v13,v14,v15,v16,v17,v18,v19,v20,v21,v22,v23,v24]:=by
  obtain⟨l⟩:=T;simp only[List.size_toArray]at hT;match l,hT with
  | [v0,v1,v2,v3,v4,v5,v6,v7,v8,v9,v10,v11,v12,v13,v14,v15,v16,v17,v18,v19,v20,v21,v22,v23,v24],_=>exact⟨v0,v1,v2,v3,v4,v5,v6,v7,v8,v9,v10,v11,v12,v13,v14,v15,v16,v17,v18,v19,v20,v21,v22,v23,v24,rfl⟩
 simp only[List.getElem?_toArray,List.getElem?_cons_succ,List.getElem?_cons_zero,Option.some.injEq]at H5;subst H5;simp only[lQ,jV,aX,Yr,vF,f89,Option.getD_some];have hA:=@doneN _ link prog qW (fun _ _=>False) (fun _ _=>False) Wg C n Low k val;have hB:=@Vy prog link qW Wg;simp only[body_done,doneFn,Option.getD_some]at hA hB;rcases hm with rfl|rfl
 .refine⟨33,?_⟩;u_op kn_rely hK;u_op kn_rely hK;u_op kn_rely hK;u_c stepG_region_end kn_rely hK;u_c stepG_block kn_rely hK;u_cond true kn_rely hK
  u_c stepG_skip kn_rely hK;u_c stepG_inBlock kn_rely hK;u_c stepG_end kn_rely hK;u_in kn_rely hK
  rw[stepG_unwind_enter rfl H.f_done (nm_done link) rfl];simp only[goes_go];refine⟨by u_nil,?_⟩;walk_nrmf doneFn
  obtain⟨m9,h9⟩:=hB (c:=_) (cs:=_) _ hK.1;exact pin m9 23 _ _ hK.1 h9 (hA rfl (Nv _ _) _ hK)
 .refine⟨34,?_⟩;u_op kn_rely hK;u_op kn_rely hK;u_op kn_rely hK;u_c stepG_region_end kn_rely hK;u_c stepG_block kn_rely hK;u_cond false kn_rely hK
  u_cond true kn_rely hK
  u_c stepG_skip kn_rely hK;u_c stepG_inBlock kn_rely hK;u_c stepG_end kn_rely hK;u_in kn_rely hK
  rw[stepG_unwind_enter rfl H.f_done (nm_done link) rfl];simp only[goes_go];refine⟨by u_nil,?_⟩;walk_nrmf doneFn
  obtain⟨m9,h9⟩:=hB (c:=_) (cs:=_) _ hK.1;exact pin m9 23 _ _ hK.1 h9 (hA rfl (Nv _ _) _ hK)
end
end
section
open Go.Conc Go.ConcN Go.RowKit Go.Conc.Lib Go.ConcR.Gen Go.ConcN.Gen Go.kg Go.bn Go.Ren
open Go.ConcR (KK wgBlock WgAt stA smA rd wr mk Payload Aside2 DC0)
variable{v:Value}{ρ:Array Nat}{p w:World}
def bS(Dn:Nat)(ops:Array Oper)(s:nA Nat)(Next:nA Nat->Prop):Prop:=
 ∃(T:Array Value) (rest:List Nat) (k:List Item),s.f=⟨187,T,.inRegion ops (0::rest)::k,false⟩/\T[3]? =some (.chan (some Dn))/\
  ∀s',(s'=⟨s.m,s.f.finish (.tuple #[.int .i64 (-1),.bool false,.agg #[]]),s.fs,s.w⟩\/s'=⟨1,s.f.finish (.tuple #[.int .i64 0,.bool false,.agg #[]]),s.fs,s.w⟩)->Next s'
theorem cres_d(Dn:Nat):commResult #[rcase Dn (.agg #[])] .select (-1) undef false= .tuple #[.int .i64 (-1),.bool false,.agg #[]]:=by simp[commResult,rcase,goInt]
theorem cres_c(Dn:Nat):commResult #[rcase Dn (.agg #[])] .select 0 (.agg #[]) false= .tuple #[.int .i64 0,.bool false,.agg #[]]:=by simp[commResult,rcase,goInt]
theorem cur_at(C:Ctx)(f:Fr)(fs:List Fr)(h:f.ret=false):cur C f fs=({(default:Frame)with fn:=f.fn,kind:=kH C fs}).at ⟨f.tmps,iN C fs⟩ (f.todo++tail C fs):=by
 rw[dL];simp[Frame.at,Fr.mode,h]
theorem Js{P:Program}(C:Ctx)(f:Fr)(fs:List Fr){cases:Array CommCase}{sh:CommShape}{k:Int}{ok:Bool}(h:Wx f):(gZ C f fs).finishComm P cases sh k v ok=gZ C (f.finish (commResult cases sh k v ok)) fs:=by
 obtain⟨ops,i,rest,kk,e⟩:=h;rw[cK,cK];simp only[Goroutine.finishComm,G];rw[sO (C:=C) f fs _ e]
theorem sJ{P:Program}{X A:FuncId->Bool}{K:FuncId->Nat->Nat}{f f':Fr}{fs fs':List Fr}(h:n_ P X A K ρ p f fs f' fs' w){ops:Array Oper}{i:Nat}{rest:List Nat}{k:List Item}(ba:f.todo= .inRegion ops (i::rest)::k){o:Oper}(ho:ops[i]? =some o){v':Value}(hv:∀d,o.dst=some d->CR ρ (K f.fn d) v v'):
  n_ P X A K ρ p (f.finish v) fs (f'.finish v') fs' w:=by
 have hh:=h.st.head;have eF:f'.todo= .inRegion ops (i::rest)::k:=by rw[hh.todo,ba]
 refine⟨h.st.swap ⟨?_,?_,?_,?_,?_⟩ ?_,h.wr⟩
 .simp only[Fr.finish,ba,eF,hh.fn]
 .simp only[Fr.finish,ba,eF]
 .simp only[Fr.finish,ba,eF,hh.ret]
 .simp only[Fr.finish,ba,eF,ho,Option.bind_some];cases hd:o.dst with
  |none=>simpa using hh.tmps
  |some d=>exact hh.tmps.set d (hv d hd)
 .intro x hx;simp only[Fr.finish,ba,List.mem_cons]at hx⊢;rcases hx with rfl|hx
  .have:=hh.ok (.inRegion ops (i::rest)) (by rw[ba];simp);exact this
  .exact hh.ok x (by rw[ba];simp[hx])
 .simp only[Fr.finish,ba]
theorem Ag{P:Program}{X A:FuncId->Bool}{K:FuncId->Nat->Nat}{f f':Fr}{fs fs':List Fr}(h:n_ P X A K ρ p f fs f' fs' w){n t r:Nat}(hx:Ext (Array.range n) ρ)(hr:r<n)(hK:K f.fn t=0)(ht:f.tmps[t]? =some (.chan (some r))):f'.tmps[t]? =some (.chan (some r)):=by
 have hT:=h.st.head.tmps;have ai:t<f.tmps.size:=(Array.getElem?_eq_some_iff.1 ht).1;have e:f'.tmps[t]? =some (f'.tmps[t]'(hT.1▸ai)):=Array.getElem?_eq_getElem _;have:=hT.2 t _ _ ht e;rw[hK]at this;rw[e];generalize f'.tmps[t]'(hT.1▸ai)=v' at this;cases this with
 |chan kA=>
  have:=hx r r (fU hr);rw[kA]at this;obtain rfl:=Option.some.inj this;rfl
theorem XM{H:Ph}(hP:H.P=prog)(hK:H.K=jX)(jz:H.Cx.kind≠.early)(hB:H.Dn<H.B0){m:Nat}{f f':Fr}{fs fs':List Fr}{Next:nA Nat->Prop}(h:n_ H.P H.X H.A H.K ρ p f fs f' fs' w)(hx:Ext (Array.range H.B0) ρ)
  (hn:bS H.Dn (aX (aI 2 (f187.body.getD .skip))) ⟨m,f,fs,p⟩ Next):
  ∃z sh bj f1 JA f2 f2',(∀w,stepG H.P false (gZ H.Cx f' fs') w= .comm bj #[rcase H.Dn z] false sh w #[])/\
  bj.finishComm H.P #[rcase H.Dn z] sh (-1) undef false=gZ H.Cx JA fs'/\n_ H.P H.X H.A H.K ρ p f1 fs JA fs' w/\Next ⟨m,f1,fs,p⟩/\
  bj.finishComm H.P #[rcase H.Dn z] sh 0 z false=gZ H.Cx f2' fs'/\n_ H.P H.X H.A H.K ρ p f2 fs f2' fs' w/\Next ⟨1,f2,fs,p⟩:=by
 obtain⟨T,rest,k,rfl,hT,fL⟩:=hn;have hh:=h.st.head;have eF:f'.todo= .inRegion (aX (aI 2 (f187.body.getD .skip))) (0::rest)::k:=hh.todo;have il:f'.ret=false:=hh.ret;have sr:f'.tmps[3]? =some (.chan (some H.Dn)):=Ag (t:=3) h hx hB (by rw[hK];rfl) hT;have l_:Wx f':=⟨_,_,_,_,eF⟩;have hv:∀(n:Int) (d:Nat),(some 4:Option Nat)=some d->CR ρ (H.K 187 d) (.tuple #[.int .i64 n,.bool false,.agg #[]]) (.tuple #[.int .i64 n,.bool false,.agg #[]]):=by
  intro n d hd;obtain rfl:=Option.some.inj hd;rw[hK];refine(⟨_,_,rfl,rfl,rfl,fun i x x' h1 h2=>?_,fun i x x' hi h1 h2=>?_⟩:CR ρ 4 _ _)
  .rw[h1]at h2;obtain rfl:=Option.some.inj h2;match i,h1 with
   |0,h1=>obtain rfl:=Option.some.inj h1;exact .int _ _
   |1,h1=>obtain rfl:=Option.some.inj h1;exact .bool _
   |2,h1=>obtain rfl:=Option.some.inj h1;exact .agg rfl fun i v v' h=>by simp at h
   |i+3,h1=>simp at h1
  .rw[h1]at h2;obtain rfl:=Option.some.inj h2;match i,h1,hi with
   |0,h1,_=>obtain rfl:=Option.some.inj h1;exact .int _ _
   |1,h1,_=>obtain rfl:=Option.some.inj h1;exact .bool _
 have e1:=Js (P:=H.P) H.Cx f' fs' (cases:=#[rcase H.Dn (.agg #[])]) (sh:=.select) (k:= -1) (v:=undef) (ok:=false) l_;have e2:=Js (P:=H.P) H.Cx f' fs' (cases:=#[rcase H.Dn (.agg #[])]) (sh:=.select) (k:=0) (v:=.agg #[]) (ok:=false) l_;rw[show commResult #[rcase H.Dn (.agg #[])] .select (-1) undef false= .tuple #[.int .i64 (-1),.bool false,.agg #[]]from cres_d _]at e1;rw[show commResult #[rcase H.Dn (.agg #[])] .select 0 (.agg #[]) false= .tuple #[.int .i64 0,.bool false,.agg #[]]from cres_c _]at e2;refine⟨.agg #[],.select,gZ H.Cx f' fs',_,_,_,_,fun w=>?_,e1,sJ (o:=(aX (aI 2 (f187.body.getD .skip)))[0]) h rfl rfl (hv (-1)),fL _ (.inl rfl),e2,sJ (o:=(aX (aI 2 (f187.body.getD .skip)))[0]) h rfl rfl (hv 0),fL _ (.inr rfl)⟩;rw[cK,cur_at _ _ _ il,eF,hP];refine Eq.trans (stepG_comm (cases:=#[rcase H.Dn (.agg #[])]) (blocking:=false) (shape:=.select) (w':=w) rfl rfl ?_ ?_) ?_
 .cases fs'<;>simp[kH,jz]
 .simp only[aX,aI,f187,Option.getD_some];have hg:f'.tmps[3]?.getD undef= .chan (some H.Dn):=by rw[sr];rfl
  simp[go_sem,rcase,hg]
 .rw[listed_nil (by simp[go_sem,aX,aI,f187])];rfl
end
section
open Go.Conc Go.ConcN Go.RowKit Go.Conc.Lib Go.ConcR.Gen Go.ConcN.Gen Go.kg
open Go.ConcR (KK wgBlock WgAt stA smA rd wr mk Payload Aside2 DC0)
def Wi(i:Nat)(v:Value):Prop:=∃(da:Option Addr) (dl dc:Nat) (wh:Bool),v= .agg #[.int .i64 i,.slice da dl dc,.bool wh]
def S_:Code->Code
 | .cond _ a _=>a
 |c=>c
theorem L_:(prog.funcs[92]?).any (·.norace)=false:=by rw[func92];rfl
theorem Cm(P:Program)(w:World)(es:Array Event)(a:Addr)(m:Mode)(b:Bool):(store a (.bool b) m).events P w es=storedEv P w es a (.bool b) m:=events_store P w es a _ m rfl
theorem Vt{P:Program}{b:Frame}{a:Act}{k:List Item}{cs:List Frame}{ops:Array Oper}{i:Nat}{rest:List Nat}{cases:Array CommCase}{v:Value}:
  (G (b.at a (.inRegion ops (i::rest)::k)) cs).finishComm P cases (.recv false) 0 v true=G (b.at (a.put ((ops[i]?).bind (·.dst)) v) (.inRegion ops rest::k)) cs:=by
 simp[Goroutine.finishComm,commResult,G,Frame.finish_at]
structure PJ(H:Ph)(cP:Nat)(mine:Nat->Prop)(w:World):Prop where
 row:∃parts:Array Value,w.heap[cP]? =some (.cells parts 28)/\parts.size=H.N
 own:mine cP
 live:WgLive H.ty H.Wg w
structure PI(H:Ph)(cP:Nat)(got:Nat->Option Value)(mine:Nat->Prop)(w:World):Prop where
 row:∃parts:Array Value,w.heap[cP]? =some (.cells parts 28)/\parts.size=H.N/\∀i v,got i=some v->∃da dl dc,v= .agg #[.int .i64 i,.slice da dl dc,.bool true]/\parts[i]? =some (.slice da dl dc)
 own:mine cP
 live:WgLive H.ty H.Wg w
theorem VH[Payload]{H:Ph}(hP:H.P=prog)(Ve:∀i v,H.RZ i v->Wi i v){cf:Frame}{cs:List Frame}(UF:H.ty≠28)(hN:H.N<2147483648)
  (cY:∃n,∀(cP:Nat) (got:Nat->Option Value) (mine:Nat->Prop) (w:World),PI H cP got mine w->(∀i,i<H.N->got i≠none)->aO H (og H true got) n mine (G (cf.finish (.tuple #[.slice (some ⟨cP,0,none⟩) H.N H.N,.bool true])) cs) w)
  (hbad:∃n,∀(cP:Nat) (got:Nat->Option Value) (mine:Nat->Prop) (w:World),PJ H cP mine w->(∃i da dl dc,i<H.N/\got i=some (.agg #[.int .i64 i,.slice da dl dc,.bool false]))->aO H (og H false got) n mine (G (cf.finish (.tuple #[.slice none 0 0,.bool false])) cs) w):
  ∀k:Nat,∃n,∀(cP c:Nat) (j3 j4 j5 j6 j7 j9 a8 a6 b9 b7 c2 c1 c0 b8 a9 b5 b3 b1 b6 b4 b0 b2 a7:Value) (got:Nat->Option Value) (mine:Nat->Prop) (w:World),c+k=H.N->PI H cP got mine w->(k=0->∀i,i<H.N->got i≠none)->(sumTo H.N (fun i=>if got i=none then 1 else 0)=k)->
   aO H (fun m g w=>qC H k got m g w\/AtClose H got m g w) n mine (G ((base 92).at ⟨#[.chan (some H.R),.chan (some H.Dn),.int .i64 H.N,j3,j4,j5,j6,j7,.slice (some ⟨cP,0,none⟩) H.N H.N,j9,a8,a6,.int .i64 H.N,.int .i64 c,b9,b7,c2,c1,c0,b8,a9,b5,b3,b1,b6,b4,b0,b2,a7],[]⟩ [.code (dJ (aI 1 (aI 2 (f92.body.getD .skip)))),.inLoop (dJ (aI 1 (aI 2 (f92.body.getD .skip)))),.inBlock 0,.code (bI 3 (f92.body.getD .skip))]) (cf::cs)) w:=by
 intro k;induction k with
 |zero=>
  obtain⟨n0,h0⟩:=cY;refine⟨n0+30,?_⟩;intro cP c j3 j4 j5 j6 j7 j9 a8 a6 b9 b7 c2 c1 c0 b8 a9 b5 b3 b1 b6 b4 b0 b2 a7 got mine w hc hI cG fc;have hcN:¬(c:Int)<(H.N:Int):=by omega
  simp only[f92,Option.getD_some,aI,bI,dJ];refine aO.ctl hP rfl (fun _=>stepG_seq) ?_;refine aO.reg hP (todo:= [0]) rfl ?_;refine aO.op hP rfl rfl (by decide) (fun w aa=>⟨mine,fun K hK=>?_⟩);replace hI:PI H cP got mine w:=⟨by rw[aa.row cP (.inr hI.own)];exact hI.row,hI.own,aa.live hI.live⟩;clear aa;go_simp;refine hK _ _ ⟨.nothing (listed_nil (by simp[go_sem])),?_⟩;clear hK;try walk_nrm
  refine aO.ctl hP rfl (fun _=>stepG_region_end) ?_;refine aO.ctl hP rfl (fun _=>stepG_seq) ?_;refine aO.no hP (by first|rfl|simp[Act.eval]) ?_;refine aO.ctl hP rfl (fun _=>stepG_exit rfl) ?_;refine aO.ctl hP rfl (fun _=>stepG_seq) ?_;refine aO.reg hP (todo:= [0,1,2]) rfl ?_;refine aO.op hP rfl rfl (by decide) (fun w aa=>⟨mine,fun K hK=>?_⟩);replace hI:PI H cP got mine w:=⟨by rw[aa.row cP (.inr hI.own)];exact hI.row,hI.own,aa.live hI.live⟩;clear aa;go_simp;refine hK _ _ ⟨.nothing (listed_nil (by simp[go_sem])),?_⟩;clear hK;try walk_nrm
  iterate 2 (refine aO.op hP rfl rfl (by decide) (fun w aa=>⟨mine,fun K hK=>?_⟩);replace hI:PI H cP got mine w:=⟨by rw[aa.row cP (.inr hI.own)];exact hI.row,hI.own,aa.live hI.live⟩;clear aa;go_simp;refine hK _ _ ⟨.nothing (listed_nil (by simp[go_sem])),?_⟩;clear hK;try walk_nrm)
  refine aO.ctl hP rfl (fun _=>stepG_region_end) ?_;refine aO.ctl hP rfl (fun _=>stepG_ret') ?_;refine aO.ctl hP rfl (fun w=>stepG_leave (fn:=f92) (v:=.tuple #[.slice (some ⟨cP,0,none⟩) H.N H.N,.bool true]) rfl rfl func92 (by simp[results,f92,go_sem]) (by simp[results,f92,go_sem])) ?_;exact aO.more (aO.mono (fun _ _ _ h=>.inl h) (h0 cP got mine w hI (cG rfl))) (by omega)
 |succ k ih=>
  refine⟨40,?_⟩;intro cP c j3 j4 j5 j6 j7 j9 a8 a6 b9 b7 c2 c1 c0 b8 a9 b5 b3 b1 b6 b4 b0 b2 a7 got mine w hc hI cG fc;have hcN:(c:Int)<(H.N:Int):=by omega
  simp only[f92,Option.getD_some,aI,bI,dJ]at ih⊢;refine aO.ctl hP rfl (fun _=>stepG_seq) ?_;refine aO.reg hP (todo:= [0]) rfl ?_;refine aO.op hP rfl rfl (by decide) (fun w aa=>⟨mine,fun K hK=>?_⟩);replace hI:PI H cP got mine w:=⟨by rw[aa.row cP (.inr hI.own)];exact hI.row,hI.own,aa.live hI.live⟩;clear aa;go_simp;refine hK _ _ ⟨.nothing (listed_nil (by simp[go_sem])),?_⟩;clear hK;try walk_nrm
  refine aO.ctl hP rfl (fun _=>stepG_region_end) ?_;refine aO.ctl hP rfl (fun _=>stepG_seq) ?_;refine aO.yes hP (by first|rfl|simp[Act.eval]) ?_;refine aO.ctl hP rfl (fun _=>stepG_skip) ?_;refine aO.ctl hP rfl (fun _=>stepG_seq) ?_;refine aO.ctl hP rfl (fun _=>stepG_block) ?_;refine aO.ctl hP rfl (fun _=>stepG_seq) ?_;refine aO.reg hP (todo:= [0,1,2,3]) rfl ?_;refine aO.op hP rfl rfl (by decide) (fun w aa=>⟨mine,fun K hK=>?_⟩);replace hI:PI H cP got mine w:=⟨by rw[aa.row cP (.inr hI.own)];exact hI.row,hI.own,aa.live hI.live⟩;clear aa;go_simp;refine hK _ _ ⟨.nothing (listed_nil (by simp[go_sem])),?_⟩;clear hK;try walk_nrm
  refine aO.stop (fun w aa=>.inl ⟨rfl,.agg #[.int .i64 0,.slice none 0 0,.bool false],fun w=>?_,fun i v hi hn hv w gN=>?_⟩)
  .rw[hP];refine Eq.trans (stepG_comm (cases:=#[rcase H.R (.agg #[.int .i64 0,.slice none 0 0,.bool false])]) (blocking:=true) (shape:=.recv false) (w':=w) rfl rfl (by decide) ?_) ?_
   .simp[go_sem,rcase]
   .rw[listed_nil (by simp[go_sem])]
  .obtain⟨da,dl,dc,wh,rfl⟩:=Ve i v hv;replace hI:PI H cP got mine w:=⟨by rw[gN.row cP (.inr hI.own),aa.row cP (.inr hI.own)];exact hI.row,hI.own,gN.live (aa.live hI.live)⟩;clear aa gN;obtain⟨n1,ih1⟩:=ih;obtain⟨n2,hb⟩:=hbad;refine⟨n1+n2+60,?_⟩;rw[Vt];walk_nrm
   refine aO.op hP rfl rfl (by decide) (fun w aa=>⟨fun b=>mine b\/b=w.heap.size,fun K hK=>?_⟩);replace hI:PI H cP got mine w:=⟨by rw[aa.row cP (.inr hI.own)];exact hI.row,hI.own,aa.live hI.live⟩;clear aa;go_simp;refine hK _ _ ⟨.makes (fun e he=>by have hm:=mem_listed he;simp[go_sem]at hm),?_⟩;clear hK;have hZ:=yx w (.cells #[.int .i64 0,.slice none 0 0,.bool false] 161);replace hI:PI H cP got (fun b=>mine b\/b=w.heap.size) (w.alloc (.cells #[.int .i64 0,.slice none 0 0,.bool false] 161)):=⟨let⟨p,h1,h2⟩:=hI.row;⟨p,qI h1,h2⟩,.inl hI.own,let⟨st,sm,hl⟩:=hI.live;⟨st,sm,qI hl⟩⟩;have bd:cP≠w.heap.size:=by
    obtain⟨p,h1,_⟩:=hI.row;intro e;rw[e,hZ]at h1;simp at h1
   have hnW:H.Wg≠w.heap.size:=by
    obtain⟨st,sm,hl⟩:=hI.live;intro e;rw[WgAt,e,hZ]at hl;simp[wgBlock]at hl
   generalize w.alloc (.cells #[.int .i64 0,.slice none 0 0,.bool false] 161)=w0 at hI hZ⊢;obtain⟨cr,Ft⟩:∃cr,cr=w.heap.size:=⟨_,rfl⟩;rw[<-Ft]at hZ hI bd hnW⊢;clear Ft;try walk_nrm
   refine aO.op hP rfl rfl (by decide) (fun w aa=>⟨fun b=>mine b\/b=cr,fun K hK=>?_⟩);replace hI:PI H cP got (fun b=>mine b\/b=cr) w:=⟨by rw[aa.row cP (.inr hI.own)];exact hI.row,hI.own,aa.live hI.live⟩;replace hZ:=(aa.row cr (.inr (.inr rfl))).trans hZ;clear aa;have ey:w.cell? ⟨cr,0,none⟩=some (.int .i64 0):=by simp[World.cell?,hZ]
   have dr:w.cell? ⟨cr,1,none⟩=some (.slice none 0 0):=by simp[World.cell?,hZ]
   have ef:w.cell? ⟨cr,2,none⟩=some (.bool false):=by simp[World.cell?,hZ]
   have hf:∀k,w.frozen? ⟨cr,k,none⟩=false:=fun k=>by simp[World.frozen?,hZ]
   go_simp;try (unfold stored;go_simp)
   have eV:Aside cr w (((w.setCell ⟨cr,0,none⟩ (.int .i64 i)).setCell ⟨cr,1,none⟩ (.slice da dl dc)).setCell ⟨cr,2,none⟩ (.bool wh)):=((aside_setCell w ⟨cr,0,none⟩ _).trans (aside_setCell _ ⟨cr,1,none⟩ _)).trans (aside_setCell _ ⟨cr,2,none⟩ _);refine hK _ _ ⟨.turns eV (.inr rfl) (fun e he=>?_) (fun h=>Go.Ren.vI (Go.Ren.vI (Go.Ren.vI h))),?_⟩
   .have hm:=mem_listed he;simp[go_sem,Cm,ey,dr,ef,hf]at hm;rcases hm with rfl|rfl|rfl<;>exact⟨_,_,rfl⟩
   clear hK ey dr ef hf;replace hZ:(((w.setCell ⟨cr,0,none⟩ (.int .i64 i)).setCell ⟨cr,1,none⟩ (.slice da dl dc)).setCell ⟨cr,2,none⟩ (.bool wh)).heap[cr]? =some (.cells #[.int .i64 i,.slice da dl dc,.bool wh] 161):=by simp[World.setCell,Array.getElem?_modify,hZ]
   replace hI:PI H cP got (fun b=>mine b\/b=cr) (((w.setCell ⟨cr,0,none⟩ (.int .i64 i)).setCell ⟨cr,1,none⟩ (.slice da dl dc)).setCell ⟨cr,2,none⟩ (.bool wh)):=⟨by rw[eV.block cP bd];exact hI.row,hI.own,let⟨st,sm,hl⟩:=hI.live;⟨st,sm,(eV.block _ hnW).trans hl⟩⟩;generalize (((w.setCell ⟨cr,0,none⟩ (.int .i64 i)).setCell ⟨cr,1,none⟩ (.slice da dl dc)).setCell ⟨cr,2,none⟩ (.bool wh))=w0 at hI hZ⊢;clear eV;try walk_nrm
   refine aO.ctl hP rfl (fun _=>stepG_region_end) ?_;refine aO.ctl hP rfl (fun _=>stepG_seq) ?_;refine aO.ctl hP rfl (fun _=>stepG_seq) ?_;refine aO.reg hP (todo:= [0,1,2]) rfl ?_;refine aO.op hP rfl rfl (by decide) (fun w aa=>⟨fun b=>mine b\/b=cr,fun K hK=>?_⟩);replace hI:PI H cP got (fun b=>mine b\/b=cr) w:=⟨by rw[aa.row cP (.inr hI.own)];exact hI.row,hI.own,aa.live hI.live⟩;replace hZ:=(aa.row cr (.inr (.inr rfl))).trans hZ;clear aa;have ey:w.cell? ⟨cr,0,none⟩=some (.int .i64 i):=by simp[World.cell?,hZ]
   have dr:w.cell? ⟨cr,1,none⟩=some (.slice da dl dc):=by simp[World.cell?,hZ]
   have ef:w.cell? ⟨cr,2,none⟩=some (.bool wh):=by simp[World.cell?,hZ]
   go_simp;refine hK _ _ ⟨.nothing (listed_nil (by simp[go_sem])),?_⟩;clear hK ey dr ef;try walk_nrm
   refine aO.op hP rfl rfl (by decide) (fun w aa=>⟨fun b=>mine b\/b=cr,fun K hK=>?_⟩);replace hI:PI H cP got (fun b=>mine b\/b=cr) w:=⟨by rw[aa.row cP (.inr hI.own)];exact hI.row,hI.own,aa.live hI.live⟩;replace hZ:=(aa.row cr (.inr (.inr rfl))).trans hZ;clear aa;have ey:w.cell? ⟨cr,0,none⟩=some (.int .i64 i):=by simp[World.cell?,hZ]
   have dr:w.cell? ⟨cr,1,none⟩=some (.slice da dl dc):=by simp[World.cell?,hZ]
   have ef:w.cell? ⟨cr,2,none⟩=some (.bool wh):=by simp[World.cell?,hZ]
   go_simp;refine hK _ _ ⟨.turns (c:=cr) (.refl _ w) (.inr rfl) (fun e he=>by have hm:=mem_listed he;simp[go_sem,ef]at hm;exact⟨_,_,hm⟩) id,?_⟩;clear hK ey dr ef;try walk_nrm
   refine aO.op hP rfl rfl (by decide) (fun w aa=>⟨fun b=>mine b\/b=cr,fun K hK=>?_⟩);replace hI:PI H cP got (fun b=>mine b\/b=cr) w:=⟨by rw[aa.row cP (.inr hI.own)];exact hI.row,hI.own,aa.live hI.live⟩;replace hZ:=(aa.row cr (.inr (.inr rfl))).trans hZ;clear aa;have ey:w.cell? ⟨cr,0,none⟩=some (.int .i64 i):=by simp[World.cell?,hZ]
   have dr:w.cell? ⟨cr,1,none⟩=some (.slice da dl dc):=by simp[World.cell?,hZ]
   have ef:w.cell? ⟨cr,2,none⟩=some (.bool wh):=by simp[World.cell?,hZ]
   go_simp;refine hK _ _ ⟨.nothing (listed_nil (by simp[go_sem])),?_⟩;clear hK ey dr ef;try walk_nrm
   refine aO.ctl hP rfl (fun _=>stepG_region_end) ?_;cases wh with
   |false=>
    refine aO.yes hP (by first|rfl|simp[Act.eval]) ?_;refine aO.ctl hP rfl (fun _=>stepG_seq) ?_;refine aO.reg hP (todo:= [0,1]) rfl ?_;refine aO.op hP rfl rfl (by decide) (fun w aa=>⟨fun b=>mine b\/b=cr,fun K hK=>?_⟩);replace hI:PI H cP got (fun b=>mine b\/b=cr) w:=⟨by rw[aa.row cP (.inr hI.own)];exact hI.row,hI.own,aa.live hI.live⟩;replace hZ:=(aa.row cr (.inr (.inr rfl))).trans hZ;clear aa;have ey:w.cell? ⟨cr,0,none⟩=some (.int .i64 i):=by simp[World.cell?,hZ]
    have dr:w.cell? ⟨cr,1,none⟩=some (.slice da dl dc):=by simp[World.cell?,hZ]
    have ef:w.cell? ⟨cr,2,none⟩=some (.bool false):=by simp[World.cell?,hZ]
    go_simp;refine hK _ _ ⟨.nothing (listed_nil (by simp[go_sem])),?_⟩;clear hK ey dr ef;try walk_nrm
    refine aO.stop (fun w aa=>.inr ⟨rfl,fun s r tm hD=>?_⟩);replace hI:PI H cP got (fun b=>mine b\/b=cr) w:=⟨by rw[aa.row cP (.inr hI.own)];exact hI.row,hI.own,aa.live hI.live⟩;clear aa;refine⟨(G ((base 92).at ⟨#[.chan (some H.R),.chan (some H.Dn),.int .i64 H.N,j3,j4,j5,j6,j7,.slice (some ⟨cP,0,none⟩) H.N H.N,.pointer (some ⟨cr,0,none⟩),a8,a6,.int .i64 H.N,.int .i64 c,.bool true,.chan (some H.R),.agg #[.int .i64 i,.slice da dl dc,.bool false],.pointer (some ⟨cr,2,none⟩),.bool false,.bool true,.chan (some H.Dn),b5,b3,b1,b6,b4,b0,b2,a7],[]⟩ [.inRegion (aX (aI 0 (S_ (bI 1 (aI 1 (sU (aI 2 (dJ (aI 1 (aI 2 (f92.body.getD .skip))))))))))) [],.code (bI 1 (S_ (bI 1 (aI 1 (sU (aI 2 (dJ (aI 1 (aI 2 (f92.body.getD .skip)))))))))),.code (bI 2 (sU (aI 2 (dJ (aI 1 (aI 2 (f92.body.getD .skip))))))),.inBlock 1,.code (bI 3 (dJ (aI 1 (aI 2 (f92.body.getD .skip))))),.inLoop (dJ (aI 1 (aI 2 (f92.body.getD .skip)))),.inBlock 0,.code (bI 3 (f92.body.getD .skip))]) (cf::cs)),closeEvents H.Dn,?_,?_,rfl,?_,fun af aa=>?_⟩
    .rw[hP];exact Eq.trans (stepG_close (ats:=#[221]) (x:=.tmp 20) rfl rfl (by decide) rfl (c:=H.Dn) rfl hD L_) rfl
    .rw[hP];rfl
    .intro e he;have ai:H.Dn<w.heap.size:=(Array.getElem?_eq_some_iff.1 hD).1;simp only[closeEvents,List.mem_toArray,List.mem_cons,List.not_mem_nil,or_false]at he;rcases he with rfl|rfl
     .refine⟨fun y hy=>?_,ai,by simp,by simp,by simp⟩;simp only[MemAct.ofEvent,MemAct.touch?,Option.some.injEq]at hy;subst hy;exact⟨⟨_,rfl⟩,rfl⟩
     .exact⟨fun y hy=>by simp[MemAct.ofEvent,MemAct.touch?]at hy,ai,by simp,by simp,by simp⟩
    .replace hI:PI H cP got (fun b=>mine b\/b=cr) af:=⟨by rw[aa.row cP (.inr hI.own)];exact hI.row,hI.own,aa.live hI.live⟩;clear aa hD;have cE:∃i' JY dl' dc',i'<H.N/\upd got i (some (.agg #[.int .i64 i,.slice da dl dc,.bool false])) i'=some (.agg #[.int .i64 i',.slice JY dl' dc',.bool false]):=⟨i,da,dl,dc,hi,upd_same ..⟩;generalize U3:upd got i (some (.agg #[.int .i64 i,.slice da dl dc,.bool false]))=got' at cE⊢;refine⟨n2+20,?_⟩;simp only[f92,Option.getD_some,aI,bI,dJ,sU,S_,aX];refine aO.ctl hP rfl (fun _=>stepG_region_end) ?_;refine aO.ctl hP rfl (fun _=>stepG_seq) ?_;refine aO.reg hP (todo:= [0,1]) rfl ?_;refine aO.op hP rfl rfl (by decide) (fun w aa=>⟨(fun b=>mine b\/b=cr),fun K hK=>?_⟩);replace hI:PI H cP got (fun b=>mine b\/b=cr) w:=⟨by rw[aa.row cP (.inr hI.own)];exact hI.row,hI.own,aa.live hI.live⟩;clear aa;go_simp;refine hK _ _ ⟨.nothing (listed_nil (by simp[go_sem])),?_⟩;clear hK;try walk_nrm
     refine aO.op hP rfl rfl (by decide) (fun w aa=>⟨(fun b=>mine b\/b=cr),fun K hK=>?_⟩);replace hI:PI H cP got (fun b=>mine b\/b=cr) w:=⟨by rw[aa.row cP (.inr hI.own)];exact hI.row,hI.own,aa.live hI.live⟩;clear aa;go_simp;refine hK _ _ ⟨.nothing (listed_nil (by simp[go_sem])),?_⟩;clear hK;try walk_nrm
     refine aO.ctl hP rfl (fun _=>stepG_region_end) ?_;refine aO.ctl hP rfl (fun _=>stepG_ret') ?_;refine aO.ctl hP rfl (fun w=>stepG_leave (fn:=f92) (v:=.tuple #[.slice none 0 0,.bool false]) rfl rfl func92 (by simp[results,f92,go_sem]) (by simp[results,f92,go_sem])) ?_;exact aO.more (hb cP got' _ w ⟨hI.row.imp fun p h=>⟨h.1,h.2.1⟩,hI.own,hI.live⟩ cE) (by omega)
   |true=>
    refine aO.no hP (by first|rfl|simp[Act.eval]) ?_;refine aO.ctl hP rfl (fun _=>stepG_skip) ?_;refine aO.reg hP (todo:= [0,1,2,3,4,5,6]) rfl ?_;have hiN:(i:Int)<(H.N:Int):=by omega
    refine aO.op hP rfl rfl (by decide) (fun w aa=>⟨fun b=>mine b\/b=cr,fun K hK=>?_⟩);replace hI:PI H cP got (fun b=>mine b\/b=cr) w:=⟨by rw[aa.row cP (.inr hI.own)];exact hI.row,hI.own,aa.live hI.live⟩;replace hZ:=(aa.row cr (.inr (.inr rfl))).trans hZ;clear aa;have ey:w.cell? ⟨cr,0,none⟩=some (.int .i64 i):=by simp[World.cell?,hZ]
    have dr:w.cell? ⟨cr,1,none⟩=some (.slice da dl dc):=by simp[World.cell?,hZ]
    have ef:w.cell? ⟨cr,2,none⟩=some (.bool true):=by simp[World.cell?,hZ]
    go_simp;refine hK _ _ ⟨.nothing (listed_nil (by simp[go_sem])),?_⟩;clear hK ey dr ef;try walk_nrm
    refine aO.op hP rfl rfl (by decide) (fun w aa=>⟨fun b=>mine b\/b=cr,fun K hK=>?_⟩);replace hI:PI H cP got (fun b=>mine b\/b=cr) w:=⟨by rw[aa.row cP (.inr hI.own)];exact hI.row,hI.own,aa.live hI.live⟩;replace hZ:=(aa.row cr (.inr (.inr rfl))).trans hZ;clear aa;have ey:w.cell? ⟨cr,0,none⟩=some (.int .i64 i):=by simp[World.cell?,hZ]
    have dr:w.cell? ⟨cr,1,none⟩=some (.slice da dl dc):=by simp[World.cell?,hZ]
    have ef:w.cell? ⟨cr,2,none⟩=some (.bool true):=by simp[World.cell?,hZ]
    go_simp;refine hK _ _ ⟨.nothing (listed_nil (by simp[go_sem])),?_⟩;clear hK ey dr ef;try walk_nrm
    refine aO.op hP rfl rfl (by decide) (fun w aa=>⟨fun b=>mine b\/b=cr,fun K hK=>?_⟩);replace hI:PI H cP got (fun b=>mine b\/b=cr) w:=⟨by rw[aa.row cP (.inr hI.own)];exact hI.row,hI.own,aa.live hI.live⟩;replace hZ:=(aa.row cr (.inr (.inr rfl))).trans hZ;clear aa;have ey:w.cell? ⟨cr,0,none⟩=some (.int .i64 i):=by simp[World.cell?,hZ]
    have dr:w.cell? ⟨cr,1,none⟩=some (.slice da dl dc):=by simp[World.cell?,hZ]
    have ef:w.cell? ⟨cr,2,none⟩=some (.bool true):=by simp[World.cell?,hZ]
    go_simp;refine hK _ _ ⟨.turns (c:=cr) (.refl _ w) (.inr rfl) (fun e he=>by have hm:=mem_listed he;simp[go_sem,ey]at hm;exact⟨_,_,hm⟩) id,?_⟩;clear hK ey dr ef;try walk_nrm
    refine aO.op hP rfl rfl (by decide) (fun w aa=>⟨fun b=>mine b\/b=cr,fun K hK=>?_⟩);replace hI:PI H cP got (fun b=>mine b\/b=cr) w:=⟨by rw[aa.row cP (.inr hI.own)];exact hI.row,hI.own,aa.live hI.live⟩;replace hZ:=(aa.row cr (.inr (.inr rfl))).trans hZ;clear aa;have ey:w.cell? ⟨cr,0,none⟩=some (.int .i64 i):=by simp[World.cell?,hZ]
    have dr:w.cell? ⟨cr,1,none⟩=some (.slice da dl dc):=by simp[World.cell?,hZ]
    have ef:w.cell? ⟨cr,2,none⟩=some (.bool true):=by simp[World.cell?,hZ]
    go_simp;refine hK _ _ ⟨.nothing (listed_nil (by simp[go_sem])),?_⟩;clear hK ey dr ef;try walk_nrm
    refine aO.op hP rfl rfl (by decide) (fun w aa=>⟨fun b=>mine b\/b=cr,fun K hK=>?_⟩);replace hI:PI H cP got (fun b=>mine b\/b=cr) w:=⟨by rw[aa.row cP (.inr hI.own)];exact hI.row,hI.own,aa.live hI.live⟩;replace hZ:=(aa.row cr (.inr (.inr rfl))).trans hZ;clear aa;have ey:w.cell? ⟨cr,0,none⟩=some (.int .i64 i):=by simp[World.cell?,hZ]
    have dr:w.cell? ⟨cr,1,none⟩=some (.slice da dl dc):=by simp[World.cell?,hZ]
    have ef:w.cell? ⟨cr,2,none⟩=some (.bool true):=by simp[World.cell?,hZ]
    go_simp;refine hK _ _ ⟨.turns (c:=cr) (.refl _ w) (.inr rfl) (fun e he=>by have hm:=mem_listed he;simp[go_sem,dr]at hm;exact⟨_,_,hm⟩) id,?_⟩;clear hK ey dr ef;try walk_nrm
    refine aO.op hP rfl rfl (by decide) (fun w aa=>⟨fun b=>mine b\/b=cr,fun K hK=>?_⟩);replace hI:PI H cP got (fun b=>mine b\/b=cr) w:=⟨by rw[aa.row cP (.inr hI.own)];exact hI.row,hI.own,aa.live hI.live⟩;replace hZ:=(aa.row cr (.inr (.inr rfl))).trans hZ;clear aa;have ey:w.cell? ⟨cr,0,none⟩=some (.int .i64 i):=by simp[World.cell?,hZ]
    have dr:w.cell? ⟨cr,1,none⟩=some (.slice da dl dc):=by simp[World.cell?,hZ]
    have ef:w.cell? ⟨cr,2,none⟩=some (.bool true):=by simp[World.cell?,hZ]
    go_simp;refine hK _ _ ⟨.nothing (listed_nil (by simp[go_sem,hiN])),?_⟩;clear hK ey dr ef;try walk_nrm
    refine aO.op hP rfl rfl (by decide) (fun w aa=>⟨fun b=>mine b\/b=cr,fun K hK=>?_⟩);replace hI:PI H cP got (fun b=>mine b\/b=cr) w:=⟨by rw[aa.row cP (.inr hI.own)];exact hI.row,hI.own,aa.live hI.live⟩;clear aa;obtain⟨⟨parts,iu,oa,px⟩,br,MD⟩:=hI;have Ex:parts[i]? =some (parts[i]'(by omega)):=Array.getElem?_eq_getElem _;have di:w.cell? ⟨cP,i,none⟩=some (parts[i]'(by omega)):=by simp[World.cell?,iu,Ex]
    have hff:w.frozen? ⟨cP,i,none⟩=false:=by simp[World.frozen?,iu]
    go_simp;try (unfold stored;go_simp)
    refine hK _ _ ⟨.turns (c:=cP) (aside_setCell w ⟨cP,i,none⟩ _) br (fun e he=>?_) (fun h=>Go.Ren.vI h),?_⟩
    .have hm:=mem_listed he;simp[go_sem,di,hff]at hm;exact⟨_,_,hm⟩
    clear hK;have hI:PI H cP (upd got i (some (.agg #[.int .i64 i,.slice da dl dc,.bool true]))) (fun b=>mine b\/b=cr) (w.setCell ⟨cP,i,none⟩ (.slice da dl dc)):=by
     refine⟨⟨parts.setIfInBounds i (.slice da dl dc),by simp[World.setCell,Array.getElem?_modify,iu],by simp[oa],fun i' v hv=>?_⟩,br,let⟨st,sm,hl⟩:=MD;⟨st,sm,((aside_setCell w ⟨cP,i,none⟩ _).block H.Wg (fun e=>?_)).trans hl⟩⟩;rotate_left
     .rw[WgAt,e,iu]at hl;simp[wgBlock]at hl;exact UF hl.2.symm
     by_cases e:i'=i
     .subst e;rw[upd_same]at hv;obtain rfl:=Option.some.inj hv;exact⟨da,dl,dc,rfl,by rw[Array.getElem?_setIfInBounds_self_of_lt (by omega)]⟩
     .rw[upd_ne got _ e]at hv;obtain⟨a1,a2,a3,h1,h2⟩:=px i' v hv;exact⟨a1,a2,a3,h1,by rw[Array.getElem?_setIfInBounds_ne (Ne.symm e)];exact h2⟩
    generalize w.setCell ⟨cP,i,none⟩ (.slice da dl dc)=w0 at hI⊢;clear di hff Ex iu oa px br MD;try walk_nrm
    generalize U3:upd got i (some (.agg #[.int .i64 i,.slice da dl dc,.bool true]))=got' at hI⊢;have dm:IntKind.i64.wrap ((c:Int)+1)=(c:Int)+1:=Nu _ (by omega) (by omega);refine aO.ctl hP rfl (fun _=>stepG_region_end) ?_;refine aO.ctl hP rfl (fun _=>stepG_inBlock) ?_;refine aO.reg hP (todo:= [0,1]) rfl ?_;refine aO.op hP rfl rfl (by decide) (fun w aa=>⟨(fun b=>mine b\/b=cr),fun K hK=>?_⟩);replace hI:PI H cP got' (fun b=>mine b\/b=cr) w:=⟨by rw[aa.row cP (.inr hI.own)];exact hI.row,hI.own,aa.live hI.live⟩;clear aa;go_simp;refine hK _ _ ⟨.nothing (listed_nil (by simp[go_sem])),?_⟩;clear hK;try walk_nrm
    refine aO.op hP rfl rfl (by decide) (fun w aa=>⟨(fun b=>mine b\/b=cr),fun K hK=>?_⟩);replace hI:PI H cP got' (fun b=>mine b\/b=cr) w:=⟨by rw[aa.row cP (.inr hI.own)];exact hI.row,hI.own,aa.live hI.live⟩;clear aa;go_simp;refine hK _ _ ⟨.nothing (listed_nil (by simp[go_sem])),?_⟩;clear hK;try walk_nrm
    refine aO.ctl hP rfl (fun _=>stepG_region_end) ?_;refine aO.ctl hP rfl (fun _=>stepG_inLoop) ?_;have Li:sumTo H.N (fun a=>if got' a=none then 1 else 0)=k:=by
     have h9:=sumTo_upd got (some (.agg #[.int .i64 i,.slice da dl dc,.bool true])) (fun y=>if y=none then 1 else 0) hi;simp only[hn,if_true]at h9;rw[U3]at h9;simp at h9;omega
    refine aO.more (ih1 cP (c+1) (j3) (j4) (j5) (j6) (j7) (.pointer (some ⟨cr,0,none⟩)) (a8) (a6) (.bool true) (.chan (some H.R)) (.agg #[.int .i64 i,.slice da dl dc,.bool true]) (.pointer (some ⟨cr,2,none⟩)) (.bool true) (.bool false) (a9) (.slice (some ⟨cP,0,none⟩) H.N H.N) (.pointer (some ⟨cr,0,none⟩)) (.int .i64 i) (.pointer (some ⟨cr,1,none⟩)) (.slice da dl dc) (.pointer (some ⟨cP,i,none⟩)) (.int .i64 ((c:Int)+1)) (a7) got' _ w (by omega) hI (fun hk i' bh kv=>?_) Li) (by omega);have h8:=le_sumTo (f:=fun a=>if got' a=none then 1 else 0) bh;simp only[kv,if_true]at h8;omega
end
