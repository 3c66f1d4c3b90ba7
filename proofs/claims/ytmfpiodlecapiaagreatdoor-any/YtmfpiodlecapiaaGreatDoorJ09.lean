import Derived.Test.YtmfpiodlecapiaaGreatDoorJ08
import Derived.Laws.Sem
import GoSem.Dispatch
import Derived.Calls
namespace Go.eO
open Go.Ren
variable {P:Program}
theorem FW(a:Addr)(c:Nat)(w:World):∃b,(Builtin.holdsCells a c).run P w= .ok b w:=by
 unfold Builtin.holdsCells;show∃b,(match w.shape? a.block with|some (_,n)=>(Pure.pure (a.spot.isNone&&a.off+c<=n):Sem Bool)|none=>Pure.pure false).run P w= .ok b w;cases w.shape? a.block with
 |none=>exact⟨_,rfl⟩
 |some x=>exact⟨_,rfl⟩
theorem wC{α β:Type}{s:Sem α}{f:α->Sem β}{w:World}{a:α}{b:β}(h:s.run P w= .ok a w)(hf:(f a).run P w= .ok b w):(s >>= f).run P w= .ok b w:=by
 show(s.bind f).run P w=_;rw[run_bind,h];exact hf
theorem Qs(s l n:Nat)(base:Option Addr)(x:Value)(w:World):∃b,(Builtin.mayShare s l n base x).run P w= .ok b w:=by
 have second:∃b,(match x with| .slice (some b) _ _=>do Pure.pure (!(<-Builtin.holdsCells b (n*s))||base.any (·.block==b.block))|_=>Pure.pure false:Sem Bool).run P w= .ok b w:=by
  split
  ·rename_i b _ _;obtain⟨c,hc⟩:=FW (P:=P) b (n*s) w;exact⟨_,wC hc rfl⟩
  ·exact⟨_,rfl⟩
 unfold Builtin.mayShare;cases base with
 |none=>exact second
 |some a=>
  obtain⟨c,hc⟩:=FW (P:=P) a (l*s) w;cases c with
  |false=>exact⟨true,wC hc rfl⟩
  |true=>
   cases hf:w.frozen? (a.add (l/2*s))with
   |true=>exact⟨true,wC hc (by
     show(Sem.frozen (a.add (l/2*s)) _).run P w=_;simp only[Sem.run,hf];rfl)⟩
   |false=>
    obtain⟨b,hb⟩:=second;exact⟨b,wC hc (by
     show(Sem.frozen (a.add (l/2*s)) _).run P w=_;simp only[Sem.run,hf];exact hb)⟩
theorem PY{α:Type}{s l n:Nat}{base:Option Addr}{x:Value}{f:Bool->Sem α}(hf:∀b w,∃h w',(f b).run P w= .halt h w'/\Dead h):Tm P (Builtin.mayShare s l n base x >>= f):=by
 refine .dB fun w=>?_;obtain⟨b,hb⟩:=Qs (P:=P) s l n base x w;obtain⟨h,w',h1,h2⟩:=hf b w;refine⟨h,w',?_,h2⟩;show((Builtin.mayShare s l n base x).bind f).run P w=_;rw[run_bind,hb];exact h1
theorem H_{α β:Type}{m:String}{f:α->Sem β}:Tm P ((runtimePanic (.error m):Sem α) >>= f):=.program (.halt _ (.inl ⟨_,rfl⟩))
theorem M6(ts:Array TypeId)(t:TypeId)(xs:Array Value):Tm P (Builtin.append_ ts t xs):=by
 unfold Builtin.append_;repeat' first
  |with_reducible exact ay _
  |with_reducible exact aA
  |with_reducible exact H_
  |with_reducible exact bD _
  |with_reducible exact aD _
  |with_reducible exact bY _
  |with_reducible exact dD _
  |with_reducible exact jP _
  |with_reducible exact Eb _
  |with_reducible exact cZ _
  |with_reducible exact qo _ _ _
  |with_reducible exact dW _
  |with_reducible exact iJ _ _ _
  |with_reducible exact iC _ _
  |with_reducible exact qC _
  |(with_reducible refine PY ?_
    exact fun b w=>by cases b<;>exact⟨_,_,rfl,trivial⟩)
  |with_reducible refine lQ ?_ ?_
  |with_reducible refine au ?_ (fun _=>?_)
  |split
  |dsimp only
theorem Ao:∀(l:List Field),Tm P (l.mapM fun f=>do Pure.pure (f.offset,<-sizeOf f.type))
 | []=>by rw[List.mapM_nil];exact ay _
 |f::l=>by
  rw[List.mapM_cons];refine au (au (bY _) fun _=>ay _) fun _=>?_;exact au (Ao l) fun _=>ay _
theorem Qa(t:TypeId)(ps:Array (Nat×Value)):Tm P (Instr.build t ps):=by
 unfold Instr.build;refine au (dW _) fun _=>?_;refine au (aD _) fun _=>?_;split
 ·refine au ?_ fun _=>?_
  ·rw[Array.mapM_eq_mapM_toList];exact aK (Ao _)
  ·split
   ·exact ay _
   ·exact aA
 ·refine au (bY _) fun _=>?_;split
  ·exact ay _
  ·exact aA
 ·exact aA
theorem zA(ps rs:Array TypeId)(xs:Array Value):Tm P (Extern.BytealgMakeNoZero.makeNoZero ps rs xs):=by
 rcases Classical.em (∃n,xs=#[.int .i64 n])with⟨n,rfl⟩|hn
 ·unfold Extern.BytealgMakeNoZero.makeNoZero;dsimp only;cases rs[0]? with
  |none=>exact aA
  |some t=>
   dsimp only;refine au (aD _) fun d=>?_;split
   ·refine lQ H_ ?_;refine au (cZ _) fun _=>?_;refine au (qC _) fun _=>?_;refine au (cZ _) fun _=>?_;exact au (iC _ _) fun _=>ay _
   ·exact aA
 ·obtain⟨l⟩:=xs;match l,hn with
  | [],_=>exact aA
  |[x],hn=>
   cases x with
   |int k n=>cases k<;>first|exact aA|exact absurd ⟨_,rfl⟩ hn
   |_=>exact aA
  |_::_::_,_=>exact aA
theorem gI:∀(l:List FieldStep) (t:TypeId) (x:Option Value),Tm P (followBlind l t x)
 | [],_,_=>ay _
 |s::l,t,x=>by
  unfold followBlind;refine au (aD _) fun _=>?_;split
  ·split
   ·split
    ·exact ay _
    ·exact gI l _ _
    ·exact aA
    ·exact ay _
    ·exact au (rF _ _ _) fun _=>gI l _ _
    ·exact aA
    ·exact gI l _ _
   ·exact aA
  ·exact aA
theorem uN:∀(n:Nat) (t:TypeId) (v:Value) (s:String),Tm P (nilAhead n t v s)
 |0,_,_,_=>ay _
 |n+1,t,v,s=>by
  unfold nilAhead;refine au (dD _) fun _=>?_;split
  ·refine au (gI _ _ _) fun _=>?_;split
   ·exact ay _
   ·split
    ·exact uN n _ _ _
    ·exact ay _
    ·exact aA
    iterate 2 (·exact ay _)
    ·refine au (aD _) fun _=>?_;split<;>exact ay _
  ·exact aA
theorem UN(x y:Value):Tm P (Builtin.min2 x y):=by
 unfold Builtin.min2;repeat' first
  |exact ay _
  |exact aA
  |exact bf (by intro g h;cases h)
  |exact cZ _
  |exact tJ _
  |exact uK _ _ _
  |refine au ?_ (fun _=>?_)
  |refine aK ?_
  |split
  |dsimp only
theorem Xy(ts:Array TypeId)(t:TypeId)(xs:Array Value):Tm P (Builtin.min_ ts t xs):=by
 unfold Builtin.min_;split
 ·exact aA
 ·exact tF UN _ _
def Qi(P:Program)(t:TypeId):Bool:=match P.underlying t with|some .string=>true|_=>false
theorem xu{t:TypeId}(h:Qi P t=true):P.underlying t=some .string:=by
 unfold Qi at h;split at h
 ·assumption
 ·cases h
theorem MQ{t:TypeId}(h:Qi P t=true)(x:Value):Tm P (Instr.range t x):=by
 unfold Instr.range;refine dY (xu h) ?_;dsimp only;split
 ·exact(au (jF trivial) fun _=>ay _:Tm P (newObj (.stringIter _ 0) >>= fun n=>Pure.pure (Value.pointer (some ⟨n,0,none⟩))))
 all_goals first|exact aA|contradiction|exact(aA:Tm P (stuck _))
theorem P5(it:Value)(t:TypeId):Tm P (Instr.next it true t):=by
 unfold Instr.next;dsimp only;split
 ·refine au (jG _) fun o=>?_;split
  ·split
   ·exact au (tu trivial) fun _=>ay _
   ·exact ay _
  all_goals first|exact aA|(rename_i h1;cases h1)|(rename_i h1 _;cases h1)|skip
 ·exact aA
def TA(P:Program)(s t:TypeId):Bool:=(match P.underlying s with|some (.int _)=>true|_=>false)&&Qi P t
theorem Eh{s t:TypeId}(h:TA P s t=true)(x:Value):Tm P (convert s t x):=by
 unfold TA at h;rw[Bool.and_eq_true]at h;obtain⟨h1,h2⟩:=h;have ht:=xu h2;cases hs:P.underlying s with
 |none=>rw[hs]at h1;cases h1
 |some S=>
  rw[hs]at h1;cases S<;>first|(cases h1;done)|skip
  unfold convert;refine dY hs (dY ht ?_);split;all_goals first
   |exact ay _
   |exact bf (by intro g h;cases h)
   |contradiction
theorem M4(t:TypeId):Tm P (elemOf t):=by
 unfold elemOf;repeat' first
  |exact ay _
  |exact aA
  |exact aD _
  |refine au ?_ (fun _=>?_)
  |split
theorem BJ(ts:Array TypeId)(t:TypeId)(xs:Array Value):Tm P (Builtin.unsafeSliceData_ ts t xs):=by
 obtain⟨l⟩:=xs;match l with
 | []=>exact aA
 |[x]=>
  cases x with
  |slice a n c=>
   cases a with
   |none=>exact ay _
   |some a=>
    show Tm P (if c≠0 then Pure.pure (Value.pointer (some a))else _);refine lQ (ay _) ?_;refine au (sZ _) fun _=>?_;refine lQ (ay _) ?_;refine au (M4 _) fun _=>?_;exact au (jF trivial) fun _=>ay _
  |_=>exact aA
 |_::_::_=>exact aA
theorem IX(fits:TypeId->Bool):∀(d:Nat) (e:TypeId) (off n:Nat),0<n->rowAt P fits d e 0 off n=false
 |0,_,_,_,_=>rfl
 |d+1,e,off,n,h=>by
  unfold rowAt;dsimp only;split
  ·rfl
  ·have h1:¬(off/P.cellsOf e+n<=0):=by generalize off/P.cellsOf e=z;omega
   simp[h1]
theorem FL{u:TypeId}{k:IntKind}(hu:P.underlying u=some (.int k))(d:Nat)(e:TypeId)(off n:Nat)(h:0<n):liesAt P d e 0 off u n=false:=by
 cases d with
 |zero=>rfl
 |succ d=>
  unfold liesAt;rw[IX _ _ _ _ _ h,hu];rfl
def XO(P:Program)(ts:Array TypeId):Bool:=match ts[0]? with
 |some t=>(match P.underlying t with|some (.pointer u)=>(match P.underlying u with|some (.int _)=>true|_=>false)|_=>false)
 |none=>false
theorem ql:∀(n:Nat) (a:Addr) (acc:ByteArray),Tm P (loadBytes a acc n)
 |0,_,_=>ay _
 |n+1,a,acc=>by
  unfold loadBytes;refine au (rH _ _) fun v=>?_;split
  ·exact ql n _ _
  ·exact aA
theorem H7{pt u:TypeId}{k:IntKind}(hp:P.underlying pt=some (.pointer u))(hu:P.underlying u=some (.int k))(a:Addr)(n:Nat)(hn:0<n){s:Sem Value}(hs:Tm P s)(y:Unsupported)(hy:∀g,y≠.initOrder g):
  Tm P (do
   let e<-elemOf pt
   if<-variablesAt a e n then s else unsupported y):=by
 have hE:∀f:TypeId->Sem Value,Tm P (f u)->Tm P (elemOf pt >>= f):=fun f hf=>by
  refine .program ?_;show Tm P (((match P.underlying pt with|some d=>Pure.pure d|none=>stuck "no such type" :Sem TypeDesc).bind fun d=>(match d with| .pointer e=>Pure.pure e|_=>stuck "pointer type expected" :Sem TypeId)).bind f);rw[hp];exact hf
 refine hE _ ?_;refine .program (.qG _ (fun e w=>?_) fun x=>?_)
 ·refine⟨.unsupported y,w,?_,?_⟩
  ·show((Pure.pure (liesAt P P.depth e (0/P.cellsOf e) a.off u n):Sem Bool).bind fun b=>if b=true then s else unsupported y).run P w=_;rw[Nat.zero_div,FL hu _ _ _ _ hn];rfl
  ·cases y<;>first|exact trivial|(rename_i g;exact absurd rfl (hy g))
 ·cases x with
  |none=>exact bf hy
  |some x=>
   show Tm P ((Pure.pure (liesAt P P.depth x.1 (x.2/P.cellsOf x.1) a.off u n):Sem Bool).bind fun b=>if b=true then s else unsupported y);exact lQ hs (bf hy)
theorem vG{ts:Array TypeId}(h:XO P ts=true)(t:TypeId)(xs:Array Value):Tm P (Builtin.unsafeString_ ts t xs):=by
 unfold XO at h;cases ht:ts[0]? with
 |none=>rw[ht]at h;cases h
 |some pt=>
  rw[ht]at h;dsimp only at h;split at h
  ·rename_i u hp;split at h
   ·rename_i k hu;obtain⟨l⟩:=xs;match l with
    | []=>exact aA
    | [_]=>exact aA
    |[x,y]=>
     cases x with
     |pointer p=>
      unfold Builtin.unsafeString_;dsimp only;refine au (jP _) fun n=>?_;rw[ht];dsimp only;split
      ·exact H_
      ·rename_i hn0;split
       ·exact jE (by intro g h;cases h)
       ·cases p with
        |none=>exact lQ (ay _) (bD _)
        |some a=>
         dsimp only;split
         ·exact ay _
         ·exact H7 hp hu a n.toNat (by omega) (au (ql _ _ _) fun _=>au (M0 _ _) fun _=>ay _) _ (by intro g h;cases h)
     |_=>exact aA
    |_::_::_::_=>exact aA
   ·cases h
  ·cases h
def dM(P:Program)(X:FuncId->Bool)(c:Call):Bool:=
 match c.callee with
 | .builtin .len| .builtin .append| .builtin .copy| .builtin .max| .builtin .min| .builtin .unsafeSliceData=>true
 | .builtin .unsafeString=>XO P c.argTypes
 | .value (.func f)=>X f||(match P.funcs[f]? with|some fn=>fn.name != "runtime.NumGoroutine" &&fn.body.isSome|none=>false)
 |_=>false
def XP(P:Program)(X:FuncId->Bool)(o:Oper):Bool:=
 match o.op with
 | .move _| .assign _| .pick _ _ _| .alloc _| .box _ _| .build _ _| .buildSlice _ _ _| .load _ _| .store _ _ _=>true
 | .binOp op t x y _=>(match op with| .eql| .neq=>Zg P t x y|_=>true)
 | .unOp _ _ _=>true
 | .convert s t _=>Tz P s t||TA P s t
 | .makeInterface _ _| .makeMap _ _| .makeSlice _ _ _| .slice _ _ _ _ _| .fieldAddr _ _ _| .field _ _ _| .indexAddr _ _ _=>true
 | .index _ _ _=>true
 | .range t _=>Qi P t
 | .next _ s=>s
 | .lookup t _ _ _| .mapUpdate t _ _ _=>Q9 P t
 | .typeAssert _ _ _ _| .extract _ _| .nilCheck _=>true
 | .call c=>dM P X c
 |_=>false
theorem aV{s:Sem Value}(h:Tm P s):Tm P (do Pure.pure (Next.value (<-s))):=au h fun _=>ay _
theorem Ku{s:Sem Unit}(h:Tm P s):Tm P (do s;Pure.pure Next.skip):=au h fun _=>ay _
theorem Ig(op:BinOp)(t:TypeId)(x y:Operand)(a b:Value)(h:op≠.eql)(h':op≠.neq):Tm P (eqGuard op t x y a b):=by
 unfold eqGuard;cases op<;>first|exact absurd rfl h|exact absurd rfl h'|exact ay _
theorem Ei{X:FuncId->Bool}(hX:∀f,X f=true->∀xs:Array Value,Tm P (callFunc f xs)){f:FuncId}(h:(X f||(match P.funcs[f]? with|some fn=>fn.name != "runtime.NumGoroutine" &&fn.body.isSome|none=>false))=true)(xs:Array Value):Tm P (callFunc f xs):=by
 cases hx:X f with
 |true=>exact hX f hx xs
 |false=>
  rw[hx,Bool.false_or]at h;unfold callFunc;refine jv ?_;cases hn:P.funcs[f]? with
  |none=>rw[hn]at h;cases h
  |some fn=>
   rw[hn]at h;simp only[Bool.and_eq_true,bne_iff_ne,ne_eq,Option.isSome_iff_ne_none]at h;have h1:(fn.name== "runtime.NumGoroutine")=false:=by simpa using h.1
   have h2:fn.body.isNone=false:=by cases hb:fn.body with|none=>exact absurd hb h.2|some _=>rfl
   simp only[h1,h2,Bool.false_eq_true,if_false];exact ay _
theorem Wz{X:FuncId->Bool}(hX:∀f,X f=true->∀xs:Array Value,Tm P (callFunc f xs)){ρ:Operand->Value}(hρ:∀v,ρ (.const v)=v)(hf:∀f,ρ (.func f)= .func (.func f) #[] #[]){o:Oper}(h:XP P X o=true):Tm P (execOp ρ o):=by
 unfold XP at h;unfold execOp;dsimp only;split<;>rename_i ho<;>rw[ho]at h<;>dsimp only at h;all_goals first
  |(cases h;done)
  |with_reducible exact ay _
  |exact aV (Qc _ _ _)
  |exact aV (XC _ _)
  |exact aV (Qa _ _)
  |exact aV (zG _ _ _)
  |exact aV (MV _ _)
  |exact Ku (H8 _ _ _)
  |exact aV (PU _ _)
  |(rw[Bool.or_eq_true]at h;exact h.elim (fun h=>aV (Il h _)) (fun h=>aV (Eh h _)))
  |exact aV (P7 _ _ _)
  |exact aV (MQ h _)
  |(subst h;exact aV (P5 _ _))
  |exact aV (tC _ _)
  |exact aV (Ib _ _)
  |exact aV (BL _ _ _)
  |exact aV (H9 _ _ _ _ _)
  |exact aV (Ii _ _ _)
  |exact aV (P8 _ _ _)
  |exact aV (Ie _ _ _)
  |exact aV (MS h _ _ _)
  |exact Ku (BK h _ _ _)
  |exact aV (zx _ _ _ _)
  |exact aV (Ij _ _)
  |skip
 ·exact au (tJ _) fun _=>ay _
 ·split
  iterate 3 (·exact bD _)
  ·split
   ·exact bD _
   ·refine au dw fun _=>?_;refine au (uN _ _ _ _) fun _=>?_;split
    ·exact jE (by intro g h;cases h)
    ·exact ay _
   ·exact ay _
  ·exact ay _
 ·rename_i op t x y _;rcases Classical.em (op= .eql\/op= .neq)with hq|hq
  ·have hT:Zg P t x y=true:=by rcases hq with rfl|rfl<;>exact h
   exact aV (au (Ik hρ _ hT) fun _=>Em _ _ _ _ fun _=>P9 hρ hT)
  ·exact aV (au (Ig _ _ _ _ _ _ (fun e=>hq (.inl e)) (fun e=>hq (.inr e))) fun _=>Em _ _ _ _ fun e=>absurd e hq)
 ·rename_i c;obtain⟨callee,args,argTypes⟩:=c;unfold dM at h;dsimp only at h;cases callee with
  |builtin b=>
   cases b<;>first
    |(cases h;done)
    |exact aV (XA _ _ _)
    |exact aV (M6 _ _ _)
    |exact aV (UR _ _ _)
    |exact aV (Xz _ _ _)
    |exact aV (Xy _ _ _)
    |exact aV (BJ _ _ _)
    |exact aV (vG h _ _)
  |invoke r n=>cases h
  |value x=>
   cases x with
   |func f=>
    show Tm P ((Deferred.ofValue (ρ (.func f)) (args.map ρ)) >>= fun d=>invoke d.target d.args);rw[hf];exact Ei hX h _
   |_=>cases h
end Go.eO
namespace Go.Ren
variable {P:Program} {ρ:Array Nat}
def wN{α:Type}:Array Nat->α->α->Prop:=fun _ a b=>a=b
theorem SR.seq{α β γ δ:Type}{A:Array Nat->α->β->Prop}{B:Array Nat->γ->δ->Prop}{s:Sem α}{s':Sem β}{f:α->Sem γ}{f':β->Sem δ}
 (h:SR P A ρ s s')(hk:∀ρ' a b,Ext ρ ρ'->A ρ' a b->SR P B ρ' (f a) (f' b)):SR P B ρ (s >>= f) (s' >>= f'):=SR.bind h hk
theorem SR.ret{α β:Type}{A:Array Nat->α->β->Prop}{a:α}{b:β}(h:A ρ a b):SR P A ρ (Pure.pure a) (Pure.pure b):=SR.pure h
theorem aH{α β:Type}{A:Array Nat->α->β->Prop}{why:String}{s:Sem β}:SR P A ρ (stuck why) s:=.dB fun _=>trivial
theorem gQ{α β:Type}{A:Array Nat->α->β->Prop}{u:Unsupported}{s:Sem β}(hu:∀g,u≠.initOrder g:=by intro g e;cases e):SR P A ρ (unsupported u) s:=.dB fun _=>by
 cases u<;>first|trivial|exact absurd rfl (hu _)
theorem f_{γ δ:Type}{B:Array Nat->γ->δ->Prop}{f:Program->Sem γ}{f':Program->Sem δ}(h:SR P B ρ (f P) (f' P)):SR P B ρ (program >>= f) (program >>= f'):=SR.program h
theorem pG{γ δ:Type}{B:Array Nat->γ->δ->Prop}{q:Question}{f:Nat->Sem γ}{f':Nat->Sem δ}(h:∀n,SR P B ρ (f n) (f' n)):SR P B ρ (choose q >>= f) (choose q >>= f'):=SR.choose h
theorem eD{α β:Type}{A:Array Nat->α->β->Prop}{c:Prop}[Decidable c]{a b:Sem α}{a' b':Sem β}(h1:c->SR P A ρ a a')(h2:¬c->SR P A ρ b b'):SR P A ρ (if c then a else b) (if c then a' else b'):=by
 by_cases h:c
 ·simp only[h,if_true];exact h1 h
 ·simp only[h,if_false];exact h2 h
theorem eU(t:TypeId):SR P (fun _ a b=>a=b/\P.info? t=some a) ρ (typeInfo t) (typeInfo t):=by
 unfold typeInfo;refine f_ ?_;cases h:P.info? t with
 |none=>exact aH
 |some i=>exact SR.ret ⟨rfl,rfl⟩
theorem aY(t:TypeId):SR P (fun _ a b=>a=b/\P.underlying t=some a) ρ (underlying t) (underlying t):=by
 unfold underlying;refine f_ ?_;cases h:P.underlying t with
 |none=>exact aH
 |some i=>exact SR.ret ⟨rfl,rfl⟩
theorem dJ(t:TypeId):SR P wN ρ (sizeOf t) (sizeOf t):=by
 unfold sizeOf;refine(eU t).seq fun ρ' a b _ ⟨h,_⟩=>?_;subst h;exact SR.ret rfl
def ZOk(P:Program)(t:TypeId):Prop:=∀i v,P.info? t=some i->i.zero=some v->∀ρ,bF ρ v.cells v.cells
theorem gJ{t:TypeId}:SR P (fun _ a b=>a=b/\∃i,P.info? t=some i/\i.zero=some a) ρ (zeroValue t) (zeroValue t):=by
 unfold zeroValue;refine(eU t).seq fun ρ' a b _ ⟨h,hi⟩=>?_;subst h;cases hz:a.zero with
 |none=>exact gQ
 |some v=>exact SR.ret ⟨rfl,a,hi,hz⟩
theorem fZ{α β:Type}{A:Array Nat->α->β->Prop}(m:String):SR P A ρ (runtimePanic (.error m)) (runtimePanic (.error m)):=by
 unfold runtimePanic;exact f_ (.panic (.iface _ (.string _)))
theorem MC(ρ:Array Nat)(x y:Int)(s:Bool)(c:Nat):VR ρ (.agg #[.int .i64 x,.int .i64 y,.bool s,.int .u8 c]) (.agg #[.int .i64 x,.int .i64 y,.bool s,.int .u8 c]):=by
 refine .agg rfl fun i v v' h h'=>?_;rw[h]at h';obtain rfl:=Option.some.inj h';match i,h with
 |0,h=>obtain rfl:=Option.some.inj h;exact .int _ _
 |1,h=>obtain rfl:=Option.some.inj h;exact .int _ _
 |2,h=>obtain rfl:=Option.some.inj h;exact .bool _
 |3,h=>obtain rfl:=Option.some.inj h;exact .int _ _
 |n+4,h=>simp at h
theorem tN{α β:Type}{A:Array Nat->α->β->Prop}(k:IntKind)(x y:Int)(c:BoundsCode):SR P A ρ (boundsPanic k x y c) (boundsPanic k x y c):=by
 have jp:∀ρ' signed,SR P A ρ' (runtimePanic (.bounds (IntKind.i64.wrap x) y signed c)) (runtimePanic (.bounds (IntKind.i64.wrap x) y signed c)):=by
  intro ρ' signed;unfold runtimePanic;exact f_ (.panic (.iface _ (MC _ _ _ _ _)))
 unfold boundsPanic;dsimp only;by_cases hc:(k != .u64&&decide (0<=x)&&decide (x<=31))=true
 ·simp only[hc,if_true];refine SR.seq (A:=wN) (SR.choose fun n=>.pure rfl) fun ρ' a b _ h=>?_;obtain rfl:=h;exact jp ρ' a
 ·simp only[hc];refine SR.seq (A:=wN) (SR.ret rfl) fun ρ' a b _ h=>?_;obtain rfl:=h;exact jp ρ' a
theorem qF{v v':Value}(h:SV ρ v v'):SR P wN ρ (asIntOf v) (asIntOf v'):=by
 cases h<;>first|exact aH|exact SR.ret rfl
theorem EL{v v':Value}(h:SV ρ v v'):SR P wN ρ (asInt v) (asInt v'):=by
 unfold asInt;refine(qF h).seq fun ρ' a b _ e=>?_;obtain rfl:=e;exact SR.ret rfl
theorem bF.empty:bF ρ #[] #[]:=⟨rfl,fun i v v' h=>by simp at h⟩
theorem bF.push{c c':Array Value}(h:bF ρ c c'){v v':Value}(hv:SV ρ v v'):bF ρ (c.push v) (c'.push v'):=by
 refine⟨by simp[h.1],fun i x x' h1 h2=>?_⟩;rw[Array.getElem?_push]at h1 h2;rw[<-h.1]at h2;by_cases e:i=c.size
 ·simp only[e,if_true]at h1 h2;obtain rfl:=Option.some.inj h1;obtain rfl:=Option.some.inj h2;exact hv
 ·simp only[e,if_false]at h1 h2;exact h.2 i x x' h1 h2
theorem bF.append{c c' d d':Array Value}(h:bF ρ c c')(h':bF ρ d d'):bF ρ (c++d) (c'++d'):=by
 refine⟨by simp[h.1,h'.1],fun i x x' h1 h2=>?_⟩;rw[Array.getElem?_append]at h1 h2;rw[<-h.1]at h2;by_cases e:i<c.size
 ·simp only[e,if_true]at h1 h2;exact h.2 i x x' h1 h2
 ·simp only[e,if_false]at h1 h2;exact h'.2 _ x x' h1 h2
theorem bF.one{v v':Value}(hv:SV ρ v v'):bF ρ #[v] #[v']:=by
 have:=bF.push (ρ:=ρ) bF.empty hv;simpa using this
theorem bF.map{α:Type}{f f':α->Value}(l:Array α)(h:∀x∈l,SV ρ (f x) (f' x)):bF ρ (l.map f) (l.map f'):=by
 refine⟨by simp,fun i v v' h1 h2=>?_⟩;rw[Array.getElem?_map]at h1 h2;cases e:l[i]? with
 |none=>rw[e]at h1;cases h1
 |some x=>
  rw[e]at h1 h2;obtain rfl:=Option.some.inj h1;obtain rfl:=Option.some.inj h2;exact h x (Array.mem_of_getElem? e)
theorem bF.get!{c:Array Value}(h:bF ρ c c)(i:Nat):SV ρ c[i]! c[i]! :=by
 rw[Array.getElem!_eq_getD,Array.getD_eq_getD_getElem?];cases e:c[i]? with
 |none=>exact .bool _
 |some v=>exact h.2 i v v e e
theorem lu:∀(n i:Nat) {a a':Addr} {acc acc':Array Value} {ρ:Array Nat},AR ρ a a'->bF ρ acc acc'->SR P bF ρ (loadCellsFrom a i n acc) (loadCellsFrom a' i n acc')
 |0,_,_,_,_,_,_,_,h=>SR.ret h
 |n+1,i,_,_,_,_,_,ha,h=>.load (ha.add i) fun _ _ hv=>lu n (i+1) ha (h.push hv)
theorem B_{a a':Addr}(h:AR ρ a a')(n:Nat):SR P bF ρ (loadCells a n) (loadCells a' n):=lu n 0 h bF.empty
inductive LS(ρ:Array Nat):List Value->List Value->Prop
 |nil:LS ρ [] []
 |cons {v v':Value} {l l':List Value}:SV ρ v v'->LS ρ l l'->LS ρ (v::l) (v'::l')
theorem LS.of{l l':List Value}(hl:l.length=l'.length)(h:∀(i:Nat) v v',l[i]? =some v->l'[i]? =some v'->SV ρ v v'):LS ρ l l':=by
 induction l generalizing l' with
 |nil=>cases l' with
  |nil=>exact .nil
  |cons _ _=>simp at hl
 |cons x l ih=>cases l' with
  |nil=>simp at hl
  |cons y l'=>exact .cons (h 0 x y rfl rfl) (ih (by simpa using hl) fun i v v' h1 h2=>h (i+1) v v' (by simpa using h1) (by simpa using h2))
theorem bF.toList{c c':Array Value}(h:bF ρ c c'):LS ρ c.toList c'.toList:=LS.of (by simpa using h.1) fun i v v' h1 h2=>h.2 i v v' (by simpa using h1) (by simpa using h2)
theorem kQ{a a':Addr}(ha:AR ρ a a'){l l':List Value}(h:LS ρ l l'):∀i,SR P wN ρ (storeCells a l i) (storeCells a' l' i):=by
 induction h with
 |nil=>exact fun i=>SR.ret rfl
 |cons hv _ ih=>exact fun i=>.store (ha.add i) hv (ih (i+1))
def CR(ρ:Array Nat):Nat->Value->Value->Prop
 |0,v,v'=>SV ρ v v'
 |1,v,v'=>∃c c',((v= .agg c/\v'= .agg c')\/(v= .tuple c/\v'= .tuple c'))/\bF ρ c c'
 |3,v,v'=>(v= .tuple #[]/\v'= .tuple #[])\/∃t x x',v= .iface t x/\v'= .iface t x'/\VR ρ x x'
 |4,v,v'=>∃c c',v= .tuple c/\v'= .tuple c'/\c.size=c'.size/\(∀(i:Nat) x x',c[i]? =some x->c'[i]? =some x'->VR ρ x x')/\∀(i:Nat) x x',i<2->c[i]? =some x->c'[i]? =some x'->SV ρ x x'
 |_,v,v'=>VR ρ v v'
theorem bF.vr{c c':Array Value}(h:bF ρ c c'):∀(i:Nat) v v',c[i]? =some v->c'[i]? =some v'->VR ρ v v':=fun i v v' a b=>(h.2 i v v' a b).val
theorem CR.val{k:Nat}{v v':Value}(h:CR ρ k v v'):VR ρ v v':=by
 match k,h with
 |0,h=>exact SV.val h
 |1,⟨c,c',.inl ⟨e,e'⟩,hc⟩=>subst e e';exact .agg hc.1 hc.vr
 |1,⟨c,c',.inr ⟨e,e'⟩,hc⟩=>subst e e';exact .tuple hc.1 hc.vr
 |2,h=>exact h
 |3,.inl ⟨e,e'⟩=>subst e e';exact SV.undef.val
 |3,.inr ⟨t,x,x',e,e',hx⟩=>subst e e';exact .iface t hx
 |4,⟨c,c',e,e',h1,h2,_⟩=>subst e e';exact .tuple h1 h2
 |n+5,h=>exact h
theorem CR.mono{ρ':Array Nat}(e:Ext ρ ρ'){k:Nat}{v v':Value}(h:CR ρ k v v'):CR ρ' k v v':=by
 match k,h with
 |0,h=>exact SV.mono e h
 |1,⟨c,c',h1,hc⟩=>exact⟨c,c',h1,hc.mono e⟩
 |2,h=>exact VR.mono e h
 |3,.inl h=>exact .inl h
 |3,.inr ⟨t,x,x',e1,e2,hx⟩=>exact .inr ⟨t,x,x',e1,e2,hx.mono e⟩
 |4,⟨c,c',e1,e2,h1,h2,h3⟩=>exact⟨c,c',e1,e2,h1,fun i x x' a b=>(h2 i x x' a b).mono e,fun i x x' k a b=>(h3 i x x' k a b).mono e⟩
 |n+5,h=>exact VR.mono e h
def uH(k:Nat):Array Nat->Value->Value->Prop:=fun ρ=>CR ρ k
theorem kD{v v':Value}(h:VR ρ v v'):SR P AR ρ (Instr.sureAddr v) (Instr.sureAddr v'):=by
 cases h<;>first|exact aH|(rename_i h;exact SR.ret h)
theorem Qm(t:TypeId):SR P (fun _ a b=>a=b/\(a=true->∃d,P.underlying t=some d/\((∃fs,d= .struct fs)\/∃n e,d= .array n e))) ρ (isAgg t) (isAgg t):=by
 unfold isAgg;refine(aY t).seq fun ρ' a b _ ⟨h,hu⟩=>?_;subst h;cases a<;>first|exact SR.ret ⟨rfl,fun _=>⟨_,hu,.inl ⟨_,rfl⟩⟩⟩|exact SR.ret ⟨rfl,fun _=>⟨_,hu,.inr ⟨_,_,rfl⟩⟩⟩|exact SR.ret ⟨rfl,fun e=>by cases e⟩
def NA(P:Program)(t:TypeId):Prop:=∀d,P.underlying t=some d->(∀fs,d≠.struct fs)/\∀n e,d≠.array n e
theorem Nc{t:TypeId}(ht:NA P t){v v':Value}(h:VR ρ v v'):SR P (uH 0) ρ (Instr.loadAt t v) (Instr.loadAt t v'):=by
 unfold Instr.loadAt;refine(kD h).seq fun ρ' a b _ hab=>?_;unfold loadVar;refine(Qm t).seq fun He x y e ⟨hxy,hx⟩=>?_;subst hxy;cases x with
 |true=>
  obtain⟨d,hd,⟨fs,rfl⟩|⟨n,el,rfl⟩⟩:=hx rfl
  ·exact absurd rfl ((ht _ hd).1 fs)
  ·exact absurd rfl ((ht _ hd).2 n el)
 |false=>exact .load (hab.mono e) fun v v' hv=>.pure hv
theorem xA{t:TypeId}{v v' x x':Value}(h:VR ρ v v')(hx:bF ρ x.cells x'.cells):SR P wN ρ (Instr.storeAt t v x) (Instr.storeAt t v' x'):=by
 unfold Instr.storeAt;refine(kD h).seq fun ρ' a b e hab=>?_;unfold storeVar;refine(dJ t).seq fun He n m e' hnm=>?_;obtain rfl:=hnm;rw[<-hx.1];split
 ·exact aH
 ·exact kQ (hab.mono e') ((hx.mono (e.trans e')).toList) 0
theorem jH(t:TypeId){c c':Array Value}(h:bF ρ c c'):SR P AR ρ (newRow t c) (newRow t c'):=by
 unfold newRow;exact .new h fun n=>.pure ⟨xM _ _,rfl,rfl⟩
def IxR:Array Nat->Option Addr×Nat×TypeId->Option Addr×Nat×TypeId->Prop:=fun ρ a b=>a.2=b.2/\((a.1=none/\b.1=none)\/∃c c',a.1=some c/\b.1=some c'/\AR ρ c c')
theorem Iy{t:TypeId}{x x' i i':Value}(hx:SV ρ x x')(hi:SV ρ i i'):SR P (uH 2) ρ (Instr.indexAt t x i) (Instr.indexAt t x' i'):=by
 unfold Instr.indexAt;refine(qF hi).seq fun iy a b e1 h1=>?_;obtain rfl:=h1;obtain⟨k,j⟩:=a;have hx1:=hx.mono e1;dsimp only;refine(aY t).seq fun vF d d' e2 h2=>?_;obtain⟨rfl,_⟩:=h2;have hx2:=hx1.mono e2;have q1:∀{why:String},SR P IxR vF (stuck why) (stuck why):=aH;cases d<;>first
  |refine SR.seq q1 ?_
  |(refine SR.seq (kD hx2.val) fun qd a b e3 h3=>?_;refine SR.seq (A:=IxR) (SR.ret ⟨rfl,.inr ⟨_,_,rfl,rfl,h3⟩⟩) ?_)
  |(cases hx2<;>first|refine SR.seq q1 ?_|refine SR.seq (A:=IxR) (SR.ret ⟨rfl,.inl ⟨rfl,rfl⟩⟩) ?_|(rename_i h;refine SR.seq (A:=IxR) (SR.ret ⟨rfl,.inr ⟨_,_,rfl,rfl,h⟩⟩) ?_))
 all_goals
  rintro qd ⟨a1,n,el⟩ ⟨b1,n',el'⟩ e3 ⟨h2,h3⟩;simp only[Prod.mk.injEq]at h2;obtain⟨rfl,rfl⟩:=h2;dsimp only;refine(aY t).seq fun Uo d d' e4 h4=>?_;obtain⟨rfl,_⟩:=h4;rcases h3 with⟨ea,eb⟩|⟨c,c',ea,eb,hc⟩
  ·simp only at ea eb;subst ea eb;exact tN _ _ _ _
  ·simp only at ea eb;subst ea eb;simp only;refine eD (fun _=>?_) (fun _=>eD (fun _=>gQ) (fun _=>tN _ _ _ _));refine(dJ el).seq fun Zo m m' e5 h5=>?_;obtain rfl:=h5;exact SR.ret (.ptr ((hc.mono (e4.trans e5)).add _))
inductive OS(ρ:Array Nat):Option Value->Option Value->Prop
 |none:OS ρ none none
 |some {v v':Value}:SV ρ v v'->OS ρ (some v) (some v')
theorem OS.mono{ρ':Array Nat}(e:Ext ρ ρ'){o o':Option Value}(h:OS ρ o o'):OS ρ' o o':=by cases h with|none=>exact .none|some h=>exact .some (h.mono e)
theorem iL{v v':Value}(h:SV ρ v v')(y:Nat)(c:BoundsCode):SR P wN ρ (Instr.sliceBound v y c) (Instr.sliceBound v' y c):=by
 unfold Instr.sliceBound;refine(qF h).seq fun iy a b e h1=>?_;obtain rfl:=h1;obtain⟨k,i⟩:=a;simp only;split
 ·exact SR.ret rfl
 ·exact tN _ _ _ _
theorem jS(isS:Bool)(len cap:Nat){lo lo' hi hi' mx mx':Option Value}(h1:OS ρ lo lo')(h2:OS ρ hi hi')(h3:OS ρ mx mx'):SR P wN ρ (Instr.sliceBounds isS len cap lo hi mx) (Instr.sliceBounds isS len cap lo' hi' mx'):=by
 have jl:∀(vF:Array Nat) (h m:Nat),Ext ρ vF->SR P wN vF (match(generalizing:=false) lo with|some v=>(do let l<-Instr.sliceBound v h (if mx.isSome=true then .slice3C else .sliceB);Pure.pure (l,h,m))|none=>(do let l<-Pure.pure 0;Pure.pure (l,h,m)))
   (match(generalizing:=false) lo' with|some v=>(do let l<-Instr.sliceBound v h (if mx'.isSome=true then .slice3C else .sliceB);Pure.pure (l,h,m))|none=>(do let l<-Pure.pure 0;Pure.pure (l,h,m))):=by
  intro vF h m e;have em:mx.isSome=mx'.isSome:=by cases h3<;>rfl
  cases h1 with
  |none=>exact SR.seq (A:=wN) (SR.ret rfl) fun qd a b _ x=>by obtain rfl:=x;exact SR.ret rfl
  |some h1=>rw[em];exact SR.seq (iL (h1.mono e) _ _) fun qd a b _ x=>by obtain rfl:=x;exact SR.ret rfl
 unfold Instr.sliceBounds;dsimp only;cases h3 with
 |none=>
  refine SR.seq (A:=wN) (SR.ret rfl) fun iy m m' e1 hm=>?_;obtain rfl:=hm;cases h2 with
  |none=>exact SR.seq (A:=wN) (SR.ret rfl) fun vF a b e2 x=>by obtain rfl:=x;exact jl vF a m (e1.trans e2)
  |some h=>exact SR.seq (iL (h.mono e1) _ _) fun vF a b e2 x=>by obtain rfl:=x;exact jl vF a m (e1.trans e2)
 |some h3=>
  refine SR.seq (iL h3 _ _) fun iy m m' e1 hm=>?_;obtain rfl:=hm;cases h2 with
  |none=>exact SR.seq (A:=wN) aH fun vF a b e2 x=>by obtain rfl:=x;exact jl vF a m (e1.trans e2)
  |some h=>exact SR.seq (iL (h.mono e1) _ _) fun vF a b e2 x=>by obtain rfl:=x;exact jl vF a m (e1.trans e2)
theorem Iw{t:TypeId}{x x':Value}(hx:SV ρ x x'){lo lo' hi hi' mx mx':Option Value}(h1:OS ρ lo lo')(h2:OS ρ hi hi')(h3:OS ρ mx mx'):SR P (uH 0) ρ (Instr.sliceAt t x lo hi mx) (Instr.sliceAt t x' lo' hi' mx'):=by
 have key:∀iy,Ext ρ iy->SR P (uH 0) iy (Instr.slice t x lo hi mx) (Instr.slice t x' lo' hi' mx'):=by
  intro iy e1;unfold Instr.slice;refine(aY t).seq fun vF d d' e2 h=>?_;obtain⟨rfl,_⟩:=h;have hx2:=hx.mono (e1.trans e2);have g1:=h1.mono (e1.trans e2);have g2:=h2.mono (e1.trans e2);have g3:=h3.mono (e1.trans e2);cases d<;>first
   |exact aH
   |(cases hx2<;>exact aH)
   |(cases hx2 with
      |bool b=>exact aH
      |int k n=>exact aH
      |mX=>exact aH
      |chan h=>exact aH
      |undef=>exact aH
      |Dy l c=>
       refine(jS true l c g1 g2 g3).seq fun qd a b e3 h=>?_;obtain rfl:=h;obtain⟨l',h',m'⟩:=a;refine(dJ _).seq fun Uo n n' e4 h=>?_;obtain rfl:=h;refine SR.ret ?_;simp only[Option.map_none,ite_self];exact SV.Dy _ _
      |sl l c ha=>
       refine(jS true l c g1 g2 g3).seq fun qd a b e3 h=>?_;obtain rfl:=h;obtain⟨l',h',m'⟩:=a;refine(dJ _).seq fun Uo n n' e4 h=>?_;obtain rfl:=h;refine SR.ret ?_;simp only[Option.map_some];split
       ·exact SV.sl _ _ (ha.mono (e3.trans e4))
       ·exact SV.sl _ _ ((ha.mono (e3.trans e4)).add _))
 unfold Instr.sliceAt;refine(aY t).seq fun iy d d' e1 h=>?_;obtain⟨rfl,_⟩:=h;cases d<;>first
  |exact key iy e1
  |(refine SR.seq (A:=AR) (by have:=hx.mono e1;cases this<;>exact aH) fun vF a b e2 ha=>?_
    refine(jS false _ _ (h1.mono (e1.trans e2)) (h2.mono (e1.trans e2)) (h3.mono (e1.trans e2))).seq fun qd a' b' e3 h=>?_;obtain rfl:=h;obtain⟨l',h',m'⟩:=a';refine(dJ _).seq fun Uo n n' e4 h=>?_;obtain rfl:=h;refine SR.ret ?_;split
    ·exact SV.sl _ _ (ha.mono (e3.trans e4))
    ·exact SV.sl _ _ ((ha.mono (e3.trans e4)).add _))
def BT(P:Program)(t:TypeId):Prop:=∀d,P.underlying t=some d->(∃k,d= .int k)\/d= .bool\/∃e,d= .slice e
theorem EK{t:TypeId}(ht:BT P t){x x' y y':Value}(hx:SV ρ x x')(hy:SV ρ y y'):SR P wN ρ (Op.equal t x y) (Op.equal t x' y'):=by
 unfold Op.equal Op.maxDepth;unfold Op.equalIn;refine(aY t).seq fun iy d d' e h=>?_;obtain⟨rfl,hu⟩:=h;have hx:=hx.mono e;have hy:=hy.mono e;rcases ht _ hu with⟨k,rfl⟩|rfl|⟨el,rfl⟩
 ·cases hx<;>cases hy<;>first|exact aH|exact eD (fun _=>SR.ret rfl) (fun _=>aH)
 iterate 2 (·cases hx<;>cases hy<;>first|exact aH|exact SR.ret rfl)
theorem IC(op:BinOp)(t:TypeId)(a b:Operand){x x' y y':Value}(hx:SV ρ x x')(hy:SV ρ y y'):SR P wN ρ (eqGuard op t a b x y) (eqGuard op t a b x' y'):=by
 unfold eqGuard;refine eD (fun _=>SR.ret rfl) (fun _=>?_);cases hx<;>cases hy<;>exact SR.ret rfl
theorem Qo{op:BinOp}{t:TypeId}(ht:BT P t){x x' y y':Value}(hx:SV ρ x x')(hy:SV ρ y y'):SR P (uH 0) ρ (binOp op t x y) (binOp op t x' y'):=by
 have eq:SR P (uH 0) ρ (do Pure.pure (Value.bool (<-Op.equal t x y))) (do Pure.pure (Value.bool (<-Op.equal t x' y'))):=
  SR.seq (EK ht hx hy) fun iy a b _ h=>by obtain rfl:=h;exact SR.ret (SV.bool _)
 have ne:SR P (uH 0) ρ (do Pure.pure (Value.bool (!(<-Op.equal t x y)))) (do Pure.pure (Value.bool (!(<-Op.equal t x' y')))):=
  SR.seq (EK ht hx hy) fun iy a b _ h=>by obtain rfl:=h;exact SR.ret (SV.bool _)
 unfold binOp;cases hx with
 |int k n=>
  cases hy with
  |int k' m=>
   cases op<;>dsimp only<;>first
    |(unfold Op.shift;refine eD (fun _=>fZ _) (fun _=>?_);exact SR.ret (SV.int _ _))
    |(refine eD (fun _=>aH) (fun _=>?_)
      first
       |(unfold Op.intArith;exact SR.ret (SV.int _ _))
       |(unfold Op.intDiv;exact eD (fun _=>fZ _) (fun _=>SR.ret (SV.int _ _)))
       |(unfold Op.intBits;exact SR.ret (SV.int _ _))
       |(unfold Op.intCmp;first|exact SR.ret (SV.bool _)|exact aH))
  |_=>cases op<;>first|exact aH|exact eq|exact ne
 |bool b=>cases hy<;>cases op<;>first|exact aH|exact eq|exact ne
 |Dy l c=>cases hy<;>cases op<;>first|exact aH|exact eq|exact ne
 |sl l c h=>cases hy<;>cases op<;>first|exact aH|exact eq|exact ne
 |mX=>cases hy<;>cases op<;>first|exact aH|exact eq|exact ne
 |chan h=>cases hy<;>cases op<;>first|exact aH|exact eq|exact ne
 |undef=>cases hy<;>cases op<;>first|exact aH|exact eq|exact ne
theorem Ql{op:UnOp}{x x':Value}(hx:SV ρ x x'):SR P (uH 0) ρ (Op.unary op x) (Op.unary op x'):=by
 unfold Op.unary;cases hx<;>cases op<;>first|exact aH|exact SR.ret (SV.bool _)|(unfold Op.intArith;exact SR.ret (SV.int _ _))|(unfold Op.intBits;exact SR.ret (SV.int _ _))
def IT(P:Program)(t:TypeId):Prop:=∀d,P.underlying t=some d->∃k,d= .int k
theorem IE{src dst:TypeId}(h1:IT P src)(h2:IT P dst){x x':Value}(hx:SV ρ x x'):SR P (uH 0) ρ (convert src dst x) (convert src dst x'):=by
 unfold convert;refine(aY src).seq fun iy a b e1 h=>?_;obtain⟨rfl,ha⟩:=h;refine(aY dst).seq fun vF c d e2 h=>?_;obtain⟨rfl,hc⟩:=h;obtain⟨k,rfl⟩:=h1 _ ha;obtain⟨k',rfl⟩:=h2 _ hc;have hx:=hx.mono (e1.trans e2);cases hx<;>first|exact gQ|(unfold Conv.intToInt;exact SR.ret (SV.int _ _))
theorem IB{x x':Value}(hx:CR ρ 1 x x')(i:Nat):SR P (uH 0) ρ (Instr.extract x i) (Instr.extract x' i):=by
 obtain⟨c,c',⟨e,e'⟩|⟨e,e'⟩,hc⟩:=hx
 ·subst e e';exact aH
 ·subst e e';unfold Instr.extract;dsimp only;cases h:c[i]? with
  |none=>exact aH
  |some v=>
   obtain⟨v',h1,h2⟩:=hc.get h;simp only[h1];exact SR.ret h2
theorem EJ{x x':Value}(hx:CR ρ 4 x x'){i:Nat}(hi:i<2):SR P (uH 0) ρ (Instr.extract x i) (Instr.extract x' i):=by
 obtain⟨c,c',e,e',h1,_,h3⟩:=hx;subst e e';unfold Instr.extract;dsimp only;cases h:c[i]? with
 |none=>exact aH
 |some v=>
  have hlt:i<c.size:=(Array.getElem?_eq_some_iff.1 h).1;have e1:c'[i]? =some (c'[i]'(h1▸hlt)):=Array.getElem?_eq_getElem _;simp only[e1];exact SR.ret (h3 i _ _ hi h e1)
theorem sU{z:Array Value}(h:bF ρ z z)(n:Nat):bF ρ ((Array.range n).map (z[· %z.size]!)) ((Array.range n).map (z[· %z.size]!)):=bF.map _ fun _ _=>bF.get! h _
def ST(P:Program)(t:TypeId):Prop:=∃e,P.underlying t=some (.slice e)/\ZOk P e
theorem SR.die{α β γ δ:Type}{B:Array Nat->γ->δ->Prop}{s:Sem α}{s':Sem β}{f:α->Sem γ}{f':β->Sem δ}(h:SR P (fun _ _ _=>False) ρ s s'):SR P B ρ (s >>= f) (s' >>= f'):=SR.seq h fun _ _ _ _ x=>x.elim
theorem qE(n:Nat):SR P wN ρ (askRoom n) (askRoom n):=by
 unfold askRoom;exact eD (fun _=>.mark trivial (.pure rfl)) (fun _=>SR.ret rfl)
theorem BZ{t:TypeId}(ht:ST P t){l l' c c':Value}(hl:SV ρ l l')(hc:SV ρ c c'):SR P (uH 0) ρ (Instr.makeSlice t l c) (Instr.makeSlice t l' c'):=by
 obtain⟨el,hu,hz⟩:=ht;unfold Instr.makeSlice;refine(aY t).seq fun iy a b e1 h=>?_;obtain⟨rfl,ha⟩:=h;rw[hu]at ha;obtain rfl:=Option.some.inj ha;dsimp only;refine(EL (hl.mono e1)).seq fun vF a b e2 h=>?_;obtain rfl:=h;refine(EL (hc.mono (e1.trans e2))).seq fun qd d d' e3 h=>?_;obtain rfl:=h;refine(eU el).seq fun Uo i i' e4 h=>?_;obtain⟨rfl,_⟩:=h;refine eD (fun _=>eD (fun _=>SR.die (fZ _)) (fun _=>eD (fun _=>SR.die (fZ _)) (fun _=>pG fun n=>SR.die (fZ _)))) (fun _=>?_);refine(qE _).seq fun Zo _ _ e5 _=>?_;refine(dJ el).seq fun ρ6 n n' e6 h=>?_;obtain rfl:=h;refine eD (fun _=>?_) (fun _=>?_)
 ·refine SR.seq (A:=fun ρ a b=>a=b/\bF ρ a a) (SR.ret ⟨rfl,bF.empty⟩) fun ρ7 z z' e7 h=>?_;obtain⟨rfl,hz⟩:=h;refine(jH el (sU hz _)).seq fun ρ8 x y e8 hx=>?_;exact SR.ret (SV.sl _ _ hx)
 ·refine gJ.seq fun ρ7 v v' e7 h=>?_;obtain⟨rfl,i',hi,hv⟩:=h;refine SR.seq (A:=fun ρ a b=>a=b/\bF ρ a a) (SR.ret ⟨rfl,hz _ _ hi hv _⟩) fun ρ8 z z' e8 h=>?_;obtain⟨rfl,hz⟩:=h;refine(jH el (sU hz _)).seq fun ρ9 x y e9 hx=>?_;exact SR.ret (SV.sl _ _ hx)
inductive PS(ρ:Array Nat):List (Nat×Value)->List (Nat×Value)->Prop
 |nil:PS ρ [] []
 |cons (i:Nat) {v v':Value} {l l':List (Nat×Value)}:SV ρ v v'->PS ρ l l'->PS ρ ((i,v)::l) ((i,v')::l')
theorem PS.mono{ρ':Array Nat}(e:Ext ρ ρ'){l l':List (Nat×Value)}(h:PS ρ l l'):PS ρ' l l':=by
 induction h with
 |nil=>exact .nil
 |cons i hv _ ih=>exact .cons i (hv.mono e) ih
theorem bF.set{c c':Array Value}(h:bF ρ c c')(i:Nat){v v':Value}(hv:SV ρ v v'):bF ρ (c.setIfInBounds i v) (c'.setIfInBounds i v'):=by
 refine⟨by simp[h.1],fun j x x' h1 h2=>?_⟩;rw[Array.getElem?_setIfInBounds]at h1 h2;rw[<-h.1]at h2;by_cases e:i=j
 ·simp only[e,if_true]at h1 h2;by_cases hj:j<c.size
  ·simp only[hj,if_true]at h1 h2;obtain rfl:=Option.some.inj h1;obtain rfl:=Option.some.inj h2;exact hv
  ·simp only[hj,if_false]at h1;cases h1
 ·simp only[e,if_false]at h1 h2;exact h.2 j x x' h1 h2
def FR(ρ:Array Nat):Option (Array Value)->Option (Array Value)->Prop
 |none,none=>True
 |some c,some c'=>bF ρ c c'
 |_,_=>False
theorem yK{place:Nat->Option (Nat×Nat)}{l l':List (Nat×Value)}(h:PS ρ l l'):∀{c c':Array Value},bF ρ c c'->FR ρ (Instr.fill place c l) (Instr.fill place c' l'):=by
 induction h with
 |nil=>exact fun h=>h
 |@cons i v v' l l' hv _ ih=>
  intro c c' hc;obtain⟨e,e'⟩:=hv.cells;unfold Instr.fill;cases hp:place i with
  |none=>trivial
  |some q=>
   obtain⟨off,size⟩:=q;simp only[e,e',<-hc.1,List.size_toArray,List.length_cons,List.length_nil];split
   ·trivial
   ·refine ih ?_;simp;exact hc.set _ hv
theorem zI{t:TypeId}(ht:ST P t)(len:Nat){ps ps':Array (Nat×Value)}(hp:PS ρ ps.toList ps'.toList):SR P (uH 0) ρ (Instr.buildSlice t len ps) (Instr.buildSlice t len ps'):=by
 obtain⟨el,hu,hz⟩:=ht;unfold Instr.buildSlice;refine(aY t).seq fun iy a b e1 h=>?_;obtain⟨rfl,ha⟩:=h;rw[hu]at ha;obtain rfl:=Option.some.inj ha;dsimp only;refine(dJ el).seq fun vF n n' e2 h=>?_;obtain rfl:=h;have key:∀(qd:Array Nat) (z:Array Value),Ext ρ qd->bF qd z z->SR P (uH 0) qd
   (match Instr.fill (fun i=>some (i*n,n)) ((Array.range (len*n)).map (z[· %z.size]!)) ps.toList with|some cells=>(do let a<-newRow el cells;Pure.pure (Value.slice (some a) len len))|x=>stuck "buildSlice: a part of the wrong size")
   (match Instr.fill (fun i=>some (i*n,n)) ((Array.range (len*n)).map (z[· %z.size]!)) ps'.toList with|some cells=>(do let a<-newRow el cells;Pure.pure (Value.slice (some a) len len))|x=>stuck "buildSlice: a part of the wrong size"):=by
  intro qd z e3 hz;have:=yK (place:=fun i=>some (i*n,n)) (hp.mono e3) (sU hz (len*n));revert this;cases Instr.fill (fun i=>some (i*n,n)) ((Array.range (len*n)).map (z[· %z.size]!)) ps.toList with
  |none=>exact fun _=>aH
  |some c=>
   cases Instr.fill (fun i=>some (i*n,n)) ((Array.range (len*n)).map (z[· %z.size]!)) ps'.toList with
   |none=>exact fun h=>h.elim
   |some c'=>exact fun h=>(jH el h).seq fun Uo x y e4 hx=>SR.ret (SV.sl _ _ hx)
 refine eD (fun _=>SR.die gQ) (fun _=>?_);refine eD (fun _=>?_) (fun _=>?_)
 ·refine SR.seq (A:=fun ρ a b=>a=b/\bF ρ a a) (SR.ret ⟨rfl,bF.empty⟩) fun Uo z z' e4 h=>?_;obtain⟨rfl,hz⟩:=h;exact key Uo z ((e1.trans e2).trans e4) hz
 ·refine gJ.seq fun Uo v v' e4 h=>?_;obtain⟨rfl,i',hi,hv⟩:=h;refine SR.seq (A:=fun ρ a b=>a=b/\bF ρ a a) (SR.ret ⟨rfl,hz _ _ hi hv _⟩) fun Zo z z' e5 h=>?_;obtain⟨rfl,hz⟩:=h;exact key Zo z (((e1.trans e2).trans e4).trans e5) hz
theorem XE{t ty:TypeId}(ht:ST P t){x x':Value}(hx:SV ρ x x'):SR P (uH 0) ρ (Builtin.len_ #[t] ty #[x]) (Builtin.len_ #[t] ty #[x']):=by
 obtain⟨el,hu,_⟩:=ht;unfold Builtin.len_;refine(aY t).seq fun iy a b e1 h=>?_;obtain⟨rfl,ha⟩:=h;rw[hu]at ha;obtain rfl:=Option.some.inj ha;have hx:=hx.mono e1;cases hx<;>first|exact aH|exact SR.ret (SV.int _ _)
theorem EI{x x':Value}(hx:SV ρ x x'):SR P wN ρ (Builtin.lenOf x) (Builtin.lenOf x'):=by
 cases hx<;>first|exact aH|exact SR.ret rfl
theorem iM(size n:Nat){x x':Value}(hx:SV ρ x x'):SR P bF ρ (Builtin.firstCells size n x) (Builtin.firstCells size n x'):=by
 cases hx<;>first|exact aH|exact SR.ret bF.empty|(rename_i h;exact B_ h _)
theorem zu{z:Array Value}(h:bF ρ z z)(n:Nat):bF ρ (Builtin.zeroCells z n) (Builtin.zeroCells z n):=bF.map _ fun _ _=>bF.get! h _
theorem UY{t t' ty:TypeId}{x x' y y':Value}(hx:SV ρ x x')(hy:SV ρ y y'):SR P (uH 0) ρ (Builtin.copy_ #[t,t'] ty #[x,y]) (Builtin.copy_ #[t,t'] ty #[x',y']):=by
 unfold Builtin.copy_;dsimp only[List.getElem?_toArray,List.getElem?_cons_zero,List.getElem?_cons_succ];refine(aY t).seq fun iy a b e1 h=>?_;obtain⟨rfl,ha⟩:=h;have hx:=hx.mono e1;have hy:=hy.mono e1;cases a<;>first
  |exact aH
  |(cases hx<;>first
   |exact aH
   |(refine(EI hy).seq fun vF n n' e2 h=>?_
     obtain rfl:=h;refine(dJ _).seq fun qd s s' e3 h=>?_;obtain rfl:=h;refine(iM _ _ (hy.mono (e2.trans e3))).seq fun Uo c c' e4 h=>?_
     first
      |exact SR.ret (SV.int _ _)
      |(rename_i hb;refine(kQ (hb.mono ((e2.trans e3).trans e4)) h.toList 0).seq fun Zo _ _ e5 _=>?_;exact SR.ret (SV.int _ _))))
inductive OA(ρ:Array Nat):Option Addr->Option Addr->Prop
 |none:OA ρ none none
 |some {a a':Addr}:AR ρ a a'->OA ρ (some a) (some a')
theorem OA.mono{ρ':Array Nat}(e:Ext ρ ρ'){a a':Option Addr}(h:OA ρ a a'):OA ρ' a a':=by cases h with|none=>exact .none|some h=>exact .some (h.mono e)
theorem OA.slice{a a':Option Addr}(h:OA ρ a a')(l c:Nat):SV ρ (.slice a l c) (.slice a' l c):=by cases h with|none=>exact .Dy l c|some h=>exact .sl l c h
def Tot(P:Program){α:Type}(s:Sem α):Prop:=∀p,∃a p',s.run P p= .ok a p'
theorem Tot.ret{α:Type}(a:α):Tot P (Pure.pure a:Sem α):=fun p=>⟨a,p,rfl⟩
theorem Tot.seq{α β:Type}{s:Sem α}{f:α->Sem β}(h:Tot P s)(hf:∀a,Tot P (f a)):Tot P (s >>= f):=by
 intro p;obtain⟨a,p',h⟩:=h p;obtain⟨b,p'',h'⟩:=hf a p';exact⟨b,p'',by show(s.bind f).run P p=_;rw[run_bind,h];exact h'⟩
theorem MN(r:Nat):Tot P (shape r):=fun p=>⟨_,p,rfl⟩
theorem Hz(a:Addr):Tot P (frozen a):=fun p=>⟨_,p,rfl⟩
theorem Ak(a:Addr)(m:Nat):Tot P (Builtin.holdsCells a m):=by
 unfold Builtin.holdsCells;refine(MN _).seq fun s=>?_;cases s<;>exact Tot.ret _
theorem BI(size sLen n:Nat)(base:Option Addr)(x:Value):Tot P (Builtin.mayShare size sLen n base x):=by
 have tail:∀(base:Option Addr) (there:Bool),Tot P (if(!there)=true then(Pure.pure true:Sem Bool)else match x with| .slice (some b) _ _=>do Pure.pure (!(<-Builtin.holdsCells b (n*size))||base.any (·.block==b.block))|_=>Pure.pure false):=by
  intro base there;cases there with
  |false=>exact Tot.ret _
  |true=>
   simp only[Bool.not_true,Bool.false_eq_true,if_false];split
   ·exact(Ak _ _).seq fun _=>Tot.ret _
   ·exact Tot.ret _
 unfold Builtin.mayShare;cases base with
 |none=>exact(Tot.ret true).seq fun b=>tail none b
 |some a=>exact(Ak _ _).seq fun b=>(Hz _).seq fun c=>(Tot.ret _).seq fun d=>tail (some a) d
theorem nP{t t' ty:TypeId}(ht:ST P t)(ht':ST P t'){b b':Option Addr}(l c:Nat)(hb:OA ρ b b'){y y':Value}(hy:SV ρ y y'):SR P (uH 0) ρ (Builtin.append_ #[t,t'] ty #[.slice b l c,y]) (Builtin.append_ #[t,t'] ty #[.slice b' l c,y']):=by
 obtain⟨el,hu,hz⟩:=ht;obtain⟨el',hu',_⟩:=ht';unfold Builtin.append_;dsimp only[List.getElem?_toArray,List.getElem?_cons_zero,List.getElem?_cons_succ];refine(aY t).seq fun iy a a' e1 h=>?_;obtain⟨rfl,ha⟩:=h;rw[hu]at ha;obtain rfl:=Option.some.inj ha;refine(dJ el).seq fun vF size size' e2 h=>?_;obtain rfl:=h;refine(aY t').seq fun qd d d' e3 h=>?_;obtain⟨rfl,hd⟩:=h;rw[hu']at hd;obtain rfl:=Option.some.inj hd;refine SR.seq (A:=fun _ a b=>a=false/\b=false) (SR.ret ⟨rfl,rfl⟩) fun Uo z z' e4 h=>?_;obtain⟨rfl,rfl⟩:=h;have e14:=((e1.trans e2).trans e3).trans e4;refine(EI (hy.mono e14)).seq fun Zo n n' e5 h=>?_;obtain rfl:=h;have e15:=e14.trans e5;refine eD (fun _=>?_) (fun _=>?_)
 ·refine(iM _ _ (hy.mono e15)).seq fun ρ6 cs cs' e6 hc=>?_;have hb6:=hb.mono (e15.trans e6);cases hb6 with
  |none=>exact SR.ret (SV.Dy _ _)
  |some h=>exact(kQ (h.add _) hc.toList 0).seq fun ρ7 _ _ e7 _=>SR.ret (SV.sl _ _ (h.mono e7))
 ·refine(eU el).seq fun ρ6 i i' e6 h=>?_;obtain⟨rfl,_⟩:=h;refine eD (fun _=>SR.die (fZ _)) (fun _=>?_);refine(eU el).seq fun ρ7 i i' e7 h=>?_;obtain⟨rfl,_⟩:=h;refine eD (fun _=>SR.die (.dB fun p=>?_)) (fun _=>?_)
  ·simp only[Bool.false_eq_true,if_false];obtain⟨r,p',hr⟩:=BI (P:=P) size l n b y p;show Bad (((Builtin.mayShare size l n b y).bind _).run P p);rw[run_bind,hr];cases r<;>trivial
  refine pG fun nc=>?_;refine(eU el).seq fun ρ8 i i' e8 h=>?_;obtain⟨rfl,_⟩:=h;refine(qE _).seq fun ρ9 _ _ e9 _=>?_;have e09:=(((e15.trans e6).trans e7).trans e8).trans e9;refine(iM size l ((hb.mono e09).slice l c)).seq fun ρ10 old old' e10 ho=>?_;refine(iM size n (hy.mono (e09.trans e10))).seq fun ρ11 new new' e11 hn=>?_;refine gJ.seq fun ρ12 v v' e12 h=>?_;obtain⟨rfl,i',hi,hv⟩:=h;refine(jH el (((ho.mono (e11.trans e12)).append (hn.mono e12)).append (zu (hz _ _ hi hv _) _))).seq fun ρ13 x x' e13 hx=>?_;exact SR.ret (SV.sl _ _ hx)
theorem Nh{t t' ty:TypeId}(ht:ST P t)(ht':ST P t'){x x' y y':Value}(hx:SV ρ x x')(hy:SV ρ y y'):SR P (uH 0) ρ (Builtin.append_ #[t,t'] ty #[x,y]) (Builtin.append_ #[t,t'] ty #[x',y']):=by
 have bad:∀v,(∀b l c,v≠.slice b l c)->∀s',SR P (uH 0) ρ (Builtin.append_ #[t,t'] ty #[v,y]) s':=by
  intro v hv s';obtain⟨el,hu,hz⟩:=ht;refine .dB fun p=>?_;unfold Builtin.append_;dsimp only[List.getElem?_toArray,List.getElem?_cons_zero,List.getElem?_cons_succ];show Bad (((underlying t).bind _).run P p);have hr:(underlying t).run P p= .ok (.slice el) p:=by
   unfold underlying;show(Sem.program fun q=>_).run P p=_;simp only[Sem.run,Sem.bind,hu];rfl
  rw[run_bind,hr];cases v<;>first|exact absurd rfl (hv _ _ _)|trivial
 cases hx with
 |bool b=>exact bad _ (fun _ _ _ e=>by cases e) _
 |int k n=>exact bad _ (fun _ _ _ e=>by cases e) _
 |mX=>exact bad _ (fun _ _ _ e=>by cases e) _
 |chan h=>exact bad _ (fun _ _ _ e=>by cases e) _
 |undef=>exact bad _ (fun _ _ _ e=>by cases e) _
 |Dy l c=>exact nP ht ht' l c .none hy
 |sl l c h=>exact nP ht ht' l c (.some h) hy
def Bj:Value->Bool
 | .bool _| .int _ _| .slice none _ _| .chan none=>true
 |_=>false
def TU:Value->Bool
 | .bool _| .int _ _| .slice none _ _| .chan none| .string _| .float _ _| .pointer none| .nilIface| .nilFunc=>true
 | .tuple c| .agg c=>c.all Bj
 |_=>false
theorem LC{v:Value}(h:Bj v=true):SV ρ v v:=by
 match v,h with
 | .bool b,_=>exact .bool b
 | .int k n,_=>exact .int k n
 | .slice none l c,_=>exact .Dy l c
 | .chan none,_=>exact .mX
theorem t_{c:Array Value}(h:c.all Bj=true):bF ρ c c:=by
 refine⟨rfl,fun i v v' h1 h2=>?_⟩;rw[h1]at h2;obtain rfl:=Option.some.inj h2;exact LC (Array.all_eq_true_iff_forall_mem.1 h _ (Array.mem_of_getElem? h1))
theorem V8{v:Value}(h:TU v=true):VR ρ v v:=by
 match v,h with
 | .bool b,_=>exact .bool b
 | .int k n,_=>exact .int k n
 | .float k n,_=>exact .float k n
 | .string s,_=>exact .string s
 | .pointer none,_=>exact .XM
 | .slice none l c,_=>exact .Dy l c
 | .chan none,_=>exact .mX
 | .nilIface,_=>exact .nilIface
 | .nilFunc,_=>exact .nilFunc
 | .tuple c,h=>have:=t_ (ρ:=ρ) (c:=c) h;exact .tuple rfl this.vr
 | .agg c,h=>have:=t_ (ρ:=ρ) (c:=c) h;exact .agg rfl this.vr
def TR(ρ:Array Nat)(K:Nat->Nat)(a a':Array Value):Prop:=a.size=a'.size/\∀(i:Nat) v v',a[i]? =some v->a'[i]? =some v'->CR ρ (K i) v v'
theorem TR.mono{ρ':Array Nat}(e:Ext ρ ρ'){K:Nat->Nat}{a a':Array Value}(h:TR ρ K a a'):TR ρ' K a a':=⟨h.1,fun i v v' h1 h2=>(h.2 i v v' h1 h2).mono e⟩
theorem TR.set{K:Nat->Nat}{a a':Array Value}(h:TR ρ K a a')(i:Nat){v v':Value}(hv:CR ρ (K i) v v'):TR ρ K (a.setIfInBounds i v) (a'.setIfInBounds i v'):=by
 refine⟨by simp[h.1],fun j x x' h1 h2=>?_⟩;rw[Array.getElem?_setIfInBounds]at h1 h2;rw[<-h.1]at h2;by_cases e:i=j
 ·subst e;simp only[if_true]at h1 h2;by_cases hj:i<a.size
  ·simp only[hj,if_true]at h1 h2;obtain rfl:=Option.some.inj h1;obtain rfl:=Option.some.inj h2;exact hv
  ·simp only[hj,if_false]at h1;cases h1
 ·simp only[e,if_false]at h1 h2;exact h.2 j x x' h1 h2
def mV(K:Nat->Nat):Operand->Option Nat
 | .tmp t=>some (K t)
 | .const v=>if Bj v then some 0 else if TU v then some 2 else none
 | .func _=>some 2
 | .global _=>none
theorem CR.undef(k:Nat):CR ρ k undef undef:=by
 match k with
 |0=>exact SV.undef
 |1=>exact⟨#[],#[],.inr ⟨rfl,rfl⟩,bF.empty⟩
 |2=>exact SV.undef.val
 |3=>exact .inl ⟨rfl,rfl⟩
 |4=>exact⟨#[],#[],rfl,rfl,rfl,fun i x x' h=>by simp at h,fun i x x' _ h=>by simp at h⟩
 |n+5=>exact SV.undef.val
theorem TR.eval{K:Nat->Nat}{a a':Act}(h:TR ρ K a.tmps a'.tmps){x:Operand}{k:Nat}(hx:mV K x=some k):CR ρ k (a.eval x) (a'.eval x):=by
 cases x with
 |tmp t=>
  obtain rfl:K t=k:=Option.some.inj hx;show CR ρ (K t) (a.tmps.getD t undef) (a'.tmps.getD t undef);rw[Array.getD_eq_getD_getElem?,Array.getD_eq_getD_getElem?];cases e:a.tmps[t]? with
  |none=>
   have:a'.tmps[t]? =none:=by rw[Array.getElem?_eq_none_iff]at e⊢;rw[<-h.1];exact e
   rw[this];exact CR.undef _
  |some v=>
   have hlt:t<a.tmps.size:=by
    rcases Nat.lt_or_ge t a.tmps.size with h'|h'
    ·exact h'
    ·rw[Array.getElem?_eq_none h']at e;cases e
   have e':a'.tmps[t]? =some (a'.tmps[t]'(h.1▸hlt)):=Array.getElem?_eq_getElem _;rw[e'];exact h.2 t v _ e e'
 |const v=>
  show CR ρ k v v;unfold mV at hx;by_cases hf:Bj v=true
  ·simp only[hf,if_true,Option.some.injEq]at hx;subst hx;exact LC hf
  ·simp only[hf]at hx;by_cases hb:TU v=true
   ·simp only[hb,if_true]at hx;obtain rfl:=Option.some.inj hx;exact V8 hb
   ·simp only[hb]at hx;cases hx
 |func f=>
  obtain rfl:2=k:=Option.some.inj hx;exact VR.func _ rfl (fun i v v' h=>by simp at h) rfl (fun i v v' h=>by simp at h)
 |global g=>cases hx
end Go.Ren
