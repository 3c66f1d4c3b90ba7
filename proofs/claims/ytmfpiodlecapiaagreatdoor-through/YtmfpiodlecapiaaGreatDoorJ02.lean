import Derived.Test.YtmfpiodlecapiaaGreatDoorJ01
import Derived.Laws.Sem
namespace Go.fE
section
open Go.Ren
variable {P:Program}
theorem ay{α:Type}(a:α):Tm P (Pure.pure a:Sem α):=.pure a
theorem au{α β:Type}{s:Sem α}{f:α->Sem β}(h:Tm P s)(hf:∀a,Tm P (f a)):Tm P (s >>= f):=h.bind hf
theorem aG{α β:Type}{s:Sem α}{g:α->β}(h:Tm P s):Tm P (g <$> s):=h.bind fun a=>.pure (g a)
theorem aA{α:Type}{y:String}:Tm P (stuck y:Sem α):=.halt _ (.inr (.inl ⟨_,rfl⟩))
theorem aV{α:Type}{y:Unsupported}(h:∀g,y≠.initOrder g):Tm P (unsupported y:Sem α):=.halt _ (.inr (.inr ⟨_,rfl,h⟩))
theorem tC{α:Type}{v:Value}:Tm P (goPanic v:Sem α):=.halt _ (.inl ⟨_,rfl⟩)
theorem dH:Tm P program:=.program (.pure _)
theorem tH(a:Addr)(m:Mode):Tm P (load a m):=.load _ _ fun v=>.pure v
theorem Sn(a:Addr)(v:Value)(m:Mode):Tm P (store a v m):=.store _ _ _ (.pure ())
theorem bZ(q:Question):Tm P (choose q):=.choose _ fun n=>.pure n
theorem dD(r:Nat):Tm P (getObj r):=.getObj _ fun n=>.pure n
theorem O9(a:Addr)(n:Nat):Tm P (freeze a n):=.freeze _ _ (.pure ())
theorem jw{o:Obj}(h:noView o):Tm P (newObj o):=.new _ h fun n=>.pure n
theorem gG{r:Nat}{o:Obj}(h:noView o):Tm P (setObj r o):=.setObj _ _ h (.pure ())
theorem jv(e:TypeId)(c:Array Value):Tm P (newRow e c):=au (jw trivial) fun _=>ay _
theorem rO(n:Nat):Tm P (askRoom n):=by
 unfold askRoom;split
 .exact .mark _ trivial (.pure ())
 .exact ay _
theorem dQ(t:TypeId):Tm P (typeInfo t):=by
 unfold typeInfo;repeat' first
  |exact ay _
  |exact aA
  |exact dH
  |refine au ?_ (fun _=>?_)
  |refine aG ?_
  |split
  |dsimp only
theorem aD(t:TypeId):Tm P (underlying t):=by
 unfold underlying;repeat' first
  |exact ay _
  |exact aA
  |exact dH
  |refine au ?_ (fun _=>?_)
  |refine aG ?_
  |split
  |dsimp only
theorem eX(t:TypeId):Tm P (zeroValue t):=by
 unfold zeroValue;repeat' first
  |exact ay _
  |exact aV (by intro g h;cases h)
  |exact dQ _
  |refine au ?_ (fun _=>?_)
  |refine aG ?_
  |split
  |dsimp only
theorem cZ(t:TypeId):Tm P (sizeOf t):=by
 unfold sizeOf;repeat' first
  |exact ay _
  |exact dQ _
  |refine au ?_ (fun _=>?_)
  |refine aG ?_
  |split
  |dsimp only
theorem GR(t:TypeId):Tm P (isAgg t):=by
 unfold isAgg;repeat' first
  |exact ay _
  |exact aD _
  |refine au ?_ (fun _=>?_)
  |refine aG ?_
  |split
  |dsimp only
theorem mR(a:Addr):∀(n i:Nat) (acc:Array Value),Tm P (loadCellsFrom a i n acc)
 |0,_,_=>ay _
 |n+1,_,_=>au (tH _ _) fun _=>mR a n _ _
theorem nC(a:Addr)(n:Nat):Tm P (loadCells a n):=mR a n 0 #[]
theorem jG(a:Addr):∀(l:List Value) (i:Nat),Tm P (storeCells a l i)
 | [],_=>ay _
 |_::l,_=>au (Sn _ _ _) fun _=>jG a l _
theorem yQ(t:TypeId)(a:Addr):Tm P (loadVar t a):=by
 unfold loadVar;repeat' first
  |exact ay _
  |exact tH _ _
  |exact cZ _
  |exact GR _
  |exact nC _ _
  |refine au ?_ (fun _=>?_)
  |refine aG ?_
  |split
  |dsimp only
theorem wJ(t:TypeId)(a:Addr)(v:Value):Tm P (storeVar t a v):=by
 unfold storeVar;repeat' first
  |exact aA
  |exact cZ _
  |exact jG _ _ _
  |refine au ?_ (fun _=>?_)
  |refine aG ?_
  |split
  |dsimp only
theorem tu(t:TypeId)(c:Array Value)(o:Nat):Tm P (part t c o):=by
 unfold part;repeat' first
  |exact ay _
  |exact aA
  |exact cZ _
  |exact GR _
  |refine au ?_ (fun _=>?_)
  |refine aG ?_
  |split
  |dsimp only
theorem nH(v:Value):Tm P (asIntOf v):=by
 unfold asIntOf;repeat' first
  |exact ay _
  |exact aA
  |exact aV (by intro g h;cases h)
  |refine au ?_ (fun _=>?_)
  |refine aG ?_
  |split
  |dsimp only
theorem kT(v:Value):Tm P (asInt v):=by
 unfold asInt;repeat' first
  |exact ay _
  |exact nH _
  |refine au ?_ (fun _=>?_)
  |refine aG ?_
  |split
  |dsimp only
theorem vv(v:Value):Tm P (asBool v):=by
 unfold asBool;repeat' first
  |exact ay _
  |exact aA
  |refine au ?_ (fun _=>?_)
  |refine aG ?_
  |split
  |dsimp only
theorem SK(v:Value):Tm P (asAgg v):=by
 unfold asAgg;repeat' first
  |exact ay _
  |exact aA
  |refine au ?_ (fun _=>?_)
  |refine aG ?_
  |split
  |dsimp only
theorem C_(v:Value):Tm P (asAddr v):=by
 unfold asAddr;repeat' first
  |exact ay _
  |exact aA
  |exact tC
  |exact dH
  |refine au ?_ (fun _=>?_)
  |refine aG ?_
  |split
  |dsimp only
theorem jO(v:Value):Tm P (Instr.sureAddr v):=by
 unfold Instr.sureAddr;repeat' first
  |exact ay _
  |exact aA
  |refine au ?_ (fun _=>?_)
  |refine aG ?_
  |split
  |dsimp only
theorem aY{α:Type}(e:RuntimeError):Tm P (runtimePanic e:Sem α):=by
 unfold runtimePanic;repeat' first
  |exact ay _
  |exact aA
  |exact tC
  |exact dH
  |exact jv _ _
  |exact aD _
  |refine au ?_ (fun _=>?_)
  |refine aG ?_
  |split
  |dsimp only
theorem kS{α:Type}(k:IntKind)(x y:Int)(c:BoundsCode):Tm P (boundsPanic k x y c:Sem α):=by
 unfold boundsPanic;repeat' first
  |exact ay _
  |exact bZ _
  |exact aY _
  |refine au ?_ (fun _=>?_)
  |refine aG ?_
  |split
  |dsimp only
theorem O5(t:TypeId)(v:Value):Tm P (Instr.loadAt t v):=by
 unfold Instr.loadAt;repeat' first
  |exact yQ _ _
  |exact jO _
  |refine au ?_ (fun _=>?_)
  |refine aG ?_
  |split
  |dsimp only
theorem KA(t:TypeId)(a v:Value):Tm P (Instr.storeAt t a v):=by
 unfold Instr.storeAt;repeat' first
  |exact wJ _ _ _
  |exact jO _
  |refine au ?_ (fun _=>?_)
  |refine aG ?_
  |split
  |dsimp only
theorem SL(t:TypeId)(h:Bool)(v:Value):Tm P (Instr.alloc t h v):=by
 unfold Instr.alloc;repeat' first
  |exact ay _
  |exact jv _ _
  |exact eX _
  |exact wJ _ _ _
  |refine au ?_ (fun _=>?_)
  |refine aG ?_
  |split
  |dsimp only
theorem ZF(t:TypeId)(v:Value):Tm P (Instr.box t v):=by
 unfold Instr.box;repeat' first
  |exact ay _
  |exact jv _ _
  |refine au ?_ (fun _=>?_)
  |refine aG ?_
  |split
  |dsimp only
theorem KI(t:TypeId)(x i:Value):Tm P (Instr.indexAt t x i):=by
 unfold Instr.indexAt;repeat' first
  |exact ay _
  |exact aA
  |exact aV (by intro g h;cases h)
  |exact aD _
  |exact cZ _
  |exact nH _
  |exact jO _
  |exact kS _ _ _ _
  |refine au ?_ (fun _=>?_)
  |refine aG ?_
  |split
  |dsimp only
theorem SE(t:TypeId)(x i:Value):Tm P (Instr.index t x i):=by
 unfold Instr.index;repeat' first
  |exact ay _
  |exact aA
  |exact aD _
  |exact cZ _
  |exact tu _ _ _
  |exact nH _
  |exact kS _ _ _ _
  |refine au ?_ (fun _=>?_)
  |refine aG ?_
  |split
  |dsimp only
theorem Bt(v:Value)(n:Nat)(c:BoundsCode):Tm P (Instr.sliceBound v n c):=by
 unfold Instr.sliceBound;repeat' first
  |exact ay _
  |exact nH _
  |exact kS _ _ _ _
  |refine au ?_ (fun _=>?_)
  |refine aG ?_
  |split
  |dsimp only
theorem o_(b:Bool)(l c:Nat)(x y z:Option Value):Tm P (Instr.sliceBounds b l c x y z):=by
 unfold Instr.sliceBounds;repeat' first
  |exact ay _
  |exact aA
  |exact Bt _ _ _
  |refine au ?_ (fun _=>?_)
  |refine aG ?_
  |split
  |dsimp only
theorem Sr(t:TypeId)(v:Value)(x y z:Option Value):Tm P (Instr.slice t v x y z):=by
 unfold Instr.slice;repeat' first
  |exact ay _
  |exact aA
  |exact aD _
  |exact cZ _
  |exact C_ _
  |exact o_ _ _ _ _ _ _
  |refine au ?_ (fun _=>?_)
  |refine aG ?_
  |split
  |dsimp only
theorem KC(t:TypeId)(v:Value)(x y z:Option Value):Tm P (Instr.sliceAt t v x y z):=by
 unfold Instr.sliceAt;repeat' first
  |exact ay _
  |exact aD _
  |exact cZ _
  |exact jO _
  |exact o_ _ _ _ _ _ _
  |exact Sr _ _ _ _ _
  |refine au ?_ (fun _=>?_)
  |refine aG ?_
  |split
  |dsimp only
theorem EA(t:TypeId)(x y:Value):Tm P (Instr.makeSlice t x y):=by
 unfold Instr.makeSlice;repeat' first
  |exact ay _
  |exact aA
  |exact bZ _
  |exact jv _ _
  |exact rO _
  |exact dQ _
  |exact aD _
  |exact eX _
  |exact cZ _
  |exact kT _
  |exact aY _
  |refine au ?_ (fun _=>?_)
  |refine aG ?_
  |split
  |dsimp only
theorem KN(v:Value)(i:Nat):Tm P (Instr.extract v i):=by
 unfold Instr.extract;repeat' first
  |exact ay _
  |exact aA
  |refine au ?_ (fun _=>?_)
  |refine aG ?_
  |split
  |dsimp only
theorem BF(t:TypeId)(n:Nat)(ps:Array (Nat×Value)):Tm P (Instr.buildSlice t n ps):=by
 unfold Instr.buildSlice;repeat' first
  |exact ay _
  |exact aA
  |exact aV (by intro g h;cases h)
  |exact jv _ _
  |exact aD _
  |exact eX _
  |exact cZ _
  |refine au ?_ (fun _=>?_)
  |refine aG ?_
  |split
  |dsimp only
end
section
open Go.Ren
variable {P:Program}
theorem sZ{α:Type}{r:Nat}{k:Option (TypeId×Nat)->Sem α}(he:∀e n m,k (some (e,n))=k (some (e,m)))(h:∀x,Tm P (k x)):Tm P (shape r >>= k):=
 .shape r (fun x y e=>by
  cases x with
  |none=>cases y with|none=>rfl|some y=>cases e
  |some x=>cases y with
   |none=>cases e
   |some y=>
    obtain⟨x1,x2⟩:=x;obtain⟨y1,y2⟩:=y;obtain rfl:x1=y1:=Option.some.inj e;exact he _ _ _) fun x=>h x
theorem eB{α:Type}{t:TypeId}{d:TypeDesc}(h:P.underlying t=some d){f:TypeDesc->Sem α}(hf:Tm P (f d)):Tm P (underlying t >>= f):=by
 refine .program ?_;show Tm P ((match P.underlying t with|some d=>Pure.pure d|none=>stuck "no such type" :Sem TypeDesc).bind f);rw[h];exact hf
theorem iK{α β:Type}{y:Unsupported}{f:α->Sem β}(h:∀g,y≠.initOrder g):Tm P ((unsupported y:Sem α) >>= f):=.halt _ (.inr (.inr ⟨_,rfl,h⟩))
theorem uZ(r:Nat):Tm P (viewAt r):=by
 unfold viewAt;refine sZ (fun _ _ _=>rfl) fun x=>?_;split
 .exact ay _
 .refine au (dD _) fun _=>?_;split<;>exact ay _
theorem wN(r:Nat):Tm P (numberAt r):=by
 unfold numberAt;refine sZ (fun _ _ _=>rfl) fun x=>?_;split
 .exact ay _
 .refine au (dD _) fun _=>?_;split<;>exact ay _
theorem CZ(a:Addr):Tm P (Go.noView a):=by
 unfold Go.noView;repeat' first
  |exact ay _
  |exact aV (by intro g h;cases h)
  |exact uZ _
  |refine au ?_ (fun _=>?_)
  |refine aG ?_
  |split
  |dsimp only
theorem mV(a:Addr):Tm P (byteOf a):=by
 unfold byteOf;split
 .exact ay _
 .refine au dH fun p=>?_;refine au (CZ _) fun _=>?_;refine sZ (fun _ _ _=>rfl) fun x=>?_;repeat' first
   |exact ay _
   |exact aA
   |exact dH
   |exact CZ _
   |refine au ?_ (fun _=>?_)
   |refine aG ?_
   |split
   |dsimp only
theorem OZ(a:Addr)(c b:Nat):Tm P (partAt a c b):=by
 unfold partAt;repeat' first
  |exact ay _
  |exact mV _
  |refine au ?_ (fun _=>?_)
  |refine aG ?_
  |split
  |dsimp only
theorem BA(a:Addr)(f:Field):Tm P (fieldPlace a f):=by
 unfold fieldPlace;repeat' first
  |exact ay _
  |exact cZ _
  |exact OZ _ _ _
  |refine au ?_ (fun _=>?_)
  |refine aG ?_
  |split
  |dsimp only
theorem KM(s:TypeId)(x:Value)(f:Nat):Tm P (Instr.fieldAt s x f):=by
 unfold Instr.fieldAt;repeat' first
  |exact ay _
  |exact aA
  |exact aD _
  |exact jO _
  |exact BA _ _
  |refine au ?_ (fun _=>?_)
  |refine aG ?_
  |split
  |dsimp only
theorem SF(s:TypeId)(x:Value)(f:Nat):Tm P (Instr.field s x f):=by
 unfold Instr.field;repeat' first
  |exact aA
  |exact aD _
  |exact tu _ _ _
  |exact SK _
  |refine au ?_ (fun _=>?_)
  |refine aG ?_
  |split
  |dsimp only
theorem mW(a:Addr):Tm P (behindNumber a):=by
 unfold behindNumber;repeat' first
  |exact ay _
  |exact wN _
  |refine au ?_ (fun _=>?_)
  |refine aG ?_
  |split
  |dsimp only
theorem sW(a b:Addr):Tm P (Op.twoPlaces a b):=by
 unfold Op.twoPlaces;repeat' first
  |exact ay _
  |exact aV (by intro g h;cases h)
  |exact dH
  |exact mV _
  |refine au ?_ (fun _=>?_)
  |refine aG ?_
  |split
  |dsimp only
theorem KQ(k:IntKind)(a b:Addr):Tm P (Op.addrSub k a b):=by
 unfold Op.addrSub;repeat' first
  |exact ay _
  |exact sW _ _
  |refine au ?_ (fun _=>?_)
  |refine aG ?_
  |split
  |dsimp only
theorem KS(o:BinOp)(a b:Addr):Tm P (Op.addrCmp o a b):=by
 unfold Op.addrCmp;repeat' first
  |exact ay _
  |exact aV (by intro g h;cases h)
  |exact sW _ _
  |refine au ?_ (fun _=>?_)
  |refine aG ?_
  |split
  |dsimp only
theorem KR(k:IntKind)(a:Addr)(n:Int):Tm P (Op.addrMod k a n):=by
 unfold Op.addrMod;refine sZ (fun _ _ _=>rfl) fun x=>?_;repeat' first
  |exact ay _
  |exact aV (by intro g h;cases h)
  |exact dQ _
  |exact mV _
  |refine au ?_ (fun _=>?_)
  |refine aG ?_
  |split
  |dsimp only
theorem GU(o:BinOp)(k:IntKind)(x y:Int):Tm P (Op.intArith o k x y):=by
 unfold Op.intArith;repeat' first
  |exact ay _
  |exact aA
  |refine au ?_ (fun _=>?_)
  |refine aG ?_
  |split
  |dsimp only
theorem O6(o:BinOp)(k:IntKind)(x y:Int):Tm P (Op.intDiv o k x y):=by
 unfold Op.intDiv;repeat' first
  |exact ay _
  |exact aA
  |exact aY _
  |refine au ?_ (fun _=>?_)
  |refine aG ?_
  |split
  |dsimp only
theorem KH(o:BinOp)(k:IntKind)(x y:Int):Tm P (Op.intBits o k x y):=by
 unfold Op.intBits;repeat' first
  |exact ay _
  |exact aA
  |refine au ?_ (fun _=>?_)
  |refine aG ?_
  |split
  |dsimp only
theorem Sv(o:BinOp)(k:IntKind)(x:Int)(j:IntKind)(y:Int):Tm P (Op.shift o k x j y):=by
 unfold Op.shift;repeat' first
  |exact ay _
  |exact aA
  |exact aY _
  |refine au ?_ (fun _=>?_)
  |refine aG ?_
  |split
  |dsimp only
theorem O7(o:BinOp)(x y:Int):Tm P (Op.intCmp o x y):=by
 unfold Op.intCmp;repeat' first
  |exact ay _
  |exact aA
  |refine au ?_ (fun _=>?_)
  |refine aG ?_
  |split
  |dsimp only
theorem qZ(o:BinOp)(k:FloatKind)(x y:Nat):Tm P (Op.floatArith o k x y):=by
 unfold Op.floatArith;repeat' first
  |exact ay _
  |exact aA
  |exact bZ _
  |refine au ?_ (fun _=>?_)
  |refine aG ?_
  |split
  |dsimp only
theorem wQ(o:BinOp)(k:FloatKind)(x y:Nat):Tm P (Op.floatCmp o k x y):=by
 unfold Op.floatCmp;repeat' first
  |exact ay _
  |exact aA
  |refine au ?_ (fun _=>?_)
  |refine aG ?_
  |split
  |dsimp only
theorem wI(o:BinOp)(x y:ByteArray):Tm P (Op.stringOp o x y):=by
 unfold Op.stringOp;repeat' first
  |exact ay _
  |exact aA
  |exact aV (by intro g h;cases h)
  |refine au ?_ (fun _=>?_)
  |refine aG ?_
  |split
  |dsimp only
theorem Sm(o:UnOp)(x:Value):Tm P (Op.unary o x):=by
 unfold Op.unary;repeat' first
  |exact ay _
  |exact aA
  |exact aV (by intro g h;cases h)
  |refine au ?_ (fun _=>?_)
  |refine aG ?_
  |split
  |dsimp only
theorem ZE(s:FloatKind)(x:Nat)(d:FloatKind):Tm P (Conv.floatToFloat s x d):=by
 unfold Conv.floatToFloat;repeat' first
  |exact ay _
  |exact bZ _
  |refine au ?_ (fun _=>?_)
  |refine aG ?_
  |split
  |dsimp only
theorem mU(o:BinOp)(k:FloatKind)(x y:Nat):Tm P (Op.Complex.arith o k x y):=by
 unfold Op.Complex.arith;repeat' first
  |exact ay _
  |exact aA
  |exact qZ _ _ _ _
  |refine au ?_ (fun _=>?_)
  |refine aG ?_
  |split
  |dsimp only
theorem NH(o:BinOp)(k:FloatKind)(x y:Nat):Tm P (Op.Complex.cmp o k x y):=by
 unfold Op.Complex.cmp;repeat' first
  |exact vv _
  |exact wQ _ _ _ _
  |refine au ?_ (fun _=>?_)
  |refine aG ?_
  |split
  |dsimp only
theorem SH(k:FloatKind)(x:Nat)(d:FloatKind):Tm P (Op.Complex.conv k x d):=by
 unfold Op.Complex.conv;repeat' first
  |exact ay _
  |exact aA
  |exact ZE _ _ _
  |refine au ?_ (fun _=>?_)
  |refine aG ?_
  |split
  |dsimp only
theorem EG(x y:Nat):Tm P (Op.Complex.add x y):=mU _ _ _ _
theorem EB(x y:Nat):Tm P (Op.Complex.sub x y):=mU _ _ _ _
theorem EF(x y:Nat):Tm P (Op.Complex.mul x y):=mU _ _ _ _
theorem Xg(x y:Nat):Tm P (Op.Complex.quo x y):=mU _ _ _ _
theorem GX(a b c d:Nat):Tm P (Op.Complex.product a b c d):=by
 unfold Op.Complex.product;repeat' first
  |with_reducible exact ay _
  |with_reducible exact EF _ _
  |with_reducible exact EG _ _
  |with_reducible exact EB _ _
  |with_reducible refine au ?_ (fun _=>?_)
  |split
  |dsimp only
theorem BD(s a b c d:Nat):Tm P (Op.Complex.corrected s a b c d):=by
 unfold Op.Complex.corrected;repeat' first
  |with_reducible exact ay _
  |with_reducible exact EF _ _
  |with_reducible exact EG _ _
  |with_reducible exact EB _ _
  |with_reducible refine au ?_ (fun _=>?_)
  |split
  |dsimp only
theorem EC(a b c d:Nat):Tm P (Op.Complex.quotient a b c d):=by
 unfold Op.Complex.quotient;repeat' first
  |with_reducible exact ay _
  |with_reducible exact EF _ _
  |with_reducible exact EG _ _
  |with_reducible exact EB _ _
  |with_reducible exact Xg _ _
  |with_reducible exact NH _ _ _ _
  |with_reducible exact BD _ _ _ _ _
  |with_reducible refine au ?_ (fun _=>?_)
  |split
  |dsimp only
theorem ED(o:BinOp)(k:FloatKind)(a b c d:Nat):Tm P (Op.complexOp o k a b c d):=by
 unfold Op.complexOp;repeat' first
  |with_reducible exact ay _
  |with_reducible exact aA
  |with_reducible exact mU _ _ _ _
  |with_reducible exact NH _ _ _ _
  |with_reducible exact SH _ _ _
  |with_reducible exact GX _ _ _ _
  |with_reducible exact EC _ _ _ _
  |with_reducible refine au ?_ (fun _=>?_)
  |split
  |dsimp only
theorem XO(P:Program)(d:Nat)(e:TypeId)(off:Nat)(n:Int):cellAtBytes P d e 0 off n=none:=by
 unfold cellAtBytes;dsimp only;split
 .rfl
 .cases byteOfCell P d e (off%P.cellsOf e)with
  |none=>rfl
  |some b=>
   dsimp only[Option.bind_eq_bind,Option.bind_some];rw[if_pos]
   .rfl
   .simp only[Nat.zero_mul,Bool.or_eq_true,decide_eq_true_eq];have:(Int.ofNat 0)=0:=rfl;omega
theorem sV(ts:Array TypeId)(t:TypeId)(xs:Array Value):Tm P (Builtin.unsafeAdd_ ts t xs):=by
 rcases Classical.em (∃p l,xs=#[.pointer p,l])with⟨p,l,rfl⟩|hn
 .unfold Builtin.unsafeAdd_;dsimp only;refine au (kT _) fun n=>?_;split
  .split
   .refine au (uZ _) fun _=>?_;split
    .exact iK (by intro g h;cases h)
    .exact ay _
   .exact iK (by intro g h;cases h)
  .split
   .exact iK (by intro g h;cases h)
   .split
    .rename_i a;refine .nI a.block (fun e w=>?_) fun x=>?_
     .refine⟨.unsupported (.unsafePointer "Add"),w,?_,trivial⟩
      show(match cellAtBytes P P.depth e (0/P.cellsOf e) a.off n with
           |some off=>pure (Value.pointer (some {block:=a.block,off:=off,spot:=a.spot}))
           |none=>unsupported (Unsupported.unsafePointer "Add"):Sem Value).run P w=_
      rw[Nat.zero_div,XO];rfl
     .cases x with
      |none=>exact aV (by intro g h;cases h)
      |some x=>
       show Tm P (program >>= fun p=>_);refine au dH fun _=>?_;split
       .exact ay _
       .exact aV (by intro g h;cases h)
    .exact aV (by intro g h;cases h)
 .obtain⟨l⟩:=xs;match l,hn with
  | [],_=>exact aA
  | [x],_=>cases x<;>exact aA
  |[x,y],hn=>
   cases x with
   |pointer p=>exact absurd ⟨p,y,rfl⟩ hn
   |_=>exact aA
  |x::_::_::_,_=>cases x<;>exact aA
theorem He(a:Addr)(l:Bool):Tm P (asNumber a l):=by
 unfold asNumber;repeat' first
  |exact ay _
  |exact jw trivial
  |refine au ?_ (fun _=>?_)
  |refine aG ?_
  |split
  |dsimp only
theorem pq(t:TypeId)(x y:Value):Tm P (movedNumber t x y):=by
 unfold movedNumber;repeat' first
  |exact ay _
  |exact aV (by intro g h;cases h)
  |exact aD _
  |exact mW _
  |exact sV _ _ _
  |exact He _ _
  |refine au ?_ (fun _=>?_)
  |refine aG ?_
  |split
  |dsimp only
theorem xQ(t:TypeId)(x y:Value):Tm P (movedPointer t x y):=by
 unfold movedPointer;repeat' first
  |exact aV (by intro g h;cases h)
  |exact wN _
  |exact sV _ _ _
  |refine au ?_ (fun _=>?_)
  |refine aG ?_
  |split
  |dsimp only
def Sd(P:Program):Nat->TypeId->Bool
 |0,_=>false
 |d+1,t=>match P.underlying t with
  |some (.int _)|some .bool|some .string=>true
  |some (.struct fs)=>fs.toList.all fun f=>Sd P d f.type
  |_=>false
def Zw(P:Program)(t:TypeId):Bool:=match P.underlying t with
 |some (.pointer _)|some (.interface _)|some (.slice _)|some (.map _ _)|some (.func _ _ _)=>true
 |_=>false
def Qt:Value->Bool
 | .pointer none| .nilIface| .slice none _ _| .map none| .nilFunc=>true
 |_=>false
theorem yR{α β:Type}{f:α->β->Sem (ForInStep β)}:∀(l:List α) (b:β),(∀a,a∈l->∀b,Tm P (f a b))->Tm P (forIn l b f)
 | [],b,_=>by rw[List.forIn_nil];exact ay _
 |a::l,b,h=>by
  rw[List.forIn_cons];refine au (h a (List.mem_cons_self ..) b) fun x=>?_;cases x with
  |done b=>exact ay _
  |yield b=>exact yR l b fun a ha=>h a (List.mem_cons_of_mem _ ha)
theorem rM:∀(d:Nat) (t:TypeId),Sd P d t=true->∀(n:Nat) (x y:Value),Tm P (Op.equalIn n t x y)
 |0,_,h=>by cases h
 |d+1,t,h=>by
  intro n x y;cases n with
  |zero=>exact aV (by intro g h;cases h)
  |succ n=>
   unfold Op.equalIn;unfold Sd at h;cases hd:P.underlying t with
   |none=>rw[hd]at h;cases h
   |some D=>
    rw[hd]at h;refine eB hd ?_;split;all_goals first
     |(cases h;done)
     |with_reducible exact ay _
     |with_reducible exact aA
     |exact aV (by intro g h;cases h)
     |skip
    .split
     .exact ay _
     .exact aA
    .refine au (mW _) fun _=>?_;refine au (mW _) fun _=>?_;dsimp only;refine au dH fun _=>?_;split
     .refine au (mV _) fun _=>?_;exact au (mV _) fun _=>ay _
     .refine au (dQ _) fun _=>?_;split
      .split
       .exact ay _
       .exact aV (by intro g h;cases h)
      .exact aV (by intro g h;cases h)
    .refine au dH fun _=>?_;dsimp only;split
     .exact iK (by intro g h;cases h)
     .refine au ?_ fun s=>?_
      .rw[<-Array.forIn_toList];refine yR _ _ fun f hf b=>?_;have hq:=List.all_eq_true.1 h f hf;split
       .refine au (tu _ _ _) fun _=>?_;refine au (tu _ _ _) fun _=>?_;refine au (rM d f.type hq n _ _) fun _=>?_;split<;>exact ay _
       .exact ay _
      .split<;>exact ay _
theorem wT(t:TypeId)(h:Zw P t=true)(n:Nat)(x y:Value)(hn:Qt x=true\/Qt y=true):Tm P (Op.equalIn n t x y):=by
 cases n with
 |zero=>exact aV (by intro g h;cases h)
 |succ n=>
  unfold Op.equalIn;unfold Zw at h;cases hd:P.underlying t with
  |none=>rw[hd]at h;cases h
  |some D=>
   rw[hd]at h;refine eB hd ?_;split;all_goals first
    |(cases h;done)
    |with_reducible exact ay _
    |with_reducible exact aA
    |(rcases hn with hn|hn<;>cases hn;done)
end
section
open Go.Ren
variable{ρ:Operand->Value}{x y:Operand}{t k:TypeId}
variable {P:Program}
def nilO:Operand->Bool
 | .const v=>Qt v
 |_=>false
def eqT(P:Program)(t:TypeId)(x y:Operand):Bool:=(Sd P 5 t&& !P.eqGuardType P.depth t)||(Zw P t&&(nilO x||nilO y))
theorem nD{α:Type}{c:Prop}[Decidable c]{s s':Sem α}(h:Tm P s)(h':Tm P s'):Tm P (if c then s else s'):=by split<;>assumption
theorem tq{α:Type}{f:Program->Sem α}(h:Tm P (f P)):Tm P (program >>= f):=.program h
theorem GV(n:Nat)(t:TypeId):Tm P (Op.eqGuardIn n t .nilIface .nilIface):=by
 cases n with
 |zero=>exact aV (by intro g h;cases h)
 |succ n=>
  unfold Op.eqGuardIn;refine au (aD _) fun d=>?_;cases d<;>exact ay _
theorem uw(kA:∀v,ρ (.const v)=v)(h:nilO x=true):Qt (ρ x)=true:=by
 cases x with
 |const v=>rw[kA];exact h
 |_=>cases h
theorem KO(kA:∀v,ρ (.const v)=v)(op:BinOp)(h:eqT P t x y=true):Tm P (eqGuard op t x y (ρ x) (ρ y)):=by
 unfold eqT at h;simp only[Bool.or_eq_true,Bool.and_eq_true,Bool.not_eq_true']at h;have hn:(P.eqGuardType P.depth t=false)\/Qt (ρ x)=true\/Qt (ρ y)=true:=by
  rcases h with h|⟨_,h|h⟩
  .exact .inl h.2
  .exact .inr (.inl (uw kA h))
  .exact .inr (.inr (uw kA h))
 unfold eqGuard;generalize ρ x=a at hn;generalize ρ y=b at hn;refine nD (ay _) ?_;cases a<;>cases b<;>first|exact ay _|skip
 .dsimp only;refine nD (ay _) ?_;refine au (GV _ _) fun _=>?_;split
  .exact aV (by intro g h;cases h)
  .exact ay _
 .rcases hn with hn|hn|hn
  .dsimp only;refine tq ?_;refine tq ?_;rw[hn];exact ay _
  iterate 2 (·cases hn)
theorem SG(kA:∀v,ρ (.const v)=v)(h:eqT P t x y=true):Tm P (Op.equal t (ρ x) (ρ y)):=by
 unfold eqT at h;simp only[Bool.or_eq_true,Bool.and_eq_true]at h;rcases h with h|⟨h1,h|h⟩
 .exact rM _ _ h.1 _ _ _
 .exact wT _ h1 _ _ _ (.inl (uw kA h))
 .exact wT _ h1 _ _ _ (.inr (uw kA h))
theorem G_(op:BinOp)(t:TypeId)(x y:Value)(hE:op= .eql\/op= .neq->Tm P (Op.equal t x y)):Tm P (binOp op t x y):=by
 unfold binOp;split;all_goals first
  |with_reducible exact Sv _ _ _ _ _
  |with_reducible exact wI _ _ _
  |with_reducible exact pq _ _ _
  |with_reducible exact aA
  |exact aV (by intro g h;cases h)
  |skip
 .split
  .exact aA
  .split;all_goals first
    |with_reducible exact GU _ _ _ _
    |with_reducible exact O6 _ _ _ _
    |with_reducible exact KH _ _ _ _
    |with_reducible exact O7 _ _ _
 .split
  .exact aA
  .split;all_goals first
    |with_reducible exact qZ _ _ _ _
    |with_reducible exact wQ _ _ _ _
 .split
  .exact aA
  .exact ED _ _ _ _ _ _
 .exact au (hE (.inl rfl)) fun _=>ay _
 .exact au (hE (.inr rfl)) fun _=>ay _
 .refine au (aD _) fun _=>?_;split
  .exact xQ _ _ _
  .exact pq _ _ _
 all_goals
  refine au (mW _) fun _=>?_
  first
   |with_reducible exact KR _ _ _
   |(refine au (mW _) fun _=>?_
     first|with_reducible exact KQ _ _ _|with_reducible exact KS _ _ _)
def VF(P:Program)(s t:TypeId):Bool:=match P.underlying s,P.underlying t with
 |some (.int _),some (.int _)|some .string,some .string=>true
 |some (.slice e),some .string|some .string,some (.slice e)=>(match P.underlying e with|some (.int .u8)=>true|_=>false)
 |some (.slice _),some (.slice e)=>s==t&&(match P.underlying e with|some (.int .u8)=>true|_=>false)
 |_,_=>false
theorem SC(a:Addr)(v:Value):Tm P (do markStringish a;Pure.pure v):=.stringish a.block (fun _ _=>rfl) (ay _) (ay _)
theorem u_(e:TypeId)(s:ByteArray):Tm P (Conv.stringToBytes e s):=by
 unfold Conv.stringToBytes;refine au (bZ _) fun _=>?_;refine .jQ _ trivial fun n x=>?_;cases x with
 |none=>exact ay _
 |some x=>exact .freeze _ _ (ay _)
theorem vo(x:Value):Tm P (Conv.bytesToString x):=by
 unfold Conv.bytesToString;split
 .exact ay _
 .refine au (nC _ _) fun c=>?_;refine au ?_ fun _=>ay _;rw[<-Array.forIn_toList];refine yR _ _ fun a _ b=>?_;split
  .exact ay _
  .exact aA
 .exact aA
theorem Bz(k:FloatKind)(n:Nat)(j:IntKind):Tm P (Conv.floatToInt k n j):=by
 unfold Conv.floatToInt;dsimp only;split
 .split
  .exact ay _
  .exact au (bZ _) fun _=>ay _
 .exact au (bZ _) fun _=>ay _
theorem KP{s:TypeId}(h:VF P s t=true)(x:Value):Tm P (convert s t x):=by
 unfold VF at h;unfold convert;cases hs:P.underlying s with
 |none=>rw[hs]at h;cases h
 |some S=>
  cases ht:P.underlying t with
  |none=>rw[hs,ht]at h;cases S<;>cases h
  |some T=>
   rw[hs,ht]at h;refine eB hs (eB ht ?_);split;all_goals first
    |(cases h;done)
    |with_reducible exact ay _
    |with_reducible exact Bz _ _ _
    |exact aV (by intro g h;cases h)
    |skip
   .exact ay _
   iterate 3 (·cases S<;>cases h)
   .exact ay _
   .rename_i e _;have hu:P.underlying e=some (.int .u8):=by
     cases S<;>first|(cases h;done)|skip
     all_goals dsimp only at h
     all_goals try simp only[Bool.and_eq_true]at h
     all_goals first
      |(split at h
        .assumption
        .cases h)
      |(obtain⟨_,h⟩:=h
        split at h
        .assumption
        .cases h)
    exact eB hu (u_ _ _)
   .refine au (aD _) fun _=>?_;split
    .exact SC _ _
    .exact aV (by intro g h;cases h)
   .dsimp only at h;split at h
    .rename_i hu;exact eB hu (vo _)
    .cases h
   .cases S<;>cases h
def Um(P:Program)(t:TypeId):Bool:=match P.underlying t with
 |some (.map k _)=>(match P.underlying k with|some (.int _)=>true|_=>false)
 |_=>false
theorem wU{i:IntKind}(h:P.underlying k=some (.int i))(b:Bool)(n:Nat)(v:Value):Tm P (Instr.checkKey b n k v):=by
 cases n with
 |zero=>exact aV (by intro g h;cases h)
 |succ n=>
  unfold Instr.checkKey;refine eB h ?_;cases v<;>exact ay _
theorem rz{k:TypeId}{i:IntKind}(h:P.underlying k=some (.int i))(v:Value):∀(l:List MapEntry) (n:Nat),Tm P (Instr.findAsking k v l n)
 | [],_=>ay _
 |e::l,n=>by
  unfold Instr.findAsking;refine au (rM 1 k (by simp[Sd,h]) _ _ _) fun _=>?_;split
  .exact ay _
  .exact rz h v l _
theorem yS{i:IntKind}(h:P.underlying k=some (.int i))(v:Value)(l:List MapEntry):Tm P (Instr.findKey k v l):=by
 unfold Instr.findKey;refine au (aD _) fun _=>?_;split
 .exact ay _
 .exact rz h v l _
theorem Og(h:Um P t=true):∃k e i,P.underlying t=some (.map k e)/\P.underlying k=some (.int i):=by
 unfold Um at h;split at h
 .split at h
  .exact⟨_,_,_,‹_›,‹_›⟩
  .cases h
 .cases h
theorem O4(h:Um P t=true)(x i:Value)(b:Bool):Tm P (Instr.lookup t x i b):=by
 obtain⟨k,e,j,h1,h2⟩:=Og h;unfold Instr.lookup;refine eB h1 ?_;dsimp only;repeat' first
  |exact wU h2 _ _ _
  |exact yS h2 _ _
  |exact ay _
  |exact aA
  |exact dD _
  |exact eX _
  |refine au ?_ (fun _=>?_)
  |refine aG ?_
  |split
  |dsimp only
theorem xR(x y:Value):Tm P (Instr.keyThatStays x y):=by
 unfold Instr.keyThatStays;split
 .exact ay _
 .exact au (bZ _) fun _=>ay _
theorem Ez(h:Um P t=true)(m k v:Value):Tm P (Instr.mapUpdate t m k v):=by
 obtain⟨kt,e,j,h1,h2⟩:=Og h;unfold Instr.mapUpdate;refine eB h1 ?_;dsimp only;split
 .exact aY _
 .refine au (dD _) fun _=>?_;split
  .refine au (wU h2 _ _ _) fun _=>?_;refine au (yS h2 _ _) fun r=>?_;split
   .refine au (xR _ _) fun _=>?_;exact gG trivial
   .exact gG trivial
  .exact aA
 .exact aA
theorem KG(t:TypeId)(r:Option Value):Tm P (Instr.makeMap t r):=by
 unfold Instr.makeMap;repeat' first
  |exact ay _
  |exact aA
  |exact jw trivial
  |exact aD _
  |exact kT _
  |refine au ?_ (fun _=>?_)
  |refine aG ?_
  |split
  |dsimp only
theorem vg(t:TypeId)(x:Value):Tm P (Instr.makeInterface t x):=by
 unfold Instr.makeInterface;repeat' first
  |exact ay _
  |exact aA
  |exact aD _
  |refine au ?_ (fun _=>?_)
  |refine aG ?_
  |split
  |dsimp only
theorem Br(x:Value)(s t:TypeId)(b:Bool):Tm P (Instr.typeAssert x s t b):=by
 unfold Instr.typeAssert;repeat' first
  |exact ay _
  |exact aA
  |exact dQ _
  |exact aD _
  |exact eX _
  |exact aY _
  |refine au ?_ (fun _=>?_)
  |refine aG ?_
  |split
  |dsimp only
theorem GN(x:Value):Tm P (Builtin.lenOf x):=by
 unfold Builtin.lenOf;repeat' first
  |exact ay _
  |exact aA
  |refine au ?_ (fun _=>?_)
  |refine aG ?_
  |split
  |dsimp only
theorem ru(s n:Nat)(x:Value):Tm P (Builtin.firstCells s n x):=by
 unfold Builtin.firstCells;repeat' first
  |exact ay _
  |exact aA
  |exact nC _ _
  |refine au ?_ (fun _=>?_)
  |refine aG ?_
  |split
  |dsimp only
theorem Xh(ts:Array TypeId)(t:TypeId)(xs:Array Value):Tm P (Builtin.copy_ ts t xs):=by
 unfold Builtin.copy_;repeat' first
  |exact ay _
  |exact aA
  |exact aD _
  |exact cZ _
  |exact jG _ _ _
  |exact GN _
  |exact ru _ _ _
  |refine au ?_ (fun _=>?_)
  |refine aG ?_
  |split
  |dsimp only
theorem ZC(ts:Array TypeId)(t:TypeId)(xs:Array Value):Tm P (Builtin.len_ ts t xs):=by
 unfold Builtin.len_;repeat' first
  |exact ay _
  |exact aA
  |exact dD _
  |exact aD _
  |refine au ?_ (fun _=>?_)
  |refine aG ?_
  |split
  |dsimp only
theorem Xf(x y:Value):Tm P (Builtin.max2 x y):=by
 unfold Builtin.max2;repeat' first
  |exact ay _
  |exact aA
  |exact aV (by intro g h;cases h)
  |exact bZ _
  |refine au ?_ (fun _=>?_)
  |refine aG ?_
  |split
  |dsimp only
theorem vk{α β:Type}{f:β->α->Sem β}(h:∀b a,Tm P (f b a)):∀(l:List α) (b:β),Tm P (l.foldlM f b)
 | [],_=>ay _
 |a::l,b=>by
  rw[List.foldlM_cons];exact au (h b a) fun b=>vk h l b
theorem ZB(ts:Array TypeId)(t:TypeId)(xs:Array Value):Tm P (Builtin.max_ ts t xs):=by
 unfold Builtin.max_;split
 .exact aA
 .exact vk Xf _ _
end
section
open Go.Ren
variable{t u:TypeId}
variable {P:Program}
theorem Jd(a:Addr)(c:Nat)(w:World):∃b,(Builtin.holdsCells a c).run P w= .ok b w:=by
 unfold Builtin.holdsCells;show∃b,(match w.shape? a.block with|some (_,n)=>(Pure.pure (a.spot.isNone&&a.off+c<=n):Sem Bool)|none=>Pure.pure false).run P w= .ok b w;cases w.shape? a.block with
 |none=>exact⟨_,rfl⟩
 |some x=>exact⟨_,rfl⟩
theorem yA{α β:Type}{s:Sem α}{f:α->Sem β}{w:World}{a:α}{b:β}(h:s.run P w= .ok a w)(hf:(f a).run P w= .ok b w):(s >>= f).run P w= .ok b w:=by
 show(s.bind f).run P w=_;rw[run_bind,h];exact hf
theorem Tv(s l n:Nat)(base:Option Addr)(x:Value)(w:World):∃b,(Builtin.mayShare s l n base x).run P w= .ok b w:=by
 have second:∃b,(match x with| .slice (some b) _ _=>do Pure.pure (!(<-Builtin.holdsCells b (n*s))||base.any (·.block==b.block))|_=>Pure.pure false:Sem Bool).run P w= .ok b w:=by
  split
  .rename_i b _ _;obtain⟨c,hc⟩:=Jd (P:=P) b (n*s) w;exact⟨_,yA hc rfl⟩
  .exact⟨_,rfl⟩
 unfold Builtin.mayShare;cases base with
 |none=>exact second
 |some a=>
  obtain⟨c,hc⟩:=Jd (P:=P) a (l*s) w;cases c with
  |false=>exact⟨true,yA hc rfl⟩
  |true=>
   cases hf:w.frozen? (a.add (l/2*s))with
   |true=>exact⟨true,yA hc (by
     show(Sem.frozen (a.add (l/2*s)) _).run P w=_;simp only[Sem.run,hf];rfl)⟩
   |false=>
    obtain⟨b,hb⟩:=second;exact⟨b,yA hc (by
     show(Sem.frozen (a.add (l/2*s)) _).run P w=_;simp only[Sem.run,hf];exact hb)⟩
theorem Sz{α:Type}{s l n:Nat}{base:Option Addr}{x:Value}{f:Bool->Sem α}(hf:∀b w,∃h w',(f b).run P w= .halt h w'/\Dead h):Tm P (Builtin.mayShare s l n base x >>= f):=by
 refine .dK fun w=>?_;obtain⟨b,hb⟩:=Tv (P:=P) s l n base x w;obtain⟨h,w',h1,h2⟩:=hf b w;refine⟨h,w',?_,h2⟩;show((Builtin.mayShare s l n base x).bind f).run P w=_;rw[run_bind,hb];exact h1
theorem KD{α β:Type}{m:String}{f:α->Sem β}:Tm P ((runtimePanic (.error m):Sem α) >>= f):=.program (.halt _ (.inl ⟨_,rfl⟩))
theorem Pm(ts:Array TypeId)(t:TypeId)(xs:Array Value):Tm P (Builtin.append_ ts t xs):=by
 unfold Builtin.append_;repeat' first
  |with_reducible exact ay _
  |with_reducible exact aA
  |with_reducible exact KD
  |with_reducible exact aY _
  |with_reducible exact aD _
  |with_reducible exact cZ _
  |with_reducible exact dQ _
  |with_reducible exact kT _
  |with_reducible exact GN _
  |with_reducible exact bZ _
  |with_reducible exact ru _ _ _
  |with_reducible exact eX _
  |with_reducible exact jG _ _ _
  |with_reducible exact jv _ _
  |with_reducible exact rO _
  |(with_reducible refine Sz ?_
    exact fun b w=>by cases b<;>exact⟨_,_,rfl,trivial⟩)
  |with_reducible refine nD ?_ ?_
  |with_reducible refine au ?_ (fun _=>?_)
  |split
  |dsimp only
theorem CY:∀(l:List Field),Tm P (l.mapM fun f=>do Pure.pure (f.offset,<-sizeOf f.type))
 | []=>by rw[List.mapM_nil];exact ay _
 |f::l=>by
  rw[List.mapM_cons];refine au (au (cZ _) fun _=>ay _) fun _=>?_;exact au (CY l) fun _=>ay _
theorem SI(t:TypeId)(ps:Array (Nat×Value)):Tm P (Instr.build t ps):=by
 unfold Instr.build;refine au (eX _) fun _=>?_;refine au (aD _) fun _=>?_;split
 .refine au ?_ fun _=>?_
  .rw[Array.mapM_eq_mapM_toList];exact aG (CY _)
  .split
   .exact ay _
   .exact aA
 .refine au (cZ _) fun _=>?_;split
  .exact ay _
  .exact aA
 .exact aA
theorem Bv(ps rs:Array TypeId)(xs:Array Value):Tm P (Extern.BytealgMakeNoZero.makeNoZero ps rs xs):=by
 rcases Classical.em (∃n,xs=#[.int .i64 n])with⟨n,rfl⟩|hn
 .unfold Extern.BytealgMakeNoZero.makeNoZero;dsimp only;cases rs[0]? with
  |none=>exact aA
  |some t=>
   dsimp only;refine au (aD _) fun d=>?_;split
   .refine nD KD ?_;refine au (bZ _) fun _=>?_;refine au (rO _) fun _=>?_;refine au (bZ _) fun _=>?_;exact au (jv _ _) fun _=>ay _
   .exact aA
 .obtain⟨l⟩:=xs;match l,hn with
  | [],_=>exact aA
  |[x],hn=>
   cases x with
   |int k n=>cases k<;>first|exact aA|exact absurd ⟨_,rfl⟩ hn
   |_=>exact aA
  |_::_::_,_=>exact aA
theorem iQ:∀(l:List FieldStep) (t:TypeId) (x:Option Value),Tm P (followBlind l t x)
 | [],_,_=>ay _
 |s::l,t,x=>by
  unfold followBlind;refine au (aD _) fun _=>?_;split
  .split
   .split
    .exact ay _
    .exact iQ l _ _
    .exact aA
    .exact ay _
    .exact au (tu _ _ _) fun _=>iQ l _ _
    .exact aA
    .exact iQ l _ _
   .exact aA
  .exact aA
theorem wO:∀(n:Nat) (t:TypeId) (v:Value) (s:String),Tm P (nilAhead n t v s)
 |0,_,_,_=>ay _
 |n+1,t,v,s=>by
  unfold nilAhead;refine au (dQ _) fun _=>?_;split
  .refine au (iQ _ _ _) fun _=>?_;split
   .exact ay _
   .split
    .exact wO n _ _ _
    .exact ay _
    .exact aA
    iterate 2 (·exact ay _)
    .refine au (aD _) fun _=>?_;split<;>exact ay _
  .exact aA
theorem Xe(x y:Value):Tm P (Builtin.min2 x y):=by
 unfold Builtin.min2;repeat' first
  |exact ay _
  |exact aA
  |exact aV (by intro g h;cases h)
  |exact bZ _
  |exact vv _
  |exact wI _ _ _
  |refine au ?_ (fun _=>?_)
  |refine aG ?_
  |split
  |dsimp only
theorem ZA(ts:Array TypeId)(t:TypeId)(xs:Array Value):Tm P (Builtin.min_ ts t xs):=by
 unfold Builtin.min_;split
 .exact aA
 .exact vk Xe _ _
def Td(P:Program)(t:TypeId):Bool:=match P.underlying t with|some .string=>true|_=>false
theorem yU(h:Td P t=true):P.underlying t=some .string:=by
 unfold Td at h;split at h
 .assumption
 .cases h
theorem OY(h:Td P t=true)(x:Value):Tm P (Instr.range t x):=by
 unfold Instr.range;refine eB (yU h) ?_;dsimp only;split
 .exact(au (jw trivial) fun _=>ay _:Tm P (newObj (.stringIter _ 0) >>= fun n=>Pure.pure (Value.pointer (some ⟨n,0,none⟩))))
 all_goals first|exact aA|contradiction|exact(aA:Tm P (stuck _))
theorem SB(it:Value)(t:TypeId):Tm P (Instr.next it true t):=by
 unfold Instr.next;dsimp only;split
 .refine au (dD _) fun o=>?_;split
  .split
   .exact au (gG trivial) fun _=>ay _
   .exact ay _
  all_goals first|exact aA|(rename_i h1;cases h1)|(rename_i h1 _;cases h1)|skip
 .exact aA
def VG(P:Program)(s t:TypeId):Bool:=(match P.underlying s with|some (.int _)=>true|_=>false)&&Td P t
theorem GY{s:TypeId}(h:VG P s t=true)(x:Value):Tm P (convert s t x):=by
 unfold VG at h;rw[Bool.and_eq_true]at h;obtain⟨h1,h2⟩:=h;have ht:=yU h2;cases hs:P.underlying s with
 |none=>rw[hs]at h1;cases h1
 |some S=>
  rw[hs]at h1;cases S<;>first|(cases h1;done)|skip
  unfold convert;refine eB hs (eB ht ?_);split;all_goals first
   |exact ay _
   |exact aV (by intro g h;cases h)
   |contradiction
theorem Pg(t:TypeId):Tm P (elemOf t):=by
 unfold elemOf;repeat' first
  |exact ay _
  |exact aA
  |exact aD _
  |refine au ?_ (fun _=>?_)
  |split
theorem Ey(ts:Array TypeId)(t:TypeId)(xs:Array Value):Tm P (Builtin.unsafeSliceData_ ts t xs):=by
 obtain⟨l⟩:=xs;match l with
 | []=>exact aA
 |[x]=>
  cases x with
  |slice a n c=>
   cases a with
   |none=>exact ay _
   |some a=>
    show Tm P (if c≠0 then Pure.pure (Value.pointer (some a))else _);refine nD (ay _) ?_;refine au (uZ _) fun _=>?_;refine nD (ay _) ?_;refine au (Pg _) fun _=>?_;exact au (jw trivial) fun _=>ay _
  |_=>exact aA
 |_::_::_=>exact aA
theorem Lx(fits:TypeId->Bool):∀(d:Nat) (e:TypeId) (off n:Nat),0<n->rowAt P fits d e 0 off n=false
 |0,_,_,_,_=>rfl
 |d+1,e,off,n,h=>by
  unfold rowAt;dsimp only;split
  .rfl
  .have h1:¬(off/P.cellsOf e+n<=0):=by generalize off/P.cellsOf e=z;omega
   simp[h1]
theorem I9{k:IntKind}(hu:P.underlying u=some (.int k))(d:Nat)(e:TypeId)(off n:Nat)(h:0<n):liesAt P d e 0 off u n=false:=by
 cases d with
 |zero=>rfl
 |succ d=>
  unfold liesAt;rw[Lx _ _ _ _ _ h,hu];rfl
def ZV(P:Program)(ts:Array TypeId):Bool:=match ts[0]? with
 |some t=>(match P.underlying t with|some (.pointer u)=>(match P.underlying u with|some (.int _)=>true|_=>false)|_=>false)
 |none=>false
theorem qY:∀(n:Nat) (a:Addr) (acc:ByteArray),Tm P (loadBytes a acc n)
 |0,_,_=>ay _
 |n+1,a,acc=>by
  unfold loadBytes;refine au (tH _ _) fun v=>?_;split
  .exact qY n _ _
  .exact aA
theorem Ky{pt:TypeId}{k:IntKind}(hp:P.underlying pt=some (.pointer u))(hu:P.underlying u=some (.int k))(a:Addr)(n:Nat)(hn:0<n){s:Sem Value}(hs:Tm P s)(y:Unsupported)(hy:∀g,y≠.initOrder g):
  Tm P (do
   let e<-elemOf pt
   if<-variablesAt a e n then s else unsupported y):=by
 have hE:∀f:TypeId->Sem Value,Tm P (f u)->Tm P (elemOf pt >>= f):=fun f hf=>by
  refine .program ?_;show Tm P (((match P.underlying pt with|some d=>Pure.pure d|none=>stuck "no such type" :Sem TypeDesc).bind fun d=>(match d with| .pointer e=>Pure.pure e|_=>stuck "pointer type expected" :Sem TypeId)).bind f);rw[hp];exact hf
 refine hE _ ?_;refine .program (.nI _ (fun e w=>?_) fun x=>?_)
 .refine⟨.unsupported y,w,?_,?_⟩
  .show((Pure.pure (liesAt P P.depth e (0/P.cellsOf e) a.off u n):Sem Bool).bind fun b=>if b=true then s else unsupported y).run P w=_;rw[Nat.zero_div,I9 hu _ _ _ _ hn];rfl
  .cases y<;>first|exact trivial|(rename_i g;exact absurd rfl (hy g))
 .cases x with
  |none=>exact aV hy
  |some x=>
   show Tm P ((Pure.pure (liesAt P P.depth x.1 (x.2/P.cellsOf x.1) a.off u n):Sem Bool).bind fun b=>if b=true then s else unsupported y);exact nD hs (aV hy)
theorem xP{ts:Array TypeId}(h:ZV P ts=true)(t:TypeId)(xs:Array Value):Tm P (Builtin.unsafeString_ ts t xs):=by
 unfold ZV at h;cases ht:ts[0]? with
 |none=>rw[ht]at h;cases h
 |some pt=>
  rw[ht]at h;dsimp only at h;split at h
  .rename_i u hp;split at h
   .rename_i k hu;obtain⟨l⟩:=xs;match l with
    | []=>exact aA
    | [_]=>exact aA
    |[x,y]=>
     cases x with
     |pointer p=>
      unfold Builtin.unsafeString_;dsimp only;refine au (kT _) fun n=>?_;rw[ht];dsimp only;split
      .exact KD
      .rename_i My;split
       .exact iK (by intro g h;cases h)
       .cases p with
        |none=>exact nD (ay _) (aY _)
        |some a=>
         dsimp only;split
         .exact ay _
         .exact Ky hp hu a n.toNat (by omega) (au (qY _ _ _) fun _=>au (O9 _ _) fun _=>ay _) _ (by intro g h;cases h)
     |_=>exact aA
    |_::_::_::_=>exact aA
   .cases h
  .cases h
def fB(P:Program)(X:FuncId->Bool)(c:Call):Bool:=
 match c.callee with
 | .builtin .len| .builtin .append| .builtin .copy| .builtin .max| .builtin .min| .builtin .unsafeSliceData=>true
 | .builtin .unsafeString=>ZV P c.argTypes
 | .value (.func f)=>X f||(match P.funcs[f]? with|some fn=>fn.name != "runtime.NumGoroutine" &&fn.body.isSome|none=>false)
 |_=>false
def WC(P:Program)(X:FuncId->Bool)(o:Oper):Bool:=
 match o.op with
 | .move _| .assign _| .pick _ _ _| .alloc _| .box _ _| .build _ _| .buildSlice _ _ _| .load _ _| .store _ _ _=>true
 | .binOp op t x y _=>(match op with| .eql| .neq=>eqT P t x y|_=>true)
 | .unOp _ _ _=>true
 | .convert s t _=>VF P s t||VG P s t
 | .makeInterface _ _| .makeMap _ _| .makeSlice _ _ _| .slice _ _ _ _ _| .fieldAddr _ _ _| .field _ _ _| .indexAddr _ _ _=>true
 | .index _ _ _=>true
 | .range t _=>Td P t
 | .next _ s=>s
 | .lookup t _ _ _| .mapUpdate t _ _ _=>Um P t
 | .typeAssert _ _ _ _| .extract _ _| .nilCheck _=>true
 | .call c=>fB P X c
 |_=>false
theorem aU{s:Sem Value}(h:Tm P s):Tm P (do Pure.pure (Next.value (<-s))):=au h fun _=>ay _
theorem NG{s:Sem Unit}(h:Tm P s):Tm P (do s;Pure.pure Next.skip):=au h fun _=>ay _
theorem KJ(op:BinOp)(t:TypeId)(x y:Operand)(a b:Value)(h:op≠.eql)(h':op≠.neq):Tm P (eqGuard op t x y a b):=by
 unfold eqGuard;cases op<;>first|exact absurd rfl h|exact absurd rfl h'|exact ay _
theorem GZ{X:FuncId->Bool}(hX:∀f,X f=true->∀xs:Array Value,Tm P (callFunc f xs)){f:FuncId}(h:(X f||(match P.funcs[f]? with|some fn=>fn.name != "runtime.NumGoroutine" &&fn.body.isSome|none=>false))=true)(xs:Array Value):Tm P (callFunc f xs):=by
 cases hx:X f with
 |true=>exact hX f hx xs
 |false=>
  rw[hx,Bool.false_or]at h;unfold callFunc;refine tq ?_;cases hn:P.funcs[f]? with
  |none=>rw[hn]at h;cases h
  |some fn=>
   rw[hn]at h;simp only[Bool.and_eq_true,bne_iff_ne,ne_eq,Option.isSome_iff_ne_none]at h;have h1:(fn.name== "runtime.NumGoroutine")=false:=by simpa using h.1
   have h2:fn.body.isNone=false:=by cases hb:fn.body with|none=>exact absurd hb h.2|some _=>rfl
   simp only[h1,h2,Bool.false_eq_true,if_false];exact ay _
theorem YK{X:FuncId->Bool}(hX:∀f,X f=true->∀xs:Array Value,Tm P (callFunc f xs)){ρ:Operand->Value}(kA:∀v,ρ (.const v)=v)(hf:∀f,ρ (.func f)= .func (.func f) #[] #[]){o:Oper}(h:WC P X o=true):Tm P (execOp ρ o):=by
 unfold WC at h;unfold execOp;dsimp only;split<;>rename_i ho<;>rw[ho]at h<;>dsimp only at h;all_goals first
  |(cases h;done)
  |with_reducible exact ay _
  |exact aU (SL _ _ _)
  |exact aU (ZF _ _)
  |exact aU (SI _ _)
  |exact aU (BF _ _ _)
  |exact aU (O5 _ _)
  |exact NG (KA _ _ _)
  |exact aU (Sm _ _)
  |(rw[Bool.or_eq_true]at h;exact h.elim (fun h=>aU (KP h _)) (fun h=>aU (GY h _)))
  |exact aU (SE _ _ _)
  |exact aU (OY h _)
  |(subst h;exact aU (SB _ _))
  |exact aU (vg _ _)
  |exact aU (KG _ _)
  |exact aU (EA _ _ _)
  |exact aU (KC _ _ _ _ _)
  |exact aU (KM _ _ _)
  |exact aU (SF _ _ _)
  |exact aU (KI _ _ _)
  |exact aU (O4 h _ _ _)
  |exact NG (Ez h _ _ _)
  |exact aU (Br _ _ _ _)
  |exact aU (KN _ _)
  |skip
 .exact au (vv _) fun _=>ay _
 .split
  iterate 3 (·exact aY _)
  .split
   .exact aY _
   .refine au dH fun _=>?_;refine au (wO _ _ _ _) fun _=>?_;split
    .exact iK (by intro g h;cases h)
    .exact ay _
   .exact ay _
  .exact ay _
 .rename_i op t x y _;rcases Classical.em (op= .eql\/op= .neq)with hq|hq
  .have hT:eqT P t x y=true:=by rcases hq with rfl|rfl<;>exact h
   exact aU (au (KO kA _ hT) fun _=>G_ _ _ _ _ fun _=>SG kA hT)
  .exact aU (au (KJ _ _ _ _ _ _ (fun e=>hq (.inl e)) (fun e=>hq (.inr e))) fun _=>G_ _ _ _ _ fun e=>absurd e hq)
 .rename_i c;obtain⟨callee,args,argTypes⟩:=c;unfold fB at h;dsimp only at h;cases callee with
  |builtin b=>
   cases b<;>first
    |(cases h;done)
    |exact aU (ZC _ _ _)
    |exact aU (Pm _ _ _)
    |exact aU (Xh _ _ _)
    |exact aU (ZB _ _ _)
    |exact aU (ZA _ _ _)
    |exact aU (Ey _ _ _)
    |exact aU (xP h _ _)
  |invoke r n=>cases h
  |value x=>
   cases x with
   |func f=>
    show Tm P ((Deferred.ofValue (ρ (.func f)) (args.map ρ)) >>= fun d=>invoke d.target d.args);rw[hf];exact GZ hX h _
   |_=>cases h
end
