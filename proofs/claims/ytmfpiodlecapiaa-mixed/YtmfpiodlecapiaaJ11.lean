import Derived.Test.YtmfpiodlecapiaaJ10
import Derived.Laws.Sem
namespace Go.Poi
open Go.Ren
variable {P:Program}
theorem tm_shape{α:Type}{r:Nat}{k:Option (TypeId×Nat)->Sem α}(he:∀e n m,k (some (e,n))=k (some (e,m)))(h:∀x,Tm P (k x)):Tm P (shape r >>= k):=
 .shape r (fun x y e=>by
  cases x with
  |none=>cases y with|none=>rfl|some y=>cases e
  |some x=>cases y with
   |none=>cases e
   |some y=>
    obtain⟨x1,x2⟩:=x;obtain⟨y1,y2⟩:=y;obtain rfl:x1=y1:=Option.some.inj e;exact he _ _ _) fun x=>h x
theorem tm_under{α:Type}{t:TypeId}{d:TypeDesc}(h:P.underlying t=some d){f:TypeDesc->Sem α}(hf:Tm P (f d)):Tm P (underlying t >>= f):=by
 refine .program ?_;show Tm P ((match P.underlying t with|some d=>Pure.pure d|none=>stuck "no such type" :Sem TypeDesc).bind f);rw[h];exact hf
theorem tm_unsupB{α β:Type}{y:Unsupported}{f:α->Sem β}(h:∀g,y≠.initOrder g):Tm P ((unsupported y:Sem α) >>= f):=.halt _ (.inr (.inr ⟨_,rfl,h⟩))
theorem tm_viewAt(r:Nat):Tm P (viewAt r):=by
 unfold viewAt;refine tm_shape (fun _ _ _=>rfl) fun x=>?_;split
 ·exact qY _
 ·refine qZ (tm_getObj _) fun _=>?_;split<;>exact qY _
theorem tm_numberAt(r:Nat):Tm P (numberAt r):=by
 unfold numberAt;refine tm_shape (fun _ _ _=>rfl) fun x=>?_;split
 ·exact qY _
 ·refine qZ (tm_getObj _) fun _=>?_;split<;>exact qY _
theorem tm_noView(a:Addr):Tm P (Go.noView a):=by
 unfold Go.noView;repeat' first
  |exact qY _
  |exact tm_unsup (by intro g h;cases h)
  |exact tm_viewAt _
  |refine qZ ?_ (fun _=>?_)
  |refine qW ?_
  |split
  |dsimp only
theorem tm_byteOf(a:Addr):Tm P (byteOf a):=by
 unfold byteOf;split
 ·exact qY _
 ·refine qZ tm_program fun p=>?_;refine qZ (tm_noView _) fun _=>?_;refine tm_shape (fun _ _ _=>rfl) fun x=>?_;repeat' first
   |exact qY _
   |exact qX
   |exact tm_program
   |exact tm_noView _
   |refine qZ ?_ (fun _=>?_)
   |refine qW ?_
   |split
   |dsimp only
theorem tm_partAt(a:Addr)(c b:Nat):Tm P (partAt a c b):=by
 unfold partAt;repeat' first
  |exact qY _
  |exact tm_byteOf _
  |refine qZ ?_ (fun _=>?_)
  |refine qW ?_
  |split
  |dsimp only
theorem tm_fieldPlace(a:Addr)(f:Field):Tm P (fieldPlace a f):=by
 unfold fieldPlace;repeat' first
  |exact qY _
  |exact tm_sizeOf _
  |exact tm_partAt _ _ _
  |refine qZ ?_ (fun _=>?_)
  |refine qW ?_
  |split
  |dsimp only
theorem tm_fieldAt(s:TypeId)(x:Value)(f:Nat):Tm P (Instr.fieldAt s x f):=by
 unfold Instr.fieldAt;repeat' first
  |exact qY _
  |exact qX
  |exact qK _
  |exact tm_sureAddr _
  |exact tm_fieldPlace _ _
  |refine qZ ?_ (fun _=>?_)
  |refine qW ?_
  |split
  |dsimp only
theorem tm_field(s:TypeId)(x:Value)(f:Nat):Tm P (Instr.field s x f):=by
 unfold Instr.field;repeat' first
  |exact qX
  |exact qK _
  |exact tm_part _ _ _
  |exact tm_asAgg _
  |refine qZ ?_ (fun _=>?_)
  |refine qW ?_
  |split
  |dsimp only
theorem tm_behind(a:Addr):Tm P (behindNumber a):=by
 unfold behindNumber;repeat' first
  |exact qY _
  |exact tm_numberAt _
  |refine qZ ?_ (fun _=>?_)
  |refine qW ?_
  |split
  |dsimp only
theorem tm_twoPlaces(a b:Addr):Tm P (Op.twoPlaces a b):=by
 unfold Op.twoPlaces;repeat' first
  |exact qY _
  |exact tm_unsup (by intro g h;cases h)
  |exact tm_program
  |exact tm_byteOf _
  |refine qZ ?_ (fun _=>?_)
  |refine qW ?_
  |split
  |dsimp only
theorem tm_addrSub(k:IntKind)(a b:Addr):Tm P (Op.addrSub k a b):=by
 unfold Op.addrSub;repeat' first
  |exact qY _
  |exact tm_twoPlaces _ _
  |refine qZ ?_ (fun _=>?_)
  |refine qW ?_
  |split
  |dsimp only
theorem tm_addrCmp(o:BinOp)(a b:Addr):Tm P (Op.addrCmp o a b):=by
 unfold Op.addrCmp;repeat' first
  |exact qY _
  |exact tm_unsup (by intro g h;cases h)
  |exact tm_twoPlaces _ _
  |refine qZ ?_ (fun _=>?_)
  |refine qW ?_
  |split
  |dsimp only
theorem tm_addrMod(k:IntKind)(a:Addr)(n:Int):Tm P (Op.addrMod k a n):=by
 unfold Op.addrMod;refine tm_shape (fun _ _ _=>rfl) fun x=>?_;repeat' first
  |exact qY _
  |exact tm_unsup (by intro g h;cases h)
  |exact tm_typeInfo _
  |exact tm_byteOf _
  |refine qZ ?_ (fun _=>?_)
  |refine qW ?_
  |split
  |dsimp only
theorem tm_intArith(o:BinOp)(k:IntKind)(x y:Int):Tm P (Op.intArith o k x y):=by
 unfold Op.intArith;repeat' first
  |exact qY _
  |exact qX
  |refine qZ ?_ (fun _=>?_)
  |refine qW ?_
  |split
  |dsimp only
theorem tm_intDiv(o:BinOp)(k:IntKind)(x y:Int):Tm P (Op.intDiv o k x y):=by
 unfold Op.intDiv;repeat' first
  |exact qY _
  |exact qX
  |exact tm_runtimePanic _
  |refine qZ ?_ (fun _=>?_)
  |refine qW ?_
  |split
  |dsimp only
theorem tm_intBits(o:BinOp)(k:IntKind)(x y:Int):Tm P (Op.intBits o k x y):=by
 unfold Op.intBits;repeat' first
  |exact qY _
  |exact qX
  |refine qZ ?_ (fun _=>?_)
  |refine qW ?_
  |split
  |dsimp only
theorem tm_shift(o:BinOp)(k:IntKind)(x:Int)(j:IntKind)(y:Int):Tm P (Op.shift o k x j y):=by
 unfold Op.shift;repeat' first
  |exact qY _
  |exact qX
  |exact tm_runtimePanic _
  |refine qZ ?_ (fun _=>?_)
  |refine qW ?_
  |split
  |dsimp only
theorem tm_intCmp(o:BinOp)(x y:Int):Tm P (Op.intCmp o x y):=by
 unfold Op.intCmp;repeat' first
  |exact qY _
  |exact qX
  |refine qZ ?_ (fun _=>?_)
  |refine qW ?_
  |split
  |dsimp only
theorem tm_floatArith(o:BinOp)(k:FloatKind)(x y:Nat):Tm P (Op.floatArith o k x y):=by
 unfold Op.floatArith;repeat' first
  |exact qY _
  |exact qX
  |exact tm_choose _
  |refine qZ ?_ (fun _=>?_)
  |refine qW ?_
  |split
  |dsimp only
theorem tm_floatCmp(o:BinOp)(k:FloatKind)(x y:Nat):Tm P (Op.floatCmp o k x y):=by
 unfold Op.floatCmp;repeat' first
  |exact qY _
  |exact qX
  |refine qZ ?_ (fun _=>?_)
  |refine qW ?_
  |split
  |dsimp only
theorem tm_stringOp(o:BinOp)(x y:ByteArray):Tm P (Op.stringOp o x y):=by
 unfold Op.stringOp;repeat' first
  |exact qY _
  |exact qX
  |exact tm_unsup (by intro g h;cases h)
  |refine qZ ?_ (fun _=>?_)
  |refine qW ?_
  |split
  |dsimp only
theorem tm_unary(o:UnOp)(x:Value):Tm P (Op.unary o x):=by
 unfold Op.unary;repeat' first
  |exact qY _
  |exact qX
  |exact tm_unsup (by intro g h;cases h)
  |refine qZ ?_ (fun _=>?_)
  |refine qW ?_
  |split
  |dsimp only
theorem tm_f2f(s:FloatKind)(x:Nat)(d:FloatKind):Tm P (Conv.floatToFloat s x d):=by
 unfold Conv.floatToFloat;repeat' first
  |exact qY _
  |exact tm_choose _
  |refine qZ ?_ (fun _=>?_)
  |refine qW ?_
  |split
  |dsimp only
theorem tm_carith(o:BinOp)(k:FloatKind)(x y:Nat):Tm P (Op.Complex.arith o k x y):=by
 unfold Op.Complex.arith;repeat' first
  |exact qY _
  |exact qX
  |exact tm_floatArith _ _ _ _
  |refine qZ ?_ (fun _=>?_)
  |refine qW ?_
  |split
  |dsimp only
theorem tm_ccmp(o:BinOp)(k:FloatKind)(x y:Nat):Tm P (Op.Complex.cmp o k x y):=by
 unfold Op.Complex.cmp;repeat' first
  |exact tm_asBool _
  |exact tm_floatCmp _ _ _ _
  |refine qZ ?_ (fun _=>?_)
  |refine qW ?_
  |split
  |dsimp only
theorem tm_cconv(k:FloatKind)(x:Nat)(d:FloatKind):Tm P (Op.Complex.conv k x d):=by
 unfold Op.Complex.conv;repeat' first
  |exact qY _
  |exact qX
  |exact tm_f2f _ _ _
  |refine qZ ?_ (fun _=>?_)
  |refine qW ?_
  |split
  |dsimp only
theorem tm_cadd(x y:Nat):Tm P (Op.Complex.add x y):=tm_carith _ _ _ _
theorem tm_csub(x y:Nat):Tm P (Op.Complex.sub x y):=tm_carith _ _ _ _
theorem tm_cmul(x y:Nat):Tm P (Op.Complex.mul x y):=tm_carith _ _ _ _
theorem tm_cquo(x y:Nat):Tm P (Op.Complex.quo x y):=tm_carith _ _ _ _
theorem tm_cproduct(a b c d:Nat):Tm P (Op.Complex.product a b c d):=by
 unfold Op.Complex.product;repeat' first
  |with_reducible exact qY _
  |with_reducible exact tm_cmul _ _
  |with_reducible exact tm_cadd _ _
  |with_reducible exact tm_csub _ _
  |with_reducible refine qZ ?_ (fun _=>?_)
  |split
  |dsimp only
theorem tm_ccorrected(s a b c d:Nat):Tm P (Op.Complex.corrected s a b c d):=by
 unfold Op.Complex.corrected;repeat' first
  |with_reducible exact qY _
  |with_reducible exact tm_cmul _ _
  |with_reducible exact tm_cadd _ _
  |with_reducible exact tm_csub _ _
  |with_reducible refine qZ ?_ (fun _=>?_)
  |split
  |dsimp only
theorem tm_cquotient(a b c d:Nat):Tm P (Op.Complex.quotient a b c d):=by
 unfold Op.Complex.quotient;repeat' first
  |with_reducible exact qY _
  |with_reducible exact tm_cmul _ _
  |with_reducible exact tm_cadd _ _
  |with_reducible exact tm_csub _ _
  |with_reducible exact tm_cquo _ _
  |with_reducible exact tm_ccmp _ _ _ _
  |with_reducible exact tm_ccorrected _ _ _ _ _
  |with_reducible refine qZ ?_ (fun _=>?_)
  |split
  |dsimp only
theorem tm_complexOp(o:BinOp)(k:FloatKind)(a b c d:Nat):Tm P (Op.complexOp o k a b c d):=by
 unfold Op.complexOp;repeat' first
  |with_reducible exact qY _
  |with_reducible exact qX
  |with_reducible exact tm_carith _ _ _ _
  |with_reducible exact tm_ccmp _ _ _ _
  |with_reducible exact tm_cconv _ _ _
  |with_reducible exact tm_cproduct _ _ _ _
  |with_reducible exact tm_cquotient _ _ _ _
  |with_reducible refine qZ ?_ (fun _=>?_)
  |split
  |dsimp only
theorem no_cell(P:Program)(d:Nat)(e:TypeId)(off:Nat)(n:Int):cellAtBytes P d e 0 off n=none:=by
 unfold cellAtBytes;dsimp only;split
 ·rfl
 ·cases byteOfCell P d e (off%P.cellsOf e)with
  |none=>rfl
  |some b=>
   dsimp only[Option.bind_eq_bind,Option.bind_some];rw[if_pos]
   ·rfl
   ·simp only[Nat.zero_mul,Bool.or_eq_true,decide_eq_true_eq];have:(Int.ofNat 0)=0:=rfl;omega
theorem tm_unsafeAdd(ts:Array TypeId)(t:TypeId)(xs:Array Value):Tm P (Builtin.unsafeAdd_ ts t xs):=by
 rcases Classical.em (∃p l,xs=#[.pointer p,l])with⟨p,l,rfl⟩|hn
 ·unfold Builtin.unsafeAdd_;dsimp only;refine qZ (tm_asInt _) fun n=>?_;split
  ·split
   ·refine qZ (tm_viewAt _) fun _=>?_;split
    ·exact tm_unsupB (by intro g h;cases h)
    ·exact qY _
   ·exact tm_unsupB (by intro g h;cases h)
  ·split
   ·exact tm_unsupB (by intro g h;cases h)
   ·split
    ·rename_i a;refine .shapeD a.block (fun e w=>?_) fun x=>?_
     ·refine⟨.unsupported (.unsafePointer "Add"),w,?_,trivial⟩
      show(match cellAtBytes P P.depth e (0/P.cellsOf e) a.off n with
           |some off=>pure (Value.pointer (some {block:=a.block,off:=off,spot:=a.spot}))
           |none=>unsupported (Unsupported.unsafePointer "Add"):Sem Value).run P w=_
      rw[Nat.zero_div,no_cell];rfl
     ·cases x with
      |none=>exact tm_unsup (by intro g h;cases h)
      |some x=>
       show Tm P (program >>= fun p=>_);refine qZ tm_program fun _=>?_;split
       ·exact qY _
       ·exact tm_unsup (by intro g h;cases h)
    ·exact tm_unsup (by intro g h;cases h)
 ·obtain⟨l⟩:=xs;match l,hn with
  | [],_=>exact qX
  | [x],_=>cases x<;>exact qX
  |[x,y],hn=>
   cases x with
   |pointer p=>exact absurd ⟨p,y,rfl⟩ hn
   |_=>exact qX
  |x::_::_::_,_=>cases x<;>exact qX
theorem tm_asNumber(a:Addr)(l:Bool):Tm P (asNumber a l):=by
 unfold asNumber;repeat' first
  |exact qY _
  |exact tm_newObj trivial
  |refine qZ ?_ (fun _=>?_)
  |refine qW ?_
  |split
  |dsimp only
theorem tm_movedNumber(t:TypeId)(x y:Value):Tm P (movedNumber t x y):=by
 unfold movedNumber;repeat' first
  |exact qY _
  |exact tm_unsup (by intro g h;cases h)
  |exact qK _
  |exact tm_behind _
  |exact tm_unsafeAdd _ _ _
  |exact tm_asNumber _ _
  |refine qZ ?_ (fun _=>?_)
  |refine qW ?_
  |split
  |dsimp only
theorem tm_movedPointer(t:TypeId)(x y:Value):Tm P (movedPointer t x y):=by
 unfold movedPointer;repeat' first
  |exact tm_unsup (by intro g h;cases h)
  |exact tm_numberAt _
  |exact tm_unsafeAdd _ _ _
  |refine qZ ?_ (fun _=>?_)
  |refine qW ?_
  |split
  |dsimp only
def tyEq(P:Program):Nat->TypeId->Bool
 |0,_=>false
 |d+1,t=>match P.underlying t with
  |some (.int _)|some .bool|some .string=>true
  |some (.struct fs)=>fs.toList.all fun f=>tyEq P d f.type
  |_=>false
def tyPt(P:Program)(t:TypeId):Bool:=match P.underlying t with
 |some (.pointer _)|some (.interface _)|some (.slice _)|some (.map _ _)|some (.func _ _ _)=>true
 |_=>false
def nilV:Value->Bool
 | .pointer none| .nilIface| .slice none _ _| .map none| .nilFunc=>true
 |_=>false
theorem tm_forIn{α β:Type}{f:α->β->Sem (ForInStep β)}:∀(l:List α) (b:β),(∀a,a∈l->∀b,Tm P (f a b))->Tm P (forIn l b f)
 | [],b,_=>by rw[List.forIn_nil];exact qY _
 |a::l,b,h=>by
  rw[List.forIn_cons];refine qZ (h a (List.mem_cons_self ..) b) fun x=>?_;cases x with
  |done b=>exact qY _
  |yield b=>exact tm_forIn l b fun a ha=>h a (List.mem_cons_of_mem _ ha)
theorem tm_equalIn:∀(d:Nat) (t:TypeId),tyEq P d t=true->∀(n:Nat) (x y:Value),Tm P (Op.equalIn n t x y)
 |0,_,h=>by cases h
 |d+1,t,h=>by
  intro n x y;cases n with
  |zero=>exact tm_unsup (by intro g h;cases h)
  |succ n=>
   unfold Op.equalIn;unfold tyEq at h;cases hd:P.underlying t with
   |none=>rw[hd]at h;cases h
   |some D=>
    rw[hd]at h;refine tm_under hd ?_;split;all_goals first
     |(cases h;done)
     |with_reducible exact qY _
     |with_reducible exact qX
     |exact tm_unsup (by intro g h;cases h)
     |skip
    ·split
     ·exact qY _
     ·exact qX
    ·refine qZ (tm_behind _) fun _=>?_;refine qZ (tm_behind _) fun _=>?_;dsimp only;refine qZ tm_program fun _=>?_;split
     ·refine qZ (tm_byteOf _) fun _=>?_;exact qZ (tm_byteOf _) fun _=>qY _
     ·refine qZ (tm_typeInfo _) fun _=>?_;split
      ·split
       ·exact qY _
       ·exact tm_unsup (by intro g h;cases h)
      ·exact tm_unsup (by intro g h;cases h)
    ·refine qZ tm_program fun _=>?_;dsimp only;split
     ·exact tm_unsupB (by intro g h;cases h)
     ·refine qZ ?_ fun s=>?_
      ·rw[<-Array.forIn_toList];refine tm_forIn _ _ fun f hf b=>?_;have hq:=List.all_eq_true.1 h f hf;split
       ·refine qZ (tm_part _ _ _) fun _=>?_;refine qZ (tm_part _ _ _) fun _=>?_;refine qZ (tm_equalIn d f.type hq n _ _) fun _=>?_;split<;>exact qY _
       ·exact qY _
      ·split<;>exact qY _
theorem tm_equalNil(t:TypeId)(h:tyPt P t=true)(n:Nat)(x y:Value)(hn:nilV x=true\/nilV y=true):Tm P (Op.equalIn n t x y):=by
 cases n with
 |zero=>exact tm_unsup (by intro g h;cases h)
 |succ n=>
  unfold Op.equalIn;unfold tyPt at h;cases hd:P.underlying t with
  |none=>rw[hd]at h;cases h
  |some D=>
   rw[hd]at h;refine tm_under hd ?_;split;all_goals first
    |(cases h;done)
    |with_reducible exact qY _
    |with_reducible exact qX
    |(rcases hn with hn|hn<;>cases hn;done)
end Go.Poi
namespace Go.Poi
open Go.Ren
variable {P:Program}
def nilO:Operand->Bool
 | .const v=>nilV v
 |_=>false
def eqT(P:Program)(t:TypeId)(x y:Operand):Bool:=(tyEq P 5 t&& !P.eqGuardType P.depth t)||(tyPt P t&&(nilO x||nilO y))
theorem tm_ite{α:Type}{c:Prop}[Decidable c]{s s':Sem α}(h:Tm P s)(h':Tm P s'):Tm P (if c then s else s'):=by split<;>assumption
theorem tm_prog{α:Type}{f:Program->Sem α}(h:Tm P (f P)):Tm P (program >>= f):=.program h
theorem tm_guardNil(n:Nat)(t:TypeId):Tm P (Op.eqGuardIn n t .nilIface .nilIface):=by
 cases n with
 |zero=>exact tm_unsup (by intro g h;cases h)
 |succ n=>
  unfold Op.eqGuardIn;refine qZ (qK _) fun d=>?_;cases d<;>exact qY _
theorem nilO_val{ρ:Operand->Value}(hρ:∀v,ρ (.const v)=v){x:Operand}(h:nilO x=true):nilV (ρ x)=true:=by
 cases x with
 |const v=>rw[hρ];exact h
 |_=>cases h
theorem tm_eqGuard{ρ:Operand->Value}(hρ:∀v,ρ (.const v)=v)(op:BinOp){t:TypeId}{x y:Operand}(h:eqT P t x y=true):Tm P (eqGuard op t x y (ρ x) (ρ y)):=by
 unfold eqT at h;simp only[Bool.or_eq_true,Bool.and_eq_true,Bool.not_eq_true']at h;have hn:(P.eqGuardType P.depth t=false)\/nilV (ρ x)=true\/nilV (ρ y)=true:=by
  rcases h with h|⟨_,h|h⟩
  ·exact .inl h.2
  ·exact .inr (.inl (nilO_val hρ h))
  ·exact .inr (.inr (nilO_val hρ h))
 unfold eqGuard;generalize ρ x=a at hn;generalize ρ y=b at hn;refine tm_ite (qY _) ?_;cases a<;>cases b<;>first|exact qY _|skip
 ·dsimp only;refine tm_ite (qY _) ?_;refine qZ (tm_guardNil _ _) fun _=>?_;split
  ·exact tm_unsup (by intro g h;cases h)
  ·exact qY _
 ·rcases hn with hn|hn|hn
  ·dsimp only;refine tm_prog ?_;refine tm_prog ?_;rw[hn];exact qY _
  ·cases hn
  ·cases hn
theorem tm_equal{ρ:Operand->Value}(hρ:∀v,ρ (.const v)=v){t:TypeId}{x y:Operand}(h:eqT P t x y=true):Tm P (Op.equal t (ρ x) (ρ y)):=by
 unfold eqT at h;simp only[Bool.or_eq_true,Bool.and_eq_true]at h;rcases h with h|⟨h1,h|h⟩
 ·exact tm_equalIn _ _ h.1 _ _ _
 ·exact tm_equalNil _ h1 _ _ _ (.inl (nilO_val hρ h))
 ·exact tm_equalNil _ h1 _ _ _ (.inr (nilO_val hρ h))
theorem tm_binOp(op:BinOp)(t:TypeId)(x y:Value)(hE:op= .eql\/op= .neq->Tm P (Op.equal t x y)):Tm P (binOp op t x y):=by
 unfold binOp;split;all_goals first
  |with_reducible exact tm_shift _ _ _ _ _
  |with_reducible exact tm_stringOp _ _ _
  |with_reducible exact tm_movedNumber _ _ _
  |with_reducible exact qX
  |exact tm_unsup (by intro g h;cases h)
  |skip
 ·split
  ·exact qX
  ·split;all_goals first
    |with_reducible exact tm_intArith _ _ _ _
    |with_reducible exact tm_intDiv _ _ _ _
    |with_reducible exact tm_intBits _ _ _ _
    |with_reducible exact tm_intCmp _ _ _
 ·split
  ·exact qX
  ·split;all_goals first
    |with_reducible exact tm_floatArith _ _ _ _
    |with_reducible exact tm_floatCmp _ _ _ _
 ·split
  ·exact qX
  ·exact tm_complexOp _ _ _ _ _ _
 ·exact qZ (hE (.inl rfl)) fun _=>qY _
 ·exact qZ (hE (.inr rfl)) fun _=>qY _
 ·refine qZ (qK _) fun _=>?_;split
  ·exact tm_movedPointer _ _ _
  ·exact tm_movedNumber _ _ _
 all_goals
  refine qZ (tm_behind _) fun _=>?_
  first
   |with_reducible exact tm_addrMod _ _ _
   |(refine qZ (tm_behind _) fun _=>?_
     first|with_reducible exact tm_addrSub _ _ _|with_reducible exact tm_addrCmp _ _ _)
def convT(P:Program)(s t:TypeId):Bool:=match P.underlying s,P.underlying t with
 |some (.int _),some (.int _)|some .string,some .string=>true
 |some (.slice e),some .string|some .string,some (.slice e)=>(match P.underlying e with|some (.int .u8)=>true|_=>false)
 |some (.slice _),some (.slice e)=>s==t&&(match P.underlying e with|some (.int .u8)=>true|_=>false)
 |_,_=>false
theorem tm_markS(a:Addr)(v:Value):Tm P (do markStringish a;Pure.pure v):=.stringish a.block (fun _ _=>rfl) (qY _) (qY _)
theorem tm_stringToBytes(e:TypeId)(s:ByteArray):Tm P (Conv.stringToBytes e s):=by
 unfold Conv.stringToBytes;refine qZ (tm_choose _) fun _=>?_;refine .newShape _ trivial fun n x=>?_;cases x with
 |none=>exact qY _
 |some x=>exact .freeze _ _ (qY _)
theorem tm_bytesToString(x:Value):Tm P (Conv.bytesToString x):=by
 unfold Conv.bytesToString;split
 ·exact qY _
 ·refine qZ (tm_loadCells _ _) fun c=>?_;refine qZ ?_ fun _=>qY _;rw[<-Array.forIn_toList];refine tm_forIn _ _ fun a _ b=>?_;split
  ·exact qY _
  ·exact qX
 ·exact qX
theorem tm_floatToInt(k:FloatKind)(n:Nat)(j:IntKind):Tm P (Conv.floatToInt k n j):=by
 unfold Conv.floatToInt;dsimp only;split
 ·split
  ·exact qY _
  ·exact qZ (tm_choose _) fun _=>qY _
 ·exact qZ (tm_choose _) fun _=>qY _
theorem tm_convert{s t:TypeId}(h:convT P s t=true)(x:Value):Tm P (convert s t x):=by
 unfold convT at h;unfold convert;cases hs:P.underlying s with
 |none=>rw[hs]at h;cases h
 |some S=>
  cases ht:P.underlying t with
  |none=>rw[hs,ht]at h;cases S<;>cases h
  |some T=>
   rw[hs,ht]at h;refine tm_under hs (tm_under ht ?_);split;all_goals first
    |(cases h;done)
    |with_reducible exact qY _
    |with_reducible exact tm_floatToInt _ _ _
    |exact tm_unsup (by intro g h;cases h)
    |skip
   ·exact qY _
   ·cases S<;>cases h
   ·cases S<;>cases h
   ·cases S<;>cases h
   ·exact qY _
   ·rename_i e _;have hu:P.underlying e=some (.int .u8):=by
     cases S<;>first|(cases h;done)|skip
     all_goals dsimp only at h
     all_goals try simp only[Bool.and_eq_true]at h
     all_goals first
      |(split at h
        ·assumption
        ·cases h)
      |(obtain⟨_,h⟩:=h
        split at h
        ·assumption
        ·cases h)
    exact tm_under hu (tm_stringToBytes _ _)
   ·refine qZ (qK _) fun _=>?_;split
    ·exact tm_markS _ _
    ·exact tm_unsup (by intro g h;cases h)
   ·dsimp only at h;split at h
    ·rename_i hu;exact tm_under hu (tm_bytesToString _)
    ·cases h
   ·cases S<;>cases h
def mapT(P:Program)(t:TypeId):Bool:=match P.underlying t with
 |some (.map k _)=>(match P.underlying k with|some (.int _)=>true|_=>false)
 |_=>false
theorem tm_checkKey{k:TypeId}{i:IntKind}(h:P.underlying k=some (.int i))(b:Bool)(n:Nat)(v:Value):Tm P (Instr.checkKey b n k v):=by
 cases n with
 |zero=>exact tm_unsup (by intro g h;cases h)
 |succ n=>
  unfold Instr.checkKey;refine tm_under h ?_;cases v<;>exact qY _
theorem tm_findAsking{k:TypeId}{i:IntKind}(h:P.underlying k=some (.int i))(v:Value):∀(l:List MapEntry) (n:Nat),Tm P (Instr.findAsking k v l n)
 | [],_=>qY _
 |e::l,n=>by
  unfold Instr.findAsking;refine qZ (tm_equalIn 1 k (by simp[tyEq,h]) _ _ _) fun _=>?_;split
  ·exact qY _
  ·exact tm_findAsking h v l _
theorem tm_findKey{k:TypeId}{i:IntKind}(h:P.underlying k=some (.int i))(v:Value)(l:List MapEntry):Tm P (Instr.findKey k v l):=by
 unfold Instr.findKey;refine qZ (qK _) fun _=>?_;split
 ·exact qY _
 ·exact tm_findAsking h v l _
theorem mapT_ok{t:TypeId}(h:mapT P t=true):∃k e i,P.underlying t=some (.map k e)/\P.underlying k=some (.int i):=by
 unfold mapT at h;split at h
 ·split at h
  ·exact⟨_,_,_,‹_›,‹_›⟩
  ·cases h
 ·cases h
theorem tm_lookup{t:TypeId}(h:mapT P t=true)(x i:Value)(b:Bool):Tm P (Instr.lookup t x i b):=by
 obtain⟨k,e,j,h1,h2⟩:=mapT_ok h;unfold Instr.lookup;refine tm_under h1 ?_;dsimp only;repeat' first
  |exact tm_checkKey h2 _ _ _
  |exact tm_findKey h2 _ _
  |exact qY _
  |exact qX
  |exact tm_getObj _
  |exact tm_zeroValue _
  |refine qZ ?_ (fun _=>?_)
  |refine qW ?_
  |split
  |dsimp only
theorem tm_keyThatStays(x y:Value):Tm P (Instr.keyThatStays x y):=by
 unfold Instr.keyThatStays;split
 ·exact qY _
 ·exact qZ (tm_choose _) fun _=>qY _
theorem tm_mapUpdate{t:TypeId}(h:mapT P t=true)(m k v:Value):Tm P (Instr.mapUpdate t m k v):=by
 obtain⟨kt,e,j,h1,h2⟩:=mapT_ok h;unfold Instr.mapUpdate;refine tm_under h1 ?_;dsimp only;split
 ·exact tm_runtimePanic _
 ·refine qZ (tm_getObj _) fun _=>?_;split
  ·refine qZ (tm_checkKey h2 _ _ _) fun _=>?_;refine qZ (tm_findKey h2 _ _) fun r=>?_;split
   ·refine qZ (tm_keyThatStays _ _) fun _=>?_;exact tm_setObj trivial
   ·exact tm_setObj trivial
  ·exact qX
 ·exact qX
theorem tm_makeMap(t:TypeId)(r:Option Value):Tm P (Instr.makeMap t r):=by
 unfold Instr.makeMap;repeat' first
  |exact qY _
  |exact qX
  |exact tm_newObj trivial
  |exact qK _
  |exact tm_asInt _
  |refine qZ ?_ (fun _=>?_)
  |refine qW ?_
  |split
  |dsimp only
theorem tm_makeInterface(t:TypeId)(x:Value):Tm P (Instr.makeInterface t x):=by
 unfold Instr.makeInterface;repeat' first
  |exact qY _
  |exact qX
  |exact qK _
  |refine qZ ?_ (fun _=>?_)
  |refine qW ?_
  |split
  |dsimp only
theorem tm_typeAssert(x:Value)(s t:TypeId)(b:Bool):Tm P (Instr.typeAssert x s t b):=by
 unfold Instr.typeAssert;repeat' first
  |exact qY _
  |exact qX
  |exact tm_typeInfo _
  |exact qK _
  |exact tm_zeroValue _
  |exact tm_runtimePanic _
  |refine qZ ?_ (fun _=>?_)
  |refine qW ?_
  |split
  |dsimp only
theorem tm_lenOf(x:Value):Tm P (Builtin.lenOf x):=by
 unfold Builtin.lenOf;repeat' first
  |exact qY _
  |exact qX
  |refine qZ ?_ (fun _=>?_)
  |refine qW ?_
  |split
  |dsimp only
theorem tm_firstCells(s n:Nat)(x:Value):Tm P (Builtin.firstCells s n x):=by
 unfold Builtin.firstCells;repeat' first
  |exact qY _
  |exact qX
  |exact tm_loadCells _ _
  |refine qZ ?_ (fun _=>?_)
  |refine qW ?_
  |split
  |dsimp only
theorem tm_copy(ts:Array TypeId)(t:TypeId)(xs:Array Value):Tm P (Builtin.copy_ ts t xs):=by
 unfold Builtin.copy_;repeat' first
  |exact qY _
  |exact qX
  |exact qK _
  |exact tm_sizeOf _
  |exact tm_storeCells _ _ _
  |exact tm_lenOf _
  |exact tm_firstCells _ _ _
  |refine qZ ?_ (fun _=>?_)
  |refine qW ?_
  |split
  |dsimp only
theorem tm_len(ts:Array TypeId)(t:TypeId)(xs:Array Value):Tm P (Builtin.len_ ts t xs):=by
 unfold Builtin.len_;repeat' first
  |exact qY _
  |exact qX
  |exact tm_getObj _
  |exact qK _
  |refine qZ ?_ (fun _=>?_)
  |refine qW ?_
  |split
  |dsimp only
theorem tm_max2(x y:Value):Tm P (Builtin.max2 x y):=by
 unfold Builtin.max2;repeat' first
  |exact qY _
  |exact qX
  |exact tm_unsup (by intro g h;cases h)
  |exact tm_choose _
  |refine qZ ?_ (fun _=>?_)
  |refine qW ?_
  |split
  |dsimp only
theorem tm_foldlM{α β:Type}{f:β->α->Sem β}(h:∀b a,Tm P (f b a)):∀(l:List α) (b:β),Tm P (l.foldlM f b)
 | [],_=>qY _
 |a::l,b=>by
  rw[List.foldlM_cons];exact qZ (h b a) fun b=>tm_foldlM h l b
theorem tm_max(ts:Array TypeId)(t:TypeId)(xs:Array Value):Tm P (Builtin.max_ ts t xs):=by
 unfold Builtin.max_;split
 ·exact qX
 ·exact tm_foldlM tm_max2 _ _
end Go.Poi
namespace Go.Poi
open Go.Ren
variable {P:Program}
theorem holds_ok(a:Addr)(c:Nat)(w:World):∃b,(Builtin.holdsCells a c).run P w= .ok b w:=by
 unfold Builtin.holdsCells;show∃b,(match w.shape? a.block with|some (_,n)=>(Pure.pure (a.spot.isNone&&a.off+c<=n):Sem Bool)|none=>Pure.pure false).run P w= .ok b w;cases w.shape? a.block with
 |none=>exact⟨_,rfl⟩
 |some x=>exact⟨_,rfl⟩
theorem ok_bind{α β:Type}{s:Sem α}{f:α->Sem β}{w:World}{a:α}{b:β}(h:s.run P w= .ok a w)(hf:(f a).run P w= .ok b w):(s >>= f).run P w= .ok b w:=by
 show(s.bind f).run P w=_;rw[run_bind,h];exact hf
theorem share_ok(s l n:Nat)(base:Option Addr)(x:Value)(w:World):∃b,(Builtin.mayShare s l n base x).run P w= .ok b w:=by
 have second:∃b,(match x with| .slice (some b) _ _=>do Pure.pure (!(<-Builtin.holdsCells b (n*s))||base.any (·.block==b.block))|_=>Pure.pure false:Sem Bool).run P w= .ok b w:=by
  split
  ·rename_i b _ _;obtain⟨c,hc⟩:=holds_ok (P:=P) b (n*s) w;exact⟨_,ok_bind hc rfl⟩
  ·exact⟨_,rfl⟩
 unfold Builtin.mayShare;cases base with
 |none=>exact second
 |some a=>
  obtain⟨c,hc⟩:=holds_ok (P:=P) a (l*s) w;cases c with
  |false=>exact⟨true,ok_bind hc rfl⟩
  |true=>
   cases hf:w.frozen? (a.add (l/2*s))with
   |true=>exact⟨true,ok_bind hc (by
     show(Sem.frozen (a.add (l/2*s)) _).run P w=_;simp only[Sem.run,hf];rfl)⟩
   |false=>
    obtain⟨b,hb⟩:=second;exact⟨b,ok_bind hc (by
     show(Sem.frozen (a.add (l/2*s)) _).run P w=_;simp only[Sem.run,hf];exact hb)⟩
theorem tm_share{α:Type}{s l n:Nat}{base:Option Addr}{x:Value}{f:Bool->Sem α}(hf:∀b w,∃h w',(f b).run P w= .halt h w'/\Dead h):Tm P (Builtin.mayShare s l n base x >>= f):=by
 refine .doomed fun w=>?_;obtain⟨b,hb⟩:=share_ok (P:=P) s l n base x w;obtain⟨h,w',h1,h2⟩:=hf b w;refine⟨h,w',?_,h2⟩;show((Builtin.mayShare s l n base x).bind f).run P w=_;rw[run_bind,hb];exact h1
theorem tm_rtB{α β:Type}{m:String}{f:α->Sem β}:Tm P ((runtimePanic (.error m):Sem α) >>= f):=.program (.halt _ (.inl ⟨_,rfl⟩))
theorem tm_append(ts:Array TypeId)(t:TypeId)(xs:Array Value):Tm P (Builtin.append_ ts t xs):=by
 unfold Builtin.append_;repeat' first
  |with_reducible exact qY _
  |with_reducible exact qX
  |with_reducible exact tm_rtB
  |with_reducible exact tm_runtimePanic _
  |with_reducible exact qK _
  |with_reducible exact tm_sizeOf _
  |with_reducible exact tm_typeInfo _
  |with_reducible exact tm_asInt _
  |with_reducible exact tm_lenOf _
  |with_reducible exact tm_choose _
  |with_reducible exact tm_firstCells _ _ _
  |with_reducible exact tm_zeroValue _
  |with_reducible exact tm_storeCells _ _ _
  |with_reducible exact tm_newRow _ _
  |with_reducible exact tm_askRoom _
  |(with_reducible refine tm_share ?_
    exact fun b w=>by cases b<;>exact⟨_,_,rfl,trivial⟩)
  |with_reducible refine tm_ite ?_ ?_
  |with_reducible refine qZ ?_ (fun _=>?_)
  |split
  |dsimp only
theorem tm_places:∀(l:List Field),Tm P (l.mapM fun f=>do Pure.pure (f.offset,<-sizeOf f.type))
 | []=>by rw[List.mapM_nil];exact qY _
 |f::l=>by
  rw[List.mapM_cons];refine qZ (qZ (tm_sizeOf _) fun _=>qY _) fun _=>?_;exact qZ (tm_places l) fun _=>qY _
theorem tm_build(t:TypeId)(ps:Array (Nat×Value)):Tm P (Instr.build t ps):=by
 unfold Instr.build;refine qZ (tm_zeroValue _) fun _=>?_;refine qZ (qK _) fun _=>?_;split
 ·refine qZ ?_ fun _=>?_
  ·rw[Array.mapM_eq_mapM_toList];exact qW (tm_places _)
  ·split
   ·exact qY _
   ·exact qX
 ·refine qZ (tm_sizeOf _) fun _=>?_;split
  ·exact qY _
  ·exact qX
 ·exact qX
theorem tm_makeNoZero(ps rs:Array TypeId)(xs:Array Value):Tm P (Extern.BytealgMakeNoZero.makeNoZero ps rs xs):=by
 rcases Classical.em (∃n,xs=#[.int .i64 n])with⟨n,rfl⟩|hn
 ·unfold Extern.BytealgMakeNoZero.makeNoZero;dsimp only;cases rs[0]? with
  |none=>exact qX
  |some t=>
   dsimp only;refine qZ (qK _) fun d=>?_;split
   ·refine tm_ite tm_rtB ?_;refine qZ (tm_choose _) fun _=>?_;refine qZ (tm_askRoom _) fun _=>?_;refine qZ (tm_choose _) fun _=>?_;exact qZ (tm_newRow _ _) fun _=>qY _
   ·exact qX
 ·obtain⟨l⟩:=xs;match l,hn with
  | [],_=>exact qX
  |[x],hn=>
   cases x with
   |int k n=>cases k<;>first|exact qX|exact absurd ⟨_,rfl⟩ hn
   |_=>exact qX
  |_::_::_,_=>exact qX
theorem tm_followBlind:∀(l:List FieldStep) (t:TypeId) (x:Option Value),Tm P (followBlind l t x)
 | [],_,_=>qY _
 |s::l,t,x=>by
  unfold followBlind;refine qZ (qK _) fun _=>?_;split
  ·split
   ·split
    ·exact qY _
    ·exact tm_followBlind l _ _
    ·exact qX
    ·exact qY _
    ·exact qZ (tm_part _ _ _) fun _=>tm_followBlind l _ _
    ·exact qX
    ·exact tm_followBlind l _ _
   ·exact qX
  ·exact qX
theorem tm_nilAhead:∀(n:Nat) (t:TypeId) (v:Value) (s:String),Tm P (nilAhead n t v s)
 |0,_,_,_=>qY _
 |n+1,t,v,s=>by
  unfold nilAhead;refine qZ (tm_typeInfo _) fun _=>?_;split
  ·refine qZ (tm_followBlind _ _ _) fun _=>?_;split
   ·exact qY _
   ·split
    ·exact tm_nilAhead n _ _ _
    ·exact qY _
    ·exact qX
    ·exact qY _
    ·exact qY _
    ·refine qZ (qK _) fun _=>?_;split<;>exact qY _
  ·exact qX
def callT(P:Program)(X:FuncId->Bool)(c:Call):Bool:=
 match c.callee with
 | .builtin .len| .builtin .append| .builtin .copy| .builtin .max=>true
 | .value (.func f)=>X f||(match P.funcs[f]? with|some fn=>fn.name != "runtime.NumGoroutine" &&fn.body.isSome|none=>false)
 |_=>false
def opT(P:Program)(X:FuncId->Bool)(o:Oper):Bool:=
 match o.op with
 | .move _| .assign _| .pick _ _ _| .alloc _| .box _ _| .build _ _| .buildSlice _ _ _| .load _ _| .store _ _ _=>true
 | .binOp op t x y _=>(match op with| .eql| .neq=>eqT P t x y|_=>true)
 | .unOp _ _ _=>true
 | .convert s t _=>convT P s t
 | .makeInterface _ _| .makeMap _ _| .makeSlice _ _ _| .slice _ _ _ _ _| .fieldAddr _ _ _| .field _ _ _| .indexAddr _ _ _=>true
 | .lookup t _ _ _| .mapUpdate t _ _ _=>mapT P t
 | .typeAssert _ _ _ _| .extract _ _| .nilCheck _=>true
 | .call c=>callT P X c
 |_=>false
theorem tm_value{s:Sem Value}(h:Tm P s):Tm P (do Pure.pure (Next.value (<-s))):=qZ h fun _=>qY _
theorem tm_unit{s:Sem Unit}(h:Tm P s):Tm P (do s;Pure.pure Next.skip):=qZ h fun _=>qY _
theorem tm_guardNo(op:BinOp)(t:TypeId)(x y:Operand)(a b:Value)(h:op≠.eql)(h':op≠.neq):Tm P (eqGuard op t x y a b):=by
 unfold eqGuard;cases op<;>first|exact absurd rfl h|exact absurd rfl h'|exact qY _
theorem tm_callFunc{X:FuncId->Bool}(hX:∀f,X f=true->∀xs:Array Value,Tm P (callFunc f xs)){f:FuncId}(h:(X f||(match P.funcs[f]? with|some fn=>fn.name != "runtime.NumGoroutine" &&fn.body.isSome|none=>false))=true)(xs:Array Value):Tm P (callFunc f xs):=by
 cases hx:X f with
 |true=>exact hX f hx xs
 |false=>
  rw[hx,Bool.false_or]at h;unfold callFunc;refine tm_prog ?_;cases hn:P.funcs[f]? with
  |none=>rw[hn]at h;cases h
  |some fn=>
   rw[hn]at h;simp only[Bool.and_eq_true,bne_iff_ne,ne_eq,Option.isSome_iff_ne_none]at h;have h1:(fn.name== "runtime.NumGoroutine")=false:=by simpa using h.1
   have h2:fn.body.isNone=false:=by cases hb:fn.body with|none=>exact absurd hb h.2|some _=>rfl
   simp only[h1,h2,Bool.false_eq_true,if_false];exact qY _
theorem tm_op{X:FuncId->Bool}(hX:∀f,X f=true->∀xs:Array Value,Tm P (callFunc f xs)){ρ:Operand->Value}(hρ:∀v,ρ (.const v)=v)(hf:∀f,ρ (.func f)= .func (.func f) #[] #[]){o:Oper}(h:opT P X o=true):Tm P (execOp ρ o):=by
 unfold opT at h;unfold execOp;dsimp only;split<;>rename_i ho<;>rw[ho]at h<;>dsimp only at h;all_goals first
  |(cases h;done)
  |with_reducible exact qY _
  |exact tm_value (tm_alloc _ _ _)
  |exact tm_value (tm_box _ _)
  |exact tm_value (tm_build _ _)
  |exact tm_value (tm_buildSlice _ _ _)
  |exact tm_value (tm_loadAt _ _)
  |exact tm_unit (tm_storeAt _ _ _)
  |exact tm_value (tm_unary _ _)
  |exact tm_value (tm_convert h _)
  |exact tm_value (tm_makeInterface _ _)
  |exact tm_value (tm_makeMap _ _)
  |exact tm_value (tm_makeSlice _ _ _)
  |exact tm_value (tm_sliceAt _ _ _ _ _)
  |exact tm_value (tm_fieldAt _ _ _)
  |exact tm_value (tm_field _ _ _)
  |exact tm_value (tm_indexAt _ _ _)
  |exact tm_value (tm_lookup h _ _ _)
  |exact tm_unit (tm_mapUpdate h _ _ _)
  |exact tm_value (tm_typeAssert _ _ _ _)
  |exact tm_value (tm_extract _ _)
  |skip
 ·exact qZ (tm_asBool _) fun _=>qY _
 ·split
  ·exact tm_runtimePanic _
  ·exact tm_runtimePanic _
  ·exact tm_runtimePanic _
  ·split
   ·exact tm_runtimePanic _
   ·refine qZ tm_program fun _=>?_;refine qZ (tm_nilAhead _ _ _ _) fun _=>?_;split
    ·exact tm_unsupB (by intro g h;cases h)
    ·exact qY _
   ·exact qY _
  ·exact qY _
 ·rename_i op t x y _;rcases Classical.em (op= .eql\/op= .neq)with hq|hq
  ·have hT:eqT P t x y=true:=by rcases hq with rfl|rfl<;>exact h
   exact tm_value (qZ (tm_eqGuard hρ _ hT) fun _=>tm_binOp _ _ _ _ fun _=>tm_equal hρ hT)
  ·exact tm_value (qZ (tm_guardNo _ _ _ _ _ _ (fun e=>hq (.inl e)) (fun e=>hq (.inr e))) fun _=>tm_binOp _ _ _ _ fun e=>absurd e hq)
 ·rename_i c;obtain⟨callee,args,argTypes⟩:=c;unfold callT at h;dsimp only at h;cases callee with
  |builtin b=>
   cases b<;>first
    |(cases h;done)
    |exact tm_value (tm_len _ _ _)
    |exact tm_value (tm_append _ _ _)
    |exact tm_value (tm_copy _ _ _)
    |exact tm_value (tm_max _ _ _)
  |invoke r n=>cases h
  |value x=>
   cases x with
   |func f=>
    show Tm P ((Deferred.ofValue (ρ (.func f)) (args.map ρ)) >>= fun d=>invoke d.target d.args);rw[hf];exact tm_callFunc hX h _
   |_=>cases h
end Go.Poi
