import Derived.Test.YtmfpiodlecapiaaGreatDoorJ07
namespace Go.eO
open Go.Ren
variable {P:Program}
theorem rE{α:Type}{r:Nat}{k:Option (TypeId×Nat)->Sem α}(he:∀e n m,k (some (e,n))=k (some (e,m)))(h:∀x,Tm P (k x)):Tm P (shape r >>= k):=
 .shape r (fun x y e=>by
  cases x with
  |none=>cases y with|none=>rfl|some y=>cases e
  |some x=>cases y with
   |none=>cases e
   |some y=>
    obtain⟨x1,x2⟩:=x;obtain⟨y1,y2⟩:=y;obtain rfl:x1=y1:=Option.some.inj e;exact he _ _ _) fun x=>h x
theorem dY{α:Type}{t:TypeId}{d:TypeDesc}(h:P.underlying t=some d){f:TypeDesc->Sem α}(hf:Tm P (f d)):Tm P (underlying t >>= f):=by
 refine .program ?_;show Tm P ((match P.underlying t with|some d=>Pure.pure d|none=>stuck "no such type" :Sem TypeDesc).bind f);rw[h];exact hf
theorem jE{α β:Type}{y:Unsupported}{f:α->Sem β}(h:∀g,y≠.initOrder g):Tm P ((unsupported y:Sem α) >>= f):=.halt _ (.inr (.inr ⟨_,rfl,h⟩))
theorem sZ(r:Nat):Tm P (viewAt r):=by
 unfold viewAt;refine rE (fun _ _ _=>rfl) fun x=>?_;split
 ·exact ay _
 ·refine au (jG _) fun _=>?_;split<;>exact ay _
theorem uM(r:Nat):Tm P (numberAt r):=by
 unfold numberAt;refine rE (fun _ _ _=>rfl) fun x=>?_;split
 ·exact ay _
 ·refine au (jG _) fun _=>?_;split<;>exact ay _
theorem Ap(a:Addr):Tm P (Go.noView a):=by
 unfold Go.noView;repeat' first
  |exact ay _
  |exact bf (by intro g h;cases h)
  |exact sZ _
  |refine au ?_ (fun _=>?_)
  |refine aK ?_
  |split
  |dsimp only
theorem kZ(a:Addr):Tm P (byteOf a):=by
 unfold byteOf;split
 ·exact ay _
 ·refine au dw fun p=>?_;refine au (Ap _) fun _=>?_;refine rE (fun _ _ _=>rfl) fun x=>?_;repeat' first
   |exact ay _
   |exact aA
   |exact dw
   |exact Ap _
   |refine au ?_ (fun _=>?_)
   |refine aK ?_
   |split
   |dsimp only
theorem MR(a:Addr)(c b:Nat):Tm P (partAt a c b):=by
 unfold partAt;repeat' first
  |exact ay _
  |exact kZ _
  |refine au ?_ (fun _=>?_)
  |refine aK ?_
  |split
  |dsimp only
theorem zD(a:Addr)(f:Field):Tm P (fieldPlace a f):=by
 unfold fieldPlace;repeat' first
  |exact ay _
  |exact bY _
  |exact MR _ _ _
  |refine au ?_ (fun _=>?_)
  |refine aK ?_
  |split
  |dsimp only
theorem Ii(s:TypeId)(x:Value)(f:Nat):Tm P (Instr.fieldAt s x f):=by
 unfold Instr.fieldAt;repeat' first
  |exact ay _
  |exact aA
  |exact aD _
  |exact iT _
  |exact zD _ _
  |refine au ?_ (fun _=>?_)
  |refine aK ?_
  |split
  |dsimp only
theorem P8(s:TypeId)(x:Value)(f:Nat):Tm P (Instr.field s x f):=by
 unfold Instr.field;repeat' first
  |exact aA
  |exact aD _
  |exact rF _ _ _
  |exact Qb _
  |refine au ?_ (fun _=>?_)
  |refine aK ?_
  |split
  |dsimp only
theorem lq(a:Addr):Tm P (behindNumber a):=by
 unfold behindNumber;repeat' first
  |exact ay _
  |exact uM _
  |refine au ?_ (fun _=>?_)
  |refine aK ?_
  |split
  |dsimp only
theorem rC(a b:Addr):Tm P (Op.twoPlaces a b):=by
 unfold Op.twoPlaces;repeat' first
  |exact ay _
  |exact bf (by intro g h;cases h)
  |exact dw
  |exact kZ _
  |refine au ?_ (fun _=>?_)
  |refine aK ?_
  |split
  |dsimp only
theorem Io(k:IntKind)(a b:Addr):Tm P (Op.addrSub k a b):=by
 unfold Op.addrSub;repeat' first
  |exact ay _
  |exact rC _ _
  |refine au ?_ (fun _=>?_)
  |refine aK ?_
  |split
  |dsimp only
theorem Iq(o:BinOp)(a b:Addr):Tm P (Op.addrCmp o a b):=by
 unfold Op.addrCmp;repeat' first
  |exact ay _
  |exact bf (by intro g h;cases h)
  |exact rC _ _
  |refine au ?_ (fun _=>?_)
  |refine aK ?_
  |split
  |dsimp only
theorem Ip(k:IntKind)(a:Addr)(n:Int):Tm P (Op.addrMod k a n):=by
 unfold Op.addrMod;refine rE (fun _ _ _=>rfl) fun x=>?_;repeat' first
  |exact ay _
  |exact bf (by intro g h;cases h)
  |exact dD _
  |exact kZ _
  |refine au ?_ (fun _=>?_)
  |refine aK ?_
  |split
  |dsimp only
theorem Ed(o:BinOp)(k:IntKind)(x y:Int):Tm P (Op.intArith o k x y):=by
 unfold Op.intArith;repeat' first
  |exact ay _
  |exact aA
  |refine au ?_ (fun _=>?_)
  |refine aK ?_
  |split
  |dsimp only
theorem MW(o:BinOp)(k:IntKind)(x y:Int):Tm P (Op.intDiv o k x y):=by
 unfold Op.intDiv;repeat' first
  |exact ay _
  |exact aA
  |exact bD _
  |refine au ?_ (fun _=>?_)
  |refine aK ?_
  |split
  |dsimp only
theorem Ic(o:BinOp)(k:IntKind)(x y:Int):Tm P (Op.intBits o k x y):=by
 unfold Op.intBits;repeat' first
  |exact ay _
  |exact aA
  |refine au ?_ (fun _=>?_)
  |refine aK ?_
  |split
  |dsimp only
theorem PX(o:BinOp)(k:IntKind)(x:Int)(j:IntKind)(y:Int):Tm P (Op.shift o k x j y):=by
 unfold Op.shift;repeat' first
  |exact ay _
  |exact aA
  |exact bD _
  |refine au ?_ (fun _=>?_)
  |refine aK ?_
  |split
  |dsimp only
theorem MX(o:BinOp)(x y:Int):Tm P (Op.intCmp o x y):=by
 unfold Op.intCmp;repeat' first
  |exact ay _
  |exact aA
  |refine au ?_ (fun _=>?_)
  |refine aK ?_
  |split
  |dsimp only
theorem qm(o:BinOp)(k:FloatKind)(x y:Nat):Tm P (Op.floatArith o k x y):=by
 unfold Op.floatArith;repeat' first
  |exact ay _
  |exact aA
  |exact cZ _
  |refine au ?_ (fun _=>?_)
  |refine aK ?_
  |split
  |dsimp only
theorem uO(o:BinOp)(k:FloatKind)(x y:Nat):Tm P (Op.floatCmp o k x y):=by
 unfold Op.floatCmp;repeat' first
  |exact ay _
  |exact aA
  |refine au ?_ (fun _=>?_)
  |refine aK ?_
  |split
  |dsimp only
theorem uK(o:BinOp)(x y:ByteArray):Tm P (Op.stringOp o x y):=by
 unfold Op.stringOp;repeat' first
  |exact ay _
  |exact aA
  |exact bf (by intro g h;cases h)
  |refine au ?_ (fun _=>?_)
  |refine aK ?_
  |split
  |dsimp only
theorem PU(o:UnOp)(x:Value):Tm P (Op.unary o x):=by
 unfold Op.unary;repeat' first
  |exact ay _
  |exact aA
  |exact bf (by intro g h;cases h)
  |refine au ?_ (fun _=>?_)
  |refine aK ?_
  |split
  |dsimp only
theorem XB(s:FloatKind)(x:Nat)(d:FloatKind):Tm P (Conv.floatToFloat s x d):=by
 unfold Conv.floatToFloat;repeat' first
  |exact ay _
  |exact cZ _
  |refine au ?_ (fun _=>?_)
  |refine aK ?_
  |split
  |dsimp only
theorem kY(o:BinOp)(k:FloatKind)(x y:Nat):Tm P (Op.Complex.arith o k x y):=by
 unfold Op.Complex.arith;repeat' first
  |exact ay _
  |exact aA
  |exact qm _ _ _ _
  |refine au ?_ (fun _=>?_)
  |refine aK ?_
  |split
  |dsimp only
theorem Kv(o:BinOp)(k:FloatKind)(x y:Nat):Tm P (Op.Complex.cmp o k x y):=by
 unfold Op.Complex.cmp;repeat' first
  |exact tJ _
  |exact uO _ _ _ _
  |refine au ?_ (fun _=>?_)
  |refine aK ?_
  |split
  |dsimp only
theorem P_(k:FloatKind)(x:Nat)(d:FloatKind):Tm P (Op.Complex.conv k x d):=by
 unfold Op.Complex.conv;repeat' first
  |exact ay _
  |exact aA
  |exact XB _ _ _
  |refine au ?_ (fun _=>?_)
  |refine aK ?_
  |split
  |dsimp only
theorem BQ(x y:Nat):Tm P (Op.Complex.add x y):=kY _ _ _ _
theorem BM(x y:Nat):Tm P (Op.Complex.sub x y):=kY _ _ _ _
theorem BP(x y:Nat):Tm P (Op.Complex.mul x y):=kY _ _ _ _
theorem UQ(x y:Nat):Tm P (Op.Complex.quo x y):=kY _ _ _ _
theorem Ef(a b c d:Nat):Tm P (Op.Complex.product a b c d):=by
 unfold Op.Complex.product;repeat' first
  |with_reducible exact ay _
  |with_reducible exact BP _ _
  |with_reducible exact BQ _ _
  |with_reducible exact BM _ _
  |with_reducible refine au ?_ (fun _=>?_)
  |split
  |dsimp only
theorem zF(s a b c d:Nat):Tm P (Op.Complex.corrected s a b c d):=by
 unfold Op.Complex.corrected;repeat' first
  |with_reducible exact ay _
  |with_reducible exact BP _ _
  |with_reducible exact BQ _ _
  |with_reducible exact BM _ _
  |with_reducible refine au ?_ (fun _=>?_)
  |split
  |dsimp only
theorem BN(a b c d:Nat):Tm P (Op.Complex.quotient a b c d):=by
 unfold Op.Complex.quotient;repeat' first
  |with_reducible exact ay _
  |with_reducible exact BP _ _
  |with_reducible exact BQ _ _
  |with_reducible exact BM _ _
  |with_reducible exact UQ _ _
  |with_reducible exact Kv _ _ _ _
  |with_reducible exact zF _ _ _ _ _
  |with_reducible refine au ?_ (fun _=>?_)
  |split
  |dsimp only
theorem BO(o:BinOp)(k:FloatKind)(a b c d:Nat):Tm P (Op.complexOp o k a b c d):=by
 unfold Op.complexOp;repeat' first
  |with_reducible exact ay _
  |with_reducible exact aA
  |with_reducible exact kY _ _ _ _
  |with_reducible exact Kv _ _ _ _
  |with_reducible exact P_ _ _ _
  |with_reducible exact Ef _ _ _ _
  |with_reducible exact BN _ _ _ _
  |with_reducible refine au ?_ (fun _=>?_)
  |split
  |dsimp only
theorem Vh(P:Program)(d:Nat)(e:TypeId)(off:Nat)(n:Int):cellAtBytes P d e 0 off n=none:=by
 unfold cellAtBytes;dsimp only;split
 ·rfl
 ·cases byteOfCell P d e (off%P.cellsOf e)with
  |none=>rfl
  |some b=>
   dsimp only[Option.bind_eq_bind,Option.bind_some];rw[if_pos]
   ·rfl
   ·simp only[Nat.zero_mul,Bool.or_eq_true,decide_eq_true_eq];have:(Int.ofNat 0)=0:=rfl;omega
theorem rA(ts:Array TypeId)(t:TypeId)(xs:Array Value):Tm P (Builtin.unsafeAdd_ ts t xs):=by
 rcases Classical.em (∃p l,xs=#[.pointer p,l])with⟨p,l,rfl⟩|hn
 ·unfold Builtin.unsafeAdd_;dsimp only;refine au (jP _) fun n=>?_;split
  ·split
   ·refine au (sZ _) fun _=>?_;split
    ·exact jE (by intro g h;cases h)
    ·exact ay _
   ·exact jE (by intro g h;cases h)
  ·split
   ·exact jE (by intro g h;cases h)
   ·split
    ·rename_i a;refine .qG a.block (fun e w=>?_) fun x=>?_
     ·refine⟨.unsupported (.unsafePointer "Add"),w,?_,trivial⟩
      show(match cellAtBytes P P.depth e (0/P.cellsOf e) a.off n with
           |some off=>pure (Value.pointer (some {block:=a.block,off:=off,spot:=a.spot}))
           |none=>unsupported (Unsupported.unsafePointer "Add"):Sem Value).run P w=_
      rw[Nat.zero_div,Vh];rfl
     ·cases x with
      |none=>exact bf (by intro g h;cases h)
      |some x=>
       show Tm P (program >>= fun p=>_);refine au dw fun _=>?_;split
       ·exact ay _
       ·exact bf (by intro g h;cases h)
    ·exact bf (by intro g h;cases h)
 ·obtain⟨l⟩:=xs;match l,hn with
  | [],_=>exact aA
  | [x],_=>cases x<;>exact aA
  |[x,y],hn=>
   cases x with
   |pointer p=>exact absurd ⟨p,y,rfl⟩ hn
   |_=>exact aA
  |x::_::_::_,_=>cases x<;>exact aA
theorem En(a:Addr)(l:Bool):Tm P (asNumber a l):=by
 unfold asNumber;repeat' first
  |exact ay _
  |exact jF trivial
  |refine au ?_ (fun _=>?_)
  |refine aK ?_
  |split
  |dsimp only
theorem nM(t:TypeId)(x y:Value):Tm P (movedNumber t x y):=by
 unfold movedNumber;repeat' first
  |exact ay _
  |exact bf (by intro g h;cases h)
  |exact aD _
  |exact lq _
  |exact rA _ _ _
  |exact En _ _
  |refine au ?_ (fun _=>?_)
  |refine aK ?_
  |split
  |dsimp only
theorem vH(t:TypeId)(x y:Value):Tm P (movedPointer t x y):=by
 unfold movedPointer;repeat' first
  |exact bf (by intro g h;cases h)
  |exact uM _
  |exact rA _ _ _
  |refine au ?_ (fun _=>?_)
  |refine aK ?_
  |split
  |dsimp only
def PL(P:Program):Nat->TypeId->Bool
 |0,_=>false
 |d+1,t=>match P.underlying t with
  |some (.int _)|some .bool|some .string=>true
  |some (.struct fs)=>fs.toList.all fun f=>PL P d f.type
  |_=>false
def Xv(P:Program)(t:TypeId):Bool:=match P.underlying t with
 |some (.pointer _)|some (.interface _)|some (.slice _)|some (.map _ _)|some (.func _ _ _)=>true
 |_=>false
def N_:Value->Bool
 | .pointer none| .nilIface| .slice none _ _| .map none| .nilFunc=>true
 |_=>false
theorem w_{α β:Type}{f:α->β->Sem (ForInStep β)}:∀(l:List α) (b:β),(∀a,a∈l->∀b,Tm P (f a b))->Tm P (forIn l b f)
 | [],b,_=>by rw[List.forIn_nil];exact ay _
 |a::l,b,h=>by
  rw[List.forIn_cons];refine au (h a (List.mem_cons_self ..) b) fun x=>?_;cases x with
  |done b=>exact ay _
  |yield b=>exact w_ l b fun a ha=>h a (List.mem_cons_of_mem _ ha)
theorem qB:∀(d:Nat) (t:TypeId),PL P d t=true->∀(n:Nat) (x y:Value),Tm P (Op.equalIn n t x y)
 |0,_,h=>by cases h
 |d+1,t,h=>by
  intro n x y;cases n with
  |zero=>exact bf (by intro g h;cases h)
  |succ n=>
   unfold Op.equalIn;unfold PL at h;cases hd:P.underlying t with
   |none=>rw[hd]at h;cases h
   |some D=>
    rw[hd]at h;refine dY hd ?_;split;all_goals first
     |(cases h;done)
     |with_reducible exact ay _
     |with_reducible exact aA
     |exact bf (by intro g h;cases h)
     |skip
    ·split
     ·exact ay _
     ·exact aA
    ·refine au (lq _) fun _=>?_;refine au (lq _) fun _=>?_;dsimp only;refine au dw fun _=>?_;split
     ·refine au (kZ _) fun _=>?_;exact au (kZ _) fun _=>ay _
     ·refine au (dD _) fun _=>?_;split
      ·split
       ·exact ay _
       ·exact bf (by intro g h;cases h)
      ·exact bf (by intro g h;cases h)
    ·refine au dw fun _=>?_;dsimp only;split
     ·exact jE (by intro g h;cases h)
     ·refine au ?_ fun s=>?_
      ·rw[<-Array.forIn_toList];refine w_ _ _ fun f hf b=>?_;have hq:=List.all_eq_true.1 h f hf;split
       ·refine au (rF _ _ _) fun _=>?_;refine au (rF _ _ _) fun _=>?_;refine au (qB d f.type hq n _ _) fun _=>?_;split<;>exact ay _
       ·exact ay _
      ·split<;>exact ay _
theorem uP(t:TypeId)(h:Xv P t=true)(n:Nat)(x y:Value)(hn:N_ x=true\/N_ y=true):Tm P (Op.equalIn n t x y):=by
 cases n with
 |zero=>exact bf (by intro g h;cases h)
 |succ n=>
  unfold Op.equalIn;unfold Xv at h;cases hd:P.underlying t with
  |none=>rw[hd]at h;cases h
  |some D=>
   rw[hd]at h;refine dY hd ?_;split;all_goals first
    |(cases h;done)
    |with_reducible exact ay _
    |with_reducible exact aA
    |(rcases hn with hn|hn<;>cases hn;done)
end Go.eO
namespace Go.eO
open Go.Ren
variable {P:Program}
def XY:Operand->Bool
 | .const v=>N_ v
 |_=>false
def Zg(P:Program)(t:TypeId)(x y:Operand):Bool:=(PL P 5 t&& !P.eqGuardType P.depth t)||(Xv P t&&(XY x||XY y))
theorem lQ{α:Type}{c:Prop}[Decidable c]{s s':Sem α}(h:Tm P s)(h':Tm P s'):Tm P (if c then s else s'):=by split<;>assumption
theorem jv{α:Type}{f:Program->Sem α}(h:Tm P (f P)):Tm P (program >>= f):=.program h
theorem Ee(n:Nat)(t:TypeId):Tm P (Op.eqGuardIn n t .nilIface .nilIface):=by
 cases n with
 |zero=>exact bf (by intro g h;cases h)
 |succ n=>
  unfold Op.eqGuardIn;refine au (aD _) fun d=>?_;cases d<;>exact ay _
theorem sj{ρ:Operand->Value}(hρ:∀v,ρ (.const v)=v){x:Operand}(h:XY x=true):N_ (ρ x)=true:=by
 cases x with
 |const v=>rw[hρ];exact h
 |_=>cases h
theorem Ik{ρ:Operand->Value}(hρ:∀v,ρ (.const v)=v)(op:BinOp){t:TypeId}{x y:Operand}(h:Zg P t x y=true):Tm P (eqGuard op t x y (ρ x) (ρ y)):=by
 unfold Zg at h;simp only[Bool.or_eq_true,Bool.and_eq_true,Bool.not_eq_true']at h;have hn:(P.eqGuardType P.depth t=false)\/N_ (ρ x)=true\/N_ (ρ y)=true:=by
  rcases h with h|⟨_,h|h⟩
  ·exact .inl h.2
  ·exact .inr (.inl (sj hρ h))
  ·exact .inr (.inr (sj hρ h))
 unfold eqGuard;generalize ρ x=a at hn;generalize ρ y=b at hn;refine lQ (ay _) ?_;cases a<;>cases b<;>first|exact ay _|skip
 ·dsimp only;refine lQ (ay _) ?_;refine au (Ee _ _) fun _=>?_;split
  ·exact bf (by intro g h;cases h)
  ·exact ay _
 ·rcases hn with hn|hn|hn
  ·dsimp only;refine jv ?_;refine jv ?_;rw[hn];exact ay _
  iterate 2 (·cases hn)
theorem P9{ρ:Operand->Value}(hρ:∀v,ρ (.const v)=v){t:TypeId}{x y:Operand}(h:Zg P t x y=true):Tm P (Op.equal t (ρ x) (ρ y)):=by
 unfold Zg at h;simp only[Bool.or_eq_true,Bool.and_eq_true]at h;rcases h with h|⟨h1,h|h⟩
 ·exact qB _ _ h.1 _ _ _
 ·exact uP _ h1 _ _ _ (.inl (sj hρ h))
 ·exact uP _ h1 _ _ _ (.inr (sj hρ h))
theorem Em(op:BinOp)(t:TypeId)(x y:Value)(hE:op= .eql\/op= .neq->Tm P (Op.equal t x y)):Tm P (binOp op t x y):=by
 unfold binOp;split;all_goals first
  |with_reducible exact PX _ _ _ _ _
  |with_reducible exact uK _ _ _
  |with_reducible exact nM _ _ _
  |with_reducible exact aA
  |exact bf (by intro g h;cases h)
  |skip
 ·split
  ·exact aA
  ·split;all_goals first
    |with_reducible exact Ed _ _ _ _
    |with_reducible exact MW _ _ _ _
    |with_reducible exact Ic _ _ _ _
    |with_reducible exact MX _ _ _
 ·split
  ·exact aA
  ·split;all_goals first
    |with_reducible exact qm _ _ _ _
    |with_reducible exact uO _ _ _ _
 ·split
  ·exact aA
  ·exact BO _ _ _ _ _ _
 ·exact au (hE (.inl rfl)) fun _=>ay _
 ·exact au (hE (.inr rfl)) fun _=>ay _
 ·refine au (aD _) fun _=>?_;split
  ·exact vH _ _ _
  ·exact nM _ _ _
 all_goals
  refine au (lq _) fun _=>?_
  first
   |with_reducible exact Ip _ _ _
   |(refine au (lq _) fun _=>?_
     first|with_reducible exact Io _ _ _|with_reducible exact Iq _ _ _)
def Tz(P:Program)(s t:TypeId):Bool:=match P.underlying s,P.underlying t with
 |some (.int _),some (.int _)|some .string,some .string=>true
 |some (.slice e),some .string|some .string,some (.slice e)=>(match P.underlying e with|some (.int .u8)=>true|_=>false)
 |some (.slice _),some (.slice e)=>s==t&&(match P.underlying e with|some (.int .u8)=>true|_=>false)
 |_,_=>false
theorem P6(a:Addr)(v:Value):Tm P (do markStringish a;Pure.pure v):=.stringish a.block (fun _ _=>rfl) (ay _) (ay _)
theorem tq(e:TypeId)(s:ByteArray):Tm P (Conv.stringToBytes e s):=by
 unfold Conv.stringToBytes;refine au (cZ _) fun _=>?_;refine .lF _ trivial fun n x=>?_;cases x with
 |none=>exact ay _
 |some x=>exact .freeze _ _ (ay _)
theorem tH(x:Value):Tm P (Conv.bytesToString x):=by
 unfold Conv.bytesToString;split
 ·exact ay _
 ·refine au (lN _ _) fun c=>?_;refine au ?_ fun _=>ay _;rw[<-Array.forIn_toList];refine w_ _ _ fun a _ b=>?_;split
  ·exact ay _
  ·exact aA
 ·exact aA
theorem zC(k:FloatKind)(n:Nat)(j:IntKind):Tm P (Conv.floatToInt k n j):=by
 unfold Conv.floatToInt;dsimp only;split
 ·split
  ·exact ay _
  ·exact au (cZ _) fun _=>ay _
 ·exact au (cZ _) fun _=>ay _
theorem Il{s t:TypeId}(h:Tz P s t=true)(x:Value):Tm P (convert s t x):=by
 unfold Tz at h;unfold convert;cases hs:P.underlying s with
 |none=>rw[hs]at h;cases h
 |some S=>
  cases ht:P.underlying t with
  |none=>rw[hs,ht]at h;cases S<;>cases h
  |some T=>
   rw[hs,ht]at h;refine dY hs (dY ht ?_);split;all_goals first
    |(cases h;done)
    |with_reducible exact ay _
    |with_reducible exact zC _ _ _
    |exact bf (by intro g h;cases h)
    |skip
   ·exact ay _
   iterate 3 (·cases S<;>cases h)
   ·exact ay _
   ·rename_i e _;have hu:P.underlying e=some (.int .u8):=by
     cases S<;>first|(cases h;done)|skip
     all_goals dsimp only at h
     all_goals try simp only[Bool.and_eq_true]at h
     all_goals first
      |(split at h
        ·assumption
        ·cases h)
      |(obtain⟨_,h⟩:=h
        split at h
        ·assumption
        ·cases h)
    exact dY hu (tq _ _)
   ·refine au (aD _) fun _=>?_;split
    ·exact P6 _ _
    ·exact bf (by intro g h;cases h)
   ·dsimp only at h;split at h
    ·rename_i hu;exact dY hu (tH _)
    ·cases h
   ·cases S<;>cases h
def Q9(P:Program)(t:TypeId):Bool:=match P.underlying t with
 |some (.map k _)=>(match P.underlying k with|some (.int _)=>true|_=>false)
 |_=>false
theorem uQ{k:TypeId}{i:IntKind}(h:P.underlying k=some (.int i))(b:Bool)(n:Nat)(v:Value):Tm P (Instr.checkKey b n k v):=by
 cases n with
 |zero=>exact bf (by intro g h;cases h)
 |succ n=>
  unfold Instr.checkKey;refine dY h ?_;cases v<;>exact ay _
theorem qp{k:TypeId}{i:IntKind}(h:P.underlying k=some (.int i))(v:Value):∀(l:List MapEntry) (n:Nat),Tm P (Instr.findAsking k v l n)
 | [],_=>ay _
 |e::l,n=>by
  unfold Instr.findAsking;refine au (qB 1 k (by simp[PL,h]) _ _ _) fun _=>?_;split
  ·exact ay _
  ·exact qp h v l _
theorem xg{k:TypeId}{i:IntKind}(h:P.underlying k=some (.int i))(v:Value)(l:List MapEntry):Tm P (Instr.findKey k v l):=by
 unfold Instr.findKey;refine au (aD _) fun _=>?_;split
 ·exact ay _
 ·exact qp h v l _
theorem KU{t:TypeId}(h:Q9 P t=true):∃k e i,P.underlying t=some (.map k e)/\P.underlying k=some (.int i):=by
 unfold Q9 at h;split at h
 ·split at h
  ·exact⟨_,_,_,‹_›,‹_›⟩
  ·cases h
 ·cases h
theorem MS{t:TypeId}(h:Q9 P t=true)(x i:Value)(b:Bool):Tm P (Instr.lookup t x i b):=by
 obtain⟨k,e,j,h1,h2⟩:=KU h;unfold Instr.lookup;refine dY h1 ?_;dsimp only;repeat' first
  |exact uQ h2 _ _ _
  |exact xg h2 _ _
  |exact ay _
  |exact aA
  |exact jG _
  |exact dW _
  |refine au ?_ (fun _=>?_)
  |refine aK ?_
  |split
  |dsimp only
theorem vI(x y:Value):Tm P (Instr.keyThatStays x y):=by
 unfold Instr.keyThatStays;split
 ·exact ay _
 ·exact au (cZ _) fun _=>ay _
theorem BK{t:TypeId}(h:Q9 P t=true)(m k v:Value):Tm P (Instr.mapUpdate t m k v):=by
 obtain⟨kt,e,j,h1,h2⟩:=KU h;unfold Instr.mapUpdate;refine dY h1 ?_;dsimp only;split
 ·exact bD _
 ·refine au (jG _) fun _=>?_;split
  ·refine au (uQ h2 _ _ _) fun _=>?_;refine au (xg h2 _ _) fun r=>?_;split
   ·refine au (vI _ _) fun _=>?_;exact tu trivial
   ·exact tu trivial
  ·exact aA
 ·exact aA
theorem Ib(t:TypeId)(r:Option Value):Tm P (Instr.makeMap t r):=by
 unfold Instr.makeMap;repeat' first
  |exact ay _
  |exact aA
  |exact jF trivial
  |exact aD _
  |exact jP _
  |refine au ?_ (fun _=>?_)
  |refine aK ?_
  |split
  |dsimp only
theorem tC(t:TypeId)(x:Value):Tm P (Instr.makeInterface t x):=by
 unfold Instr.makeInterface;repeat' first
  |exact ay _
  |exact aA
  |exact aD _
  |refine au ?_ (fun _=>?_)
  |refine aK ?_
  |split
  |dsimp only
theorem zx(x:Value)(s t:TypeId)(b:Bool):Tm P (Instr.typeAssert x s t b):=by
 unfold Instr.typeAssert;repeat' first
  |exact ay _
  |exact aA
  |exact dD _
  |exact aD _
  |exact dW _
  |exact bD _
  |refine au ?_ (fun _=>?_)
  |refine aK ?_
  |split
  |dsimp only
theorem Eb(x:Value):Tm P (Builtin.lenOf x):=by
 unfold Builtin.lenOf;repeat' first
  |exact ay _
  |exact aA
  |refine au ?_ (fun _=>?_)
  |refine aK ?_
  |split
  |dsimp only
theorem qo(s n:Nat)(x:Value):Tm P (Builtin.firstCells s n x):=by
 unfold Builtin.firstCells;repeat' first
  |exact ay _
  |exact aA
  |exact lN _ _
  |refine au ?_ (fun _=>?_)
  |refine aK ?_
  |split
  |dsimp only
theorem UR(ts:Array TypeId)(t:TypeId)(xs:Array Value):Tm P (Builtin.copy_ ts t xs):=by
 unfold Builtin.copy_;repeat' first
  |exact ay _
  |exact aA
  |exact aD _
  |exact bY _
  |exact iJ _ _ _
  |exact Eb _
  |exact qo _ _ _
  |refine au ?_ (fun _=>?_)
  |refine aK ?_
  |split
  |dsimp only
theorem XA(ts:Array TypeId)(t:TypeId)(xs:Array Value):Tm P (Builtin.len_ ts t xs):=by
 unfold Builtin.len_;repeat' first
  |exact ay _
  |exact aA
  |exact jG _
  |exact aD _
  |refine au ?_ (fun _=>?_)
  |refine aK ?_
  |split
  |dsimp only
theorem UO(x y:Value):Tm P (Builtin.max2 x y):=by
 unfold Builtin.max2;repeat' first
  |exact ay _
  |exact aA
  |exact bf (by intro g h;cases h)
  |exact cZ _
  |refine au ?_ (fun _=>?_)
  |refine aK ?_
  |split
  |dsimp only
theorem tF{α β:Type}{f:β->α->Sem β}(h:∀b a,Tm P (f b a)):∀(l:List α) (b:β),Tm P (l.foldlM f b)
 | [],_=>ay _
 |a::l,b=>by
  rw[List.foldlM_cons];exact au (h b a) fun b=>tF h l b
theorem Xz(ts:Array TypeId)(t:TypeId)(xs:Array Value):Tm P (Builtin.max_ ts t xs):=by
 unfold Builtin.max_;split
 ·exact aA
 ·exact tF UO _ _
end Go.eO
