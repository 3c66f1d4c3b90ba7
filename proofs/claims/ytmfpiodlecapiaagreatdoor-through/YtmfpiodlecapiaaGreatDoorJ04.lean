import Derived.Test.YtmfpiodlecapiaaGreatDoorJ03
import Derived.Laws.Sem
import Derived.Conc.Own3
import Derived.Conc.Own4
namespace Go.Ren
variable{t:TypeId}{k d:Nat}{a a':Act}{x:Operand}
variable {P:Program} {ρ:Array Nat}
def NC(P:Program)(t:TypeId):Bool:=match P.underlying t with|some (.int _)=>true|_=>false
def tyB(P:Program)(t:TypeId):Bool:=match P.underlying t with|some (.int _)|some .bool|some (.slice _)=>true|_=>false
def Zx(P:Program)(t:TypeId):Bool:=match P.underlying t with|some (.struct _)|some (.array _ _)=>false|_=>true
def Gj(P:Program)(e:TypeId):Bool:=match P.info? e with|some i=>(match i.zero with|some v=>v.cells.all DW|none=>true)|none=>true
def Zv(P:Program)(t:TypeId):Bool:=match P.underlying t with|some (.slice e)=>Gj P e|_=>false
theorem GH(h:NC P t=true):IT P t:=by
 intro d hd;unfold NC at h;rw[hd]at h;cases d<;>first|exact⟨_,rfl⟩|cases h
theorem Zy(h:tyB P t=true):BT P t:=by
 intro d hd;unfold tyB at h;rw[hd]at h;cases d<;>first|exact .inl ⟨_,rfl⟩|exact .inr (.inl rfl)|exact .inr (.inr ⟨_,rfl⟩)|cases h
theorem W9(h:Zx P t=true):NA P t:=by
 intro d hd;unfold Zx at h;rw[hd]at h;refine⟨fun fs e=>?_,fun n el e=>?_⟩
 iterate 2 (·subst e;cases h)
theorem yF{e:TypeId}(h:Gj P e=true):ZOk P e:=by
 intro i v hi hv ρ;unfold Gj at h;rw[hi]at h;simp only[hv]at h;exact vP h
theorem yM(h:Zv P t=true):ST P t:=by
 unfold Zv at h;cases hd:P.underlying t with
 |none=>rw[hd]at h;cases h
 |some d=>
  rw[hd]at h;cases d<;>first|cases h|exact⟨_,hd,yF h⟩
def jP(k d:Nat):Bool:=k==d||d==2
theorem CR.up(h:jP k d=true){v v':Value}(hv:CR ρ k v v'):CR ρ d v v':=by
 unfold jP at h;simp only[Bool.or_eq_true,beq_iff_eq]at h;rcases h with rfl|rfl
 .exact hv
 .exact hv.val
def MZ(P:Program)(s:TypeId)(f:Nat):Bool:=match P.underlying s with
 |some (.struct fs)=>(match fs[f]? with|some x=>(match P.info? x.type with|some i=>decide (i.size≠0)|none=>true)|none=>true)
 |_=>true
def uU(K:Nat->Nat)(x:Operand):Bool:=oq K x==some 0
def RG(K:Nat->Nat)(x:Operand):Bool:=(oq K x).isSome
def Nb(K:Nat->Nat)(o:Oper):Nat:=(o.dst.map K).getD 2
def rW(fn:Func):Nat:=if fn.results.size=1 then 0 else 1
inductive NR(P:Program)(A:FuncId->Bool)(k:Nat)(ρ:Array Nat):Next->Next->Prop
 |value {v v':Value}:CR ρ k v v'->NR P A k ρ (.value v) (.value v')
 |skip:NR P A k ρ .skip .skip
 |enter (f:FuncId) (fn:Func) {a a':Array Value}:bF ρ a a'->P.funcs[f]? =some fn->A f=true->a.size<=fn.params.size->jP (rW fn) k=true->NR P A k ρ (.enter f a) (.enter f a')
def VN(ρ:Array Nat)(x y:Next):Prop:=∃v v',x= .value v/\y= .value v'/\SV ρ v v'
theorem bY{A:FuncId->Bool}{s s':Sem Value}(h:SR P (wo k) ρ s s'):SR P (NR P A k) ρ (do Pure.pure (Next.value (<-s))) (do Pure.pure (Next.value (<-s'))):=h.seq fun _ _ _ _ hv=>SR.ret (.value hv)
theorem NM{A:FuncId->Bool}{s s':Sem Unit}(h:SR P yE ρ s s'):SR P (NR P A k) ρ (do s;Pure.pure Next.skip) (do s';Pure.pure Next.skip):=h.seq fun _ _ _ _ _=>SR.ret .skip
def VL(P:Program)(X A:FuncId->Bool)(K:Nat->Nat)(d:Nat)(c:Call):Bool:=
 match c.callee with
 | .builtin .len=>(match c.args.toList,c.argTypes.toList with| [x],[t]=>Zv P t&&uU K x|_,_=>false)&&jP 0 d
 | .builtin .append=>(match c.args.toList,c.argTypes.toList with| [x,y],[t,t']=>Zv P t&&Zv P t'&&uU K x&&uU K y|_,_=>false)&&jP 0 d
 | .builtin .copy=>(match c.args.toList,c.argTypes.toList with| [x,y],[_,_]=>uU K x&&uU K y|_,_=>false)&&jP 0 d
 | .value (.func f)=>c.args.all (uU K)&&((X f&&jP 0 d)||(match P.funcs[f]? with|some fn=>fn.name != "runtime.NumGoroutine" &&fn.body.isSome&&jP (rW fn) d&&A f&&c.args.size<=fn.params.size|none=>false))
 |_=>false
def opB(P:Program)(X A:FuncId->Bool)(K:Nat->Nat)(o:Oper):Bool:=
 let d:=Nb K o
 match o.op with
 | .move x| .assign x=>(match oq K x with|some k=>jP k d|none=>false)
 | .load t a=>Zx P t&&RG K a&&jP 0 d
 | .store _ a x=>RG K a&&(uU K x||oq K x==some 1)
 | .alloc t=>Gj P t&&jP 2 d
 | .fieldAddr s x f=>RG K x&&MZ P s f&&jP 2 d
 | .build t ps=>Gj P t&&ps.all (fun p=>uU K p.2)&&jP 1 d
 | .binOp _ t x y _=>tyB P t&&uU K x&&uU K y&&jP 0 d
 | .unOp _ _ x=>uU K x&&jP 0 d
 | .convert s t x=>NC P s&&NC P t&&uU K x&&jP 0 d
 | .indexAddr _ x i=>uU K x&&uU K i&&jP 2 d
 | .slice _ x lo hi mx=>uU K x&&lo.all (uU K)&&hi.all (uU K)&&mx.all (uU K)&&jP 0 d
 | .makeSlice t l c=>Zv P t&&uU K l&&uU K c&&jP 0 d
 | .buildSlice t _ ps=>Zv P t&&ps.all (fun p=>uU K p.2)&&jP 0 d
 | .extract x i=>(oq K x==some 1||(oq K x==some 4&&decide (i<2)))&&jP 0 d
 | .makeInterface _ x=>RG K x&&jP 3 d
 | .panic x=>oq K x==some 3
 | .call c=>VL P X A K d c
 |_=>false
theorem cB{K:Nat->Nat}(h:TR ρ K a.tmps a'.tmps)(hx:uU K x=true):SV ρ (a.eval x) (a'.eval x):=h.eval (k:=0) (by simpa[uU]using hx)
theorem qz{K:Nat->Nat}(h:TR ρ K a.tmps a'.tmps)(hx:RG K x=true):VR ρ (a.eval x) (a'.eval x):=by
 unfold RG at hx;cases e:oq K x with
 |none=>rw[e]at hx;cases hx
 |some k=>exact(h.eval e).val
theorem zA{K:Nat->Nat}(h:TR ρ K a.tmps a'.tmps){x:Option Operand}(hx:x.all (uU K)=true):OS ρ (x.map a.eval) (x.map a'.eval):=by
 cases x with
 |none=>exact .none
 |some x=>exact .some (cB h hx)
theorem SR.up(h:jP k d=true){s s':Sem Value}(hs:SR P (wo k) ρ s s'):SR P (wo d) ρ s s':=hs.mono fun _ _ _ _ x=>CR.up h x
theorem RD{K:Nat->Nat}(h:TR ρ K a.tmps a'.tmps){xs:Array Operand}(hx:xs.all (uU K)=true):bF ρ (xs.map a.eval) (xs.map a'.eval):=
 bF.map _ fun x hm=>cB h (Array.all_eq_true_iff_forall_mem.1 hx x hm)
theorem Xp{X A:FuncId->Bool}{K:Nat->Nat}(hX:∀f,X f=true->∀(ρ:Array Nat) (az Zi:Array Value),bF ρ az Zi->SR P VN ρ (callFunc f az) (callFunc f Zi))
  (h:TR ρ K a.tmps a'.tmps){c:Call}(ty:TypeId)(hc:VL P X A K d c=true):SR P (NR P A d) ρ (do let x<-resolve a.eval c ty;invoke x.target x.args) (do let x<-resolve a'.eval c ty;invoke x.target x.args):=by
 obtain⟨callee,args,tys⟩:=c;unfold VL at hc;split at hc
 .
  rename_i zZ;simp only at zZ;subst zZ;simp only[Bool.and_eq_true]at hc;obtain⟨hc,hd⟩:=hc;split at hc
  .rename_i x t e1 e2;obtain rfl:args=#[x]:=by apply Array.ext';simpa using e1
   obtain rfl:tys=#[t]:=by apply Array.ext';simpa using e2
   simp only[Bool.and_eq_true]at hc;show SR P (NR P A d) ρ (do Pure.pure (Next.value (<-Builtin.len_ #[t] ty (#[x].map a.eval)))) (do Pure.pure (Next.value (<-Builtin.len_ #[t] ty (#[x].map a'.eval))));simp only[List.map_toArray,List.map_cons,List.map_nil];exact bY ((ZK (ty:=ty) (yM hc.1) (cB h hc.2)).up hd)
  .cases hc
 .rename_i zZ;simp only at zZ;subst zZ;simp only[Bool.and_eq_true]at hc;obtain⟨hc,hd⟩:=hc;split at hc
  .rename_i x y t t' e1 e2;obtain rfl:args=#[x,y]:=by apply Array.ext';simpa using e1
   obtain rfl:tys=#[t,t']:=by apply Array.ext';simpa using e2
   simp only[Bool.and_eq_true]at hc;show SR P (NR P A d) ρ (do Pure.pure (Next.value (<-Builtin.append_ #[t,t'] ty (#[x,y].map a.eval)))) (do Pure.pure (Next.value (<-Builtin.append_ #[t,t'] ty (#[x,y].map a'.eval))));simp only[List.map_toArray,List.map_cons,List.map_nil];exact bY ((Py (ty:=ty) (yM hc.1.1.1) (yM hc.1.1.2) (cB h hc.1.2) (cB h hc.2)).up hd)
  .cases hc
 .rename_i zZ;simp only at zZ;subst zZ;simp only[Bool.and_eq_true]at hc;obtain⟨hc,hd⟩:=hc;split at hc
  .rename_i x y t t' e1 e2;obtain rfl:args=#[x,y]:=by apply Array.ext';simpa using e1
   obtain rfl:tys=#[t,t']:=by apply Array.ext';simpa using e2
   simp only[Bool.and_eq_true]at hc;show SR P (NR P A d) ρ (do Pure.pure (Next.value (<-Builtin.copy_ #[t,t'] ty (#[x,y].map a.eval)))) (do Pure.pure (Next.value (<-Builtin.copy_ #[t,t'] ty (#[x,y].map a'.eval))));simp only[List.map_toArray,List.map_cons,List.map_nil];exact bY ((Xo (t:=t) (t':=t') (ty:=ty) (cB h hc.1) (cB h hc.2)).up hd)
  .cases hc
 .rename_i f zZ;simp only at zZ;subst zZ;simp only[Bool.and_eq_true,Bool.or_eq_true]at hc;obtain⟨ha,hc⟩:=hc;have ry:=RD h ha;show SR P (NR P A d) ρ (callFunc f (#[]++args.map a.eval++ #[])) (callFunc f (#[]++args.map a'.eval++ #[]));simp only[Array.empty_append,Array.append_empty];rcases hc with⟨hx,hd⟩|hc
  .refine SR.mono (hX f hx ρ _ _ ry) fun ρ' x y _ CL=>?_;obtain⟨v,v',rfl,rfl,hv⟩:=CL;exact .value (CR.up hd hv)
  .unfold callFunc;refine iE ?_;cases hf:P.funcs[f]? with
   |none=>exact aF
   |some fn=>
    rw[hf]at hc;simp only[Bool.and_eq_true,bne_iff_ne,ne_eq,decide_eq_true_eq]at hc;have hn:(fn.name== "runtime.NumGoroutine")=false:=by simpa using hc.1.1.1.1
    have hb:fn.body.isNone=false:=by
     have:=hc.1.1.1.2;cases Fp:fn.body with
     |none=>rw[Fp]at this;cases this
     |some _=>rfl
    simp only[hn,hb,Bool.false_eq_true,if_false];exact SR.ret (.enter f fn ry hf hc.1.2 (by simpa using hc.2) hc.1.1.2)
 .cases hc
theorem parts_eval{K:Nat->Nat}(h:TR ρ K a.tmps a'.tmps){ps:Array (Nat×Operand)}(hx:ps.all (fun p=>uU K p.2)=true):PS ρ (ps.map fun p=>(p.1,a.eval p.2)).toList (ps.map fun p=>(p.1,a'.eval p.2)).toList:=by
 have:∀l:List (Nat×Operand),(∀p∈l,uU K p.2=true)->PS ρ (l.map fun p=>(p.1,a.eval p.2)) (l.map fun p=>(p.1,a'.eval p.2)):=by
  intro l;induction l with
  |nil=>exact fun _=>.nil
  |cons p l ih=>exact fun hl=>.cons _ (cB h (hl p (by simp))) (ih fun q hq=>hl q (by simp[hq]))
 simp only[Array.toList_map];exact this _ fun p hp=>Array.all_eq_true_iff_forall_mem.1 hx p (Array.mem_toList_iff.1 hp)
theorem Tt(hz:ZOk P t):SR P (wo 2) ρ (Instr.alloc t true (.tuple #[])) (Instr.alloc t true (.tuple #[])):=by
 unfold Instr.alloc;refine iT.seq fun jo v v' e1 h=>?_;obtain⟨rfl,i,hi,hv⟩:=h;dsimp only;unfold newVar;exact(kL t (hz _ _ hi hv _)).seq fun xM a b _ j'=>SR.ret (VR.ptr j')
theorem KZ{s:TypeId}{f:Nat}(hf:MZ P s f=true){x x':Value}(hx:VR ρ x x'):SR P (wo 2) ρ (Instr.fieldAt s x f) (Instr.fieldAt s x' f):=by
 unfold Instr.fieldAt;refine(aS s).seq fun jo d d' e1 h=>?_;obtain⟨rfl,hu⟩:=h;unfold MZ at hf;rw[hu]at hf;cases d<;>first
  |exact aF
  |(rename_i fs
    dsimp only at hf⊢;cases E':fs[f]? with
    |none=>exact aF
    |some fl=>
     rw[E']at hf;simp only at hf;refine(lN (hx.mono e1)).seq fun xM a b e2 j'=>?_;refine SR.seq (A:=AR) ?_ fun qR a b _ j'=>SR.ret (VR.ptr j');unfold fieldPlace sizeOf;refine SR.seq (A:=fun _ a b=>a=b/\a≠0) ?_ fun qR n n' e3 h=>?_
     .refine(fQ fl.type).seq fun qR i i' e3 h=>?_;obtain⟨rfl,hi⟩:=h;rw[hi]at hf;simp only[decide_eq_true_eq]at hf;exact SR.ret ⟨rfl,hf⟩
     .obtain⟨rfl,hn⟩:=h;simp only[hn];exact SR.ret ((j'.mono e3).add _))
theorem Pv(fs:Array Field):SR P yE ρ (fs.mapM fun f=>do Pure.pure (f.offset,<-sizeOf f.type)) (fs.mapM fun f=>do Pure.pure (f.offset,<-sizeOf f.type)):=by
 have key:∀(l:List Field) (ρ:Array Nat),SR P yE ρ (l.mapM fun f=>do Pure.pure (f.offset,<-sizeOf f.type)) (l.mapM fun f=>do Pure.pure (f.offset,<-sizeOf f.type)):=by
  intro l;induction l with
  |nil=>intro ρ;simp only[List.mapM_nil];exact SR.ret rfl
  |cons f l ih=>
   intro ρ;simp only[List.mapM_cons];refine SR.seq (A:=yE) ((eD f.type).seq fun jo a b _ h=>by obtain rfl:=h;exact SR.ret rfl) fun jo a b _ h=>?_;obtain rfl:=h;refine(ih jo).seq fun xM c d _ h=>?_;obtain rfl:=h;exact SR.ret rfl
 rw[Array.mapM_eq_mapM_toList];refine SR.mono (A:=yE) ?_ fun _ _ _ _ h=>h;have:=key fs.toList ρ;show SR P yE ρ (List.toArray <$> _) (List.toArray <$> _);rw[<-bind_pure_comp];exact this.seq fun jo a b _ h=>by obtain rfl:=h;exact SR.ret rfl
theorem Tn(hz:ZOk P t){ps ps':Array (Nat×Value)}(hp:PS ρ ps.toList ps'.toList):SR P (wo 1) ρ (Instr.build t ps) (Instr.build t ps'):=by
 unfold Instr.build;refine iT.seq fun jo v v' e1 h=>?_;obtain⟨rfl,i,hi,hv⟩:=h;refine(aS t).seq fun xM d d' e2 h=>?_;replace h:=h.1;subst h;have fin:∀(qR:Array Nat) (place:Nat->Option (Nat×Nat)),Ext ρ qR->FR qR (Instr.fill place v.cells ps.toList) (Instr.fill place v.cells ps'.toList):=fun qR place e3=>Ak (hp.mono e3) (hz _ _ hi hv _);have last:∀(qR:Array Nat) (o o':Option (Array Value)) (why:String),FR qR o o'->SR P (wo 1) qR (match o with|some cells=>Pure.pure (Value.agg cells)|x=>stuck why) (match o' with|some cells=>Pure.pure (Value.agg cells)|x=>stuck why):=by
  intro qR o o' why h;cases o with
  |none=>exact aF
  |some c=>cases o' with
   |none=>exact h.elim
   |some c'=>exact SR.ret ⟨c,c',.inl ⟨rfl,rfl⟩,h⟩
 cases d<;>first
  |exact aF
  |(rename_i fs
    refine(Pv fs).seq fun qR pl pl' e3 h=>?_;obtain rfl:=h;exact last qR _ _ _ (fin qR _ ((e1.trans e2).trans e3)))
  |(refine(eD _).seq fun qR sz sz' e3 h=>?_
    obtain rfl:=h;exact last qR _ _ _ (fin qR _ ((e1.trans e2).trans e3)))
theorem Hr(t:TypeId)(v:Value)(c:Array Value)(p:World):Bad ((do Instr.storeAt t v (.tuple c);Pure.pure Next.skip:Sem Next).run P p):=by
 show Bad (((Instr.storeAt t v (.tuple c)).bind _).run P p);refine Bad.bind ?_;unfold Instr.storeAt;show Bad (((Instr.sureAddr v).bind _).run P p);rw[run_bind];cases v with
 |pointer a=>
  cases a with
  |none=>trivial
  |some a=>
   show Bad ((storeVar t a (.tuple c)).run P p);unfold storeVar;show Bad (((sizeOf t).bind _).run P p);rw[run_bind];have hs:(sizeOf t).run P p=match P.info? t with|some i=>.ok i.size p|none=>.halt (.stuck "no such type") p:=by
    unfold sizeOf typeInfo;show(Sem.program fun q=>_).run P p=_;simp only[Sem.run,Sem.bind];cases P.info? t<;>rfl
   rw[hs];cases P.info? t with
   |none=>trivial
   |some i=>
    simp only;split
    iterate 2 (·trivial)
 |_=>trivial
theorem IC{X A:FuncId->Bool}{K:Nat->Nat}{o:Oper}(hX:∀f,X f=true->∀(ρ:Array Nat) (az Zi:Array Value),bF ρ az Zi->SR P VN ρ (callFunc f az) (callFunc f Zi))
  (h:TR ρ K a.tmps a'.tmps)(ho:opB P X A K o=true):SR P (NR P A (Nb K o)) ρ (execOp a.eval o) (execOp a'.eval o):=by
 obtain⟨dst,op,ty,pos,after,guard⟩:=o;unfold opB at ho;unfold execOp;generalize hd:Nb K ⟨dst,op,ty,pos,after,guard⟩=d at ho⊢;cases op<;>simp only[Bool.and_eq_true,Bool.false_eq_true]at ho<;>dsimp only
 case move x=>
  cases e:oq K x with
  |none=>rw[e]at ho;cases ho
  |some k=>rw[e]at ho;exact SR.ret (.value (CR.up ho (h.eval e)))
 case assign x=>
  cases e:oq K x with
  |none=>rw[e]at ho;cases ho
  |some k=>rw[e]at ho;exact SR.ret (.value (CR.up ho (h.eval e)))
 case load t x=>exact bY ((Px (W9 ho.1.1) (qz h ho.1.2)).up ho.2)
 case store t x y=>
  simp only[Bool.or_eq_true,beq_iff_eq]at ho;rcases ho.2 with hs|hs
  .have hy:=cB h hs;obtain⟨e,e'⟩:=hy.cells;exact NM (yZ (qz h ho.1) (by rw[e,e'];exact bF.one hy))
  .obtain⟨c,c',⟨e,e'⟩|⟨e,e'⟩,hc⟩:=(h.eval hs:CR ρ 1 _ _)
   .rw[e,e'];exact NM (yZ (qz h ho.1) hc)
   .rw[e];exact SR.dK (Hr t _ c)
 case alloc t=>exact bY ((Tt (yF ho.1)).up ho.2)
 case fieldAddr s x f=>exact bY ((KZ ho.1.2 (qz h ho.1.1)).up ho.2)
 case build t ps=>exact bY ((Tn (yF ho.1.1) (parts_eval h ho.1.2)).up ho.2)
 case binOp b t x y _=>
  refine bY (SR.up (k:=0) ho.2 ?_);exact(La b t x y (cB h ho.1.1.2) (cB h ho.1.2)).seq fun jo _ _ e1 _=>Tq (Zy ho.1.1.1) ((cB h ho.1.1.2).mono e1) ((cB h ho.1.2).mono e1)
 case unOp u t x=>exact bY ((Ti (cB h ho.1)).up ho.2)
 case convert s t x=>exact bY ((Lc (GH ho.1.1.1) (GH ho.1.1.2) (cB h ho.1.2)).up ho.2)
 case indexAddr t x i=>exact bY ((KY (cB h ho.1.1) (cB h ho.1.2)).up ho.2)
 case slice t x lo hi mx=>exact bY ((KX (cB h ho.1.1.1.1) (zA h ho.1.1.1.2) (zA h ho.1.1.2) (zA h ho.1.2)).up ho.2)
 case makeSlice t l c=>exact bY ((EK (yM ho.1.1.1) (cB h ho.1.1.2) (cB h ho.1.2)).up ho.2)
 case buildSlice t n ps=>exact bY ((BI (yM ho.1.1) n (parts_eval h ho.1.2)).up ho.2)
 case extract x i=>
  obtain⟨h1,h2⟩:=ho;simp only[Bool.or_eq_true,Bool.and_eq_true,beq_iff_eq,decide_eq_true_eq]at h1;rcases h1 with h1|⟨h1,h3⟩
  .exact bY ((K_ (h.eval h1) i).up h2)
  .exact bY ((H8 (h.eval h1) h3).up h2)
 case makeInterface t x=>
  refine bY (SR.up (k:=3) ho.2 ?_);unfold Instr.makeInterface;refine(aS t).seq fun jo u u' e1 hu=>?_;obtain⟨rfl,_⟩:=hu;have:=(qz h ho.1).mono e1;cases u<;>first|exact aF|exact SR.ret (.inr ⟨t,_,_,rfl,rfl,this⟩)
 case panic x=>
  have hx:CR ρ 3 (a.eval x) (a'.eval x):=h.eval (by simpa using ho);refine bY ?_;rcases hx with⟨e,e'⟩|⟨t,y,y',e,e',hy⟩
  .rw[e,e'];exact aF
  .rw[e,e'];exact .panic (.iface t hy)
 case call c=>exact Xp hX h ty ho
end Go.Ren
namespace Go.bn
section
open Go.Conc
variable{w':World}
structure Fr where
 fn:FuncId
 tmps:Array Value
 todo:List Item
 ret:Bool
def Fr.act(f:Fr):Act:=⟨f.tmps,[]⟩
def Fr.finish(f:Fr)(v:Value):Fr:=
 match f.todo with
 | .inRegion ops (i::rest)::k=> {f with tmps:=(match(ops[i]?).bind (·.dst)with|some d=>f.tmps.setIfInBounds d v|none=>f.tmps),todo:=.inRegion ops rest::k}
 |_=>f
inductive FO where
 |go (f:Fr) (fs:List Fr) (w:World) (es:Array Event)
 |panic
 |stop
 |bad
def qj(P:Program)(g:FuncId)(args:Array Value):Fr:=
 let fn:=P.funcs[g]?
 ⟨g,args++Array.replicate ((fn.map (·.ntmps)).getD 0-args.size) undef,[.code ((fn.bind (·.body)).getD (.refuse "unsupported: a function without a Go body is entered"))],false⟩
def fK(P:Program)(f:Fr)(fs:List Fr)(o:Oper)(w:World):FO:=
 match(execOp f.act.eval o).run P w with
 | .ok (.value v) w'=>.go (f.finish v) fs w' (seen P f.fn ((execOp f.act.eval o).events P w #[]))
 | .ok .skip w'=>.go (f.finish undef) fs w' (seen P f.fn ((execOp f.act.eval o).events P w #[]))
 | .ok (.enter g args) w'=>.go (qj P g args) (f::fs) w' (seen P f.fn ((execOp f.act.eval o).events P w #[]))
 | .halt (.panic _) _=>.panic
 |_=>.bad
def bg(P:Program)(f:Fr)(fs:List Fr)(w:World):FO:=
 match f.todo with
 | []=>match fs with| []=>.stop|_::_=>.go {f with ret:=true} fs w #[]
 | .code .ret::_=>.go {f with ret:=true} fs w #[]
 | .code .skip::k=>.go {f with todo:=k} fs w #[]
 | .code (.label _)::k=>.go {f with todo:=k} fs w #[]
 | .inBlock _::k=>.go {f with todo:=k} fs w #[]
 | .code (.seq a b)::k=>.go {f with todo:=.code a:: .code b::k} fs w #[]
 | .code (.cond c thn els)::k=>match f.act.eval c with| .bool b=>.go {f with todo:=.code (if b then thn else els)::k} fs w #[]|_=>.bad
 | .code (.block id body)::k=>.go {f with todo:=.code body:: .inBlock id::k} fs w #[]
 | .code (.loop body)::k=>.go {f with todo:=.code body:: .inLoop body::k} fs w #[]
 | .inLoop body::k=>.go {f with todo:=.code body:: .inLoop body::k} fs w #[]
 | .code (.exit id)::k=>match exitTo id k with|some k'=>.go {f with todo:=k'} fs w #[]|none=>.bad
 |.code (.region id ops draw)::k=>
  if draw then .go {f with todo:=.inRegion ops (Region.schedule (P.follows .mixedOrders) ops (w.tape w.drawn (.order f.fn id)))::k} fs {w with drawn:=w.drawn+1} #[]
  else .go {f with todo:=.inRegion ops (List.range ops.size)::k} fs w #[]
 | .inRegion _ []::k=>.go {f with todo:=k} fs w #[]
 |.inRegion ops (i::_)::_=>
  match ops[i]? with
  |none=>.go (f.finish undef) fs w #[]
  |some o=>if Region.wanted o (yielded ops f.tmps)then fK P f fs o w else .go (f.finish undef) fs w #[]
 |_=>.bad
def sI(P:Program)(f:Fr)(fs:List Fr)(w:World):FO:=
 match fs with
 | []=>.stop
 |c::rest=>
  match P.funcs[f.fn]? with
  |none=>.bad
  |some fn=>match(results fn f.tmps).run P w with
   | .ok v w'=>.go (c.finish v) rest w' (seen P f.fn ((results fn f.tmps).events P w #[]))
   |_=>.bad
def aR(P:Program)(f:Fr)(fs:List Fr)(w:World):FO:=if f.ret then sI P f fs w else bg P f fs w
structure Ctx where
 k:List Item
 defers:List Deferred
 kind:CallKind
 callers:List Frame
def Fr.mode(f:Fr):FrameMode:=if f.ret then .returning else .run
def Fr.top(f:Fr):Frame:= {fn:=f.fn,tmps:=f.tmps,todo:=f.todo,defers:= [],mode:=f.mode,kind:=.normal}
def Fr.base(f:Fr)(C:Ctx):Frame:= {fn:=f.fn,tmps:=f.tmps,todo:=f.todo++C.k,defers:=C.defers,mode:=f.mode,kind:=C.kind}
def below(C:Ctx):List Fr->List Frame
 | []=>C.callers
 | [f]=>f.base C::C.callers
 |f::g::rest=>f.top::below C (g::rest)
def gZ(C:Ctx)(f:Fr):List Fr->Goroutine
 | []=>G (f.base C) C.callers
 |g::rest=>G f.top (below C (g::rest))
section
variable {P:Program} {main:Bool} {C:Ctx} {f:Fr} {fs:List Fr} {w:World}
def cur(C:Ctx)(f:Fr):List Fr->Frame
 | []=>f.base C
 |_::_=>f.top
theorem cK(C:Ctx)(f:Fr)(fs:List Fr):gZ C f fs=G (cur C f fs) (below C fs):=by cases fs<;>rfl
theorem qw(C:Ctx)(f:Fr)(fs:List Fr):below C (f::fs)=cur C f fs::below C fs:=by cases fs<;>rfl
def tail(C:Ctx):List Fr->List Item
 | []=>C.k
 |_::_=> []
def kH(C:Ctx):List Fr->CallKind
 | []=>C.kind
 |_::_=>.normal
def iN(C:Ctx):List Fr->List Deferred
 | []=>C.defers
 |_::_=> []
theorem dL(C:Ctx)(f:Fr)(fs:List Fr):cur C f fs= {fn:=f.fn,tmps:=f.tmps,todo:=f.todo++tail C fs,defers:=iN C fs,mode:=f.mode,kind:=kH C fs}:=by
 cases fs<;>simp[cur,Fr.base,Fr.top,tail,kH,iN]
theorem lH{id:Nat}:∀{k k':List Item} (r:List Item),exitTo id k=some k'->exitTo id (k++r)=some (k'++r)
 | [],_,_,h=>by cases h
 |x::k,k',r,h=>by
  cases x<;>simp only[exitTo,List.cons_append]at h⊢<;>first
   |exact lH r h
   |(split at h
     .rename_i hc;obtain rfl:=Option.some.inj h;simp[hc]
     .rename_i hc;simp only[hc];exact lH r h)
theorem sO(f:Fr)(fs:List Fr)(v:Value){ops:Array Oper}{i:Nat}{rest:List Nat}{k:List Item}(h:f.todo= .inRegion ops (i::rest)::k):(cur C f fs).finish v=cur C (f.finish v) fs:=by
 rw[dL,dL];simp only[Frame.finish,Fr.finish,h,List.cons_append];rfl
theorem Rj(P:Program)(g:FuncId)(args:Array Value)(C:Ctx)(f:Fr)(fs:List Fr):Frame.enter P g args .normal=cur C (qj P g args) (f::fs):=by
 simp[cur,Fr.top,qj,Frame.enter,Fr.mode]
def Wx(f:Fr):Prop:=∃ops i rest k,f.todo= .inRegion ops (i::rest)::k
def Wf(fs:List Fr):Prop:=∀c∈fs,Wx c/\c.ret=false
theorem nk(h:f.ret=false):f.mode= .run:=by simp[Fr.mode,h]
theorem zI(h:f.ret=true):f.mode= .returning:=by simp[Fr.mode,h]
theorem uR(b:Frame)(h:b.tmps=f.tmps):b.eval=f.act.eval:=by
 funext x;cases x<;>simp[Frame.eval,Act.eval,Fr.act,h]
theorem yt(hk:C.kind≠.early)(gg:Wf fs){f':Fr}{fs':List Fr}{es:Array Event}(h:aR P f fs w= .go f' fs' w' es):stepG P main (gZ C f fs) w= .go (gZ C f' fs') w' es:=by
 have ae:(kH C fs==CallKind.early)=false:=by
  cases fs
  .simpa[kH]using hk
  .rfl
 unfold aR at h;cases hr:f.ret with
 |true=>
  simp only[hr,if_true]at h;unfold sI at h;cases fs with
  |nil=>cases h
  |cons c rest=>
   simp only at h;cases hf:P.funcs[f.fn]? with
   |none=>rw[hf]at h;cases h
   |some fn=>
    rw[hf]at h;simp only at h;cases dp:(results fn f.tmps).run P w with
    |halt x w1=>rw[dp]at h;cases h
    |ok v w1=>
     rw[dp]at h;simp only[FO.go.injEq]at h;obtain⟨rfl,rfl,rfl,rfl⟩:=h;obtain⟨⟨ops,i,rs,k,ba⟩,_⟩:=gg c (by simp);rw[cK,cK,qw,<-sO (C:=C) c rest v ba];simp[G,stepG,unwind,doReturn,cur,Fr.top,zI hr,hf,dp,GStep.after]
 |false=>
  simp only[hr,Bool.false_eq_true,if_false]at h;unfold bg at h;have hm:=nk hr;rw[cK,dL];split at h
  .rename_i ba;cases fs with
   |nil=>cases h
   |cons c rest=>
    simp only[FO.go.injEq]at h;obtain⟨rfl,rfl,rfl,rfl⟩:=h;rw[cK,dL];simp[G,stepG,stepG.exec,ba,tail,Fr.mode,hr]
  iterate 5 (·rename_i ba;simp only[FO.go.injEq]at h;obtain⟨rfl,rfl,rfl,rfl⟩:=h;rw[cK,dL];simp[G,stepG,stepG.exec,ba,Fr.mode,hr])
  .rename_i c thn els k ba;have he:({fn:=f.fn,tmps:=f.tmps,todo:=f.todo++tail C fs,defers:=iN C fs,mode:=f.mode,kind:=kH C fs}:Frame).eval c=f.act.eval c:=by
    rw[uR];rfl
   split at h
   .rename_i b hb;simp only[FO.go.injEq]at h;obtain⟨rfl,rfl,rfl,rfl⟩:=h;rw[cK,dL];rw[hb]at he;simp only[hm,ba,List.cons_append]at he;simp[G,stepG,stepG.exec,ba,Fr.mode,hr,he]
   .cases h
  iterate 3 (·rename_i ba;simp only[FO.go.injEq]at h;obtain⟨rfl,rfl,rfl,rfl⟩:=h;rw[cK,dL];simp[G,stepG,stepG.exec,ba,Fr.mode,hr])
  .rename_i id k ba;split at h
   .rename_i k' dq;simp only[FO.go.injEq]at h;obtain⟨rfl,rfl,rfl,rfl⟩:=h;rw[cK,dL];have:=lH (tail C fs) dq;simp[G,stepG,stepG.exec,ba,Fr.mode,hr,this]
   .cases h
  .rename_i id ops draw k ba;cases draw with
   |true=>
    simp only[if_true,FO.go.injEq]at h;obtain⟨rfl,rfl,rfl,rfl⟩:=h;rw[cK,dL];simp[G,stepG,stepG.exec,ba,Fr.mode,hr,choose,Sem.run,Question.forced,Question.cut]
   |false=>
    simp only[Bool.false_eq_true,if_false,FO.go.injEq]at h;obtain⟨rfl,rfl,rfl,rfl⟩:=h;rw[cK,dL];simp[G,stepG,stepG.exec,ba,Fr.mode,hr]
  .rename_i ba;simp only[FO.go.injEq]at h;obtain⟨rfl,rfl,rfl,rfl⟩:=h;rw[cK,dL];simp[G,stepG,stepG.exec,ba,Fr.mode,hr]
  .rename_i ops i rest k ba;have cY:∀v,(cur C f fs).finish v=cur C (f.finish v) fs:=fun v=>sO f fs v ba;have bw:=dL C f fs;have he:(cur C f fs).eval=f.act.eval:=by rw[bw];exact uR _ rfl
   have YS:((ops[i]?).map (Region.wanted · (yielded ops f.tmps))).getD false=false->stepG P main (G (cur C f fs) (below C fs)) w= .go (G ((cur C f fs).finish undef) (below C fs)) w:=by
    intro hw;rw[bw];simp[G,stepG,stepG.exec,hm,ba,hw]
   have hgo:∀o,ops[i]? =some o->Region.wanted o (yielded ops f.tmps)=true->stepG P main (G (cur C f fs) (below C fs)) w=stepG.apply P true (cur C f fs) (below C fs) none (execOp f.act.eval o) w:=by
    intro o ho hw;rw[<-he];have e2:(cur C f fs).oper? =some o:=by rw[bw];simp[Frame.oper?,ba,ho]
    have e3:(cur C f fs).roundOf=none:=by rw[bw]
    have e1:(cur C f fs).todo= .inRegion ops (i::rest)::(k++tail C fs):=by rw[bw,ba];rfl
    have e4:(cur C f fs).mode= .run:=by rw[bw];exact hm
    have e5:(cur C f fs).tmps=f.tmps:=by rw[bw]
    simp[G,stepG,stepG.exec,stepG.oper,e4,e1,e2,e3,e5,ho,hw]
   rw[<-bw];cases ho:ops[i]? with
   |none=>
    rw[ho]at h;simp only[FO.go.injEq]at h;obtain⟨rfl,rfl,rfl,rfl⟩:=h;rw[YS (by simp[ho]),cY,cK]
   |some o=>
    rw[ho]at h;simp only at h;by_cases hw:Region.wanted o (yielded ops f.tmps)=true
    .simp only[hw,if_true]at h;rw[hgo o ho hw];unfold fK at h;have ot:((cur C f fs).kind==CallKind.early)=false:=by rw[bw];exact ae
     have cH:(cur C f fs).fn=f.fn:=by rw[bw]
     have eF:(cur C f fs).todo= .inRegion ops (i::rest)::(k++tail C fs):=by rw[bw,ba];rfl
     split at h
     .rename_i v w1 ag;simp only[FO.go.injEq]at h;obtain⟨rfl,rfl,rfl,rfl⟩:=h;rw[cK,<-cY];simp[stepG.apply,ag,ot,cH,GStep.after,G]
     .rename_i w1 ag;simp only[FO.go.injEq]at h;obtain⟨rfl,rfl,rfl,rfl⟩:=h;rw[cK,<-cY];simp[stepG.apply,ag,ot,cH,GStep.after,G]
     .rename_i g args w1 ag;simp only[FO.go.injEq]at h;obtain⟨rfl,rfl,rfl,rfl⟩:=h;rw[cK,qw,<-Rj];simp[stepG.apply,ag,ot,cH,eF,GStep.after,G]
     iterate 2 (·cases h)
    .simp only[hw,Bool.false_eq_true,if_false,FO.go.injEq]at h;obtain⟨rfl,rfl,rfl,rfl⟩:=h;rw[YS (by simp[ho];simpa using hw),cY,cK]
  .cases h
theorem Vp(gg:Wf fs){f':Fr}{fs':List Fr}{es:Array Event}(h:aR P f fs w= .go f' fs' w' es):Wf fs':=by
 unfold aR at h;cases hr:f.ret with
 |true=>
  simp only[hr,if_true]at h;unfold sI at h;cases fs with
  |nil=>cases h
  |cons c rest=>
   simp only at h
   (repeat' split at h)<;>first|(simp only[FO.go.injEq]at h;obtain⟨_,rfl,_,_⟩:=h;exact fun x hx=>gg x (by simp[hx]))|cases h
 |false=>
  simp only[hr,Bool.false_eq_true,if_false]at h;unfold bg at h;split at h;all_goals try (simp only[FO.go.injEq]at h;obtain⟨_,rfl,_,_⟩:=h;exact gg)
  .split at h
   .cases h
   .simp only[FO.go.injEq]at h;obtain⟨_,rfl,_,_⟩:=h;exact gg
  .split at h
   .simp only[FO.go.injEq]at h;obtain⟨_,rfl,_,_⟩:=h;exact gg
   .cases h
  .split at h
   .simp only[FO.go.injEq]at h;obtain⟨_,rfl,_,_⟩:=h;exact gg
   .cases h
  .split at h
   iterate 2 (·simp only[FO.go.injEq]at h;obtain⟨_,rfl,_,_⟩:=h;exact gg)
  .rename_i ops i rest k ba;split at h
   .simp only[FO.go.injEq]at h;obtain⟨_,rfl,_,_⟩:=h;exact gg
   .split at h
    .unfold fK at h;split at h
     iterate 2 (·simp only[FO.go.injEq]at h;obtain⟨_,rfl,_,_⟩:=h;exact gg)
     .simp only[FO.go.injEq]at h;obtain⟨_,rfl,_,_⟩:=h;intro x hx;rcases List.mem_cons.1 hx with rfl|hx
      .exact⟨⟨ops,i,rest,k,ba⟩,hr⟩
      .exact gg x hx
     iterate 2 (·cases h)
    .simp only[FO.go.injEq]at h;obtain⟨_,rfl,_,_⟩:=h;exact gg
  .cases h
end
end
section
open Go.Ren
variable{w w' p u:World}{o:Oper}{ρ':Array Nat}{v v':Value}{i:Nat}{k:List Item}
variable {P:Program}
def Af(o:Oper):Bool:=match o.op with
 | .select _ _| .recv _ _ _| .go _=>true
 |_=>false
def far:FuncId:=1000000
def opF(P:Program)(X A:FuncId->Bool)(K:Nat->Nat)(o:Oper):Bool:=opB P X A K o||(X far&&Af o)
theorem zl{α β:Type}{s:Sem α}{g:α->β}{n:β}(h:(s.bind fun x=>.pure (g x)).run P w= .ok n w'):∃x,n=g x:=by
 rw[run_bind]at h;cases hr:s.run P w with
 |ok a w1=>
  rw[hr]at h;simp only[Sem.run,Result.ok.injEq]at h;exact⟨a,h.1.symm⟩
 |halt x w1=>rw[hr]at h;cases h
theorem FC(h:Af o=true){ev:Operand->Value}{n:Next}(e:(execOp ev o).run P w= .ok n w'):(∃cs b sh,n= .comm cs b sh)\/∃d,n= .spawn d:=by
 obtain⟨dst,op,ty,pos,aft,gd⟩:=o;cases op<;>first|(simp[Af]at h;done)|skip
 .obtain⟨x,rfl⟩:=zl (g:=Next.spawn) e;exact .inr ⟨x,rfl⟩
 .rename_i ct ch ok;have e':((underlying ct).bind fun d=>match d with| .chan _ elem=>(zeroValue elem).bind fun z=>.pure (Next.comm #[{chan:=ev ch,send:=none,zero:=z}] true (.recv ok))|_=>stuck "receive: channel type expected").run P w= .ok n w':=e;rw[run_bind]at e';cases hr:(underlying ct).run P w with
  |halt x w1=>rw[hr]at e';cases e'
  |ok d w1=>
   rw[hr]at e';simp only at e';split at e'
   .obtain⟨x,rfl⟩:=zl (g:=fun z=>Next.comm #[{chan:=ev ch,send:=none,zero:=z}] true (.recv ok)) e';exact .inl ⟨_,_,_,rfl⟩
   .simp[stuck]at e'
 .rename_i cs b;obtain⟨x,rfl⟩:=zl (g:=fun c=>Next.comm c b .select) e;exact .inl ⟨_,_,_,rfl⟩
def nu(P:Program)(X A:FuncId->Bool)(K:Nat->Nat):Code->Bool
 | .skip| .exit _| .label _| .ret=>true
 | .region _ ops _=>ops.all (opF P X A K)
 | .seq a b=>nu P X A K a&&nu P X A K b
 | .cond c a b=>uU K c&&nu P X A K a&&nu P X A K b
 | .block _ a| .loop a=>nu P X A K a
 |_=>false
def uz(P:Program)(X A:FuncId->Bool)(K:Nat->Nat):Item->Bool
 | .code c| .inLoop c=>nu P X A K c
 | .inBlock _=>true
 | .inRegion ops _=>ops.all (opF P X A K)
 |_=>false
def TH(fn:Func)(K:Nat->Nat):Bool:=match fn.results.toList with| []=>true| [.tmp t]=>K t==0| [.tmp t,.tmp u]=>K t==0&&K u==0|_=>false
def iP(P:Program)(X A:FuncId->Bool)(K:Nat->Nat)(fn:Func):Bool:=
 (match fn.body with|some c=>nu P X A K c|none=>false)&&TH fn K&&(List.range fn.params.size).all (fun i=>jP 0 (K i))
structure Closed(P:Program)(X A:FuncId->Bool)(K:FuncId->Nat->Nat):Prop where
 ext:∀f,X f=true->∀(ρ:Array Nat) (az Zi:Array Value),bF ρ az Zi->SR P VN ρ (callFunc f az) (callFunc f Zi)
 fns:∀f,A f=true->∀fn,P.funcs[f]? =some fn->iP P X A (K f) fn=true
 has:∀f,A f=true->∃fn,P.funcs[f]? =some fn
section
variable {X A:FuncId->Bool} {K:FuncId->Nat->Nat} {ρ:Array Nat}
structure En(P:Program)(X A:FuncId->Bool)(K:FuncId->Nat->Nat)(ρ:Array Nat)(f f':Fr):Prop where
 fn:f'.fn=f.fn
 todo:f'.todo=f.todo
 ret:f'.ret=f.ret
 tmps:TR ρ (K f.fn) f.tmps f'.tmps
 ok:∀x∈f.todo,uz P X A (K f.fn) x=true
def Link(P:Program)(A:FuncId->Bool)(K:FuncId->Nat->Nat)(f c:Fr):Prop:=
 A f.fn=true/\c.ret=false/\∃ops i rest k o,c.todo= .inRegion ops (i::rest)::k/\ops[i]? =some o/\∀fn,P.funcs[f.fn]? =some fn->jP (rW fn) (Nb (K c.fn) o)=true
inductive Bc(P:Program)(X A:FuncId->Bool)(K:FuncId->Nat->Nat)(ρ:Array Nat):Fr->List Fr->Fr->List Fr->Prop
 |one {f f':Fr}:En P X A K ρ f f'->Bc P X A K ρ f [] f' []
 |cons {f f' c c':Fr} {fs fs':List Fr}:En P X A K ρ f f'->Link P A K f c->Bc P X A K ρ c fs c' fs'->Bc P X A K ρ f (c::fs) f' (c'::fs')
theorem En.mono(e:Ext ρ ρ'){f f':Fr}(h:En P X A K ρ f f'):En P X A K ρ' f f':=⟨h.fn,h.todo,h.ret,h.tmps.mono e,h.ok⟩
theorem Bc.mono(e:Ext ρ ρ'){f f':Fr}{fs fs':List Fr}(h:Bc P X A K ρ f fs f' fs'):Bc P X A K ρ' f fs f' fs':=by
 induction h with
 |one h=>exact .one (h.mono e)
 |cons h l _ ih=>exact .cons (h.mono e) l ih
theorem Bc.head{f f':Fr}{fs fs':List Fr}(h:Bc P X A K ρ f fs f' fs'):En P X A K ρ f f':=by cases h<;>assumption
theorem Bc.swap{f f' g g':Fr}{fs fs':List Fr}(h:Bc P X A K ρ f fs f' fs')(hg:En P X A K ρ g g')(e:g.fn=f.fn):Bc P X A K ρ g fs g' fs':=by
 cases h with
 |one _=>exact .one hg
 |cons _ l t=>exact .cons hg (by unfold Link at l⊢;rw[e];exact l) t
theorem Bc.wf{f f':Fr}{fs fs':List Fr}(h:Bc P X A K ρ f fs f' fs'):Wf fs:=by
 induction h with
 |one _=>exact fun _ h=>by cases h
 |cons _ l _ ih=>
  intro x hx;rcases List.mem_cons.1 hx with rfl|hx
  .obtain⟨_,hr,ops,i,rest,k,o,h1,_,_⟩:=l;exact⟨⟨ops,i,rest,k,h1⟩,hr⟩
  .exact ih x hx
theorem Bc.wf'{f f':Fr}{fs fs':List Fr}(h:Bc P X A K ρ f fs f' fs'):Wf fs':=by
 induction h with
 |one _=>exact fun _ h=>by cases h
 |cons _ l t ih=>
  intro x hx;rcases List.mem_cons.1 hx with rfl|hx
  .obtain⟨_,hr,ops,i,rest,k,o,h1,_,_⟩:=l;exact⟨⟨ops,i,rest,k,t.head.todo.trans h1⟩,t.head.ret.trans hr⟩
  .exact ih x hx
theorem Bc.XP{f f':Fr}{fs fs':List Fr}(h:Bc P X A K ρ f fs f' fs'):fs= []↔fs'= []:=by
 cases h<;>simp
theorem VR.VQ(h:VR ρ v v')(b:Bool):v= .bool b↔v'= .bool b:=by cases h<;>simp
theorem qU{f f':Fr}(h:TR ρ (K f.fn) f.tmps f'.tmps)(ops:Array Oper):yielded ops f'.tmps=yielded ops f.tmps:=by
 funext j;unfold yielded;cases hd:(ops[j]?).bind (·.dst)with
 |none=>rfl
 |some d=>
  simp only[Option.bind_some];cases e:f.tmps[d]? with
  |none=>
   have:f'.tmps[d]? =none:=by rw[Array.getElem?_eq_none_iff]at e⊢;rw[<-h.1];exact e
   rw[this]
  |some v=>
   have ai:d<f.tmps.size:=by
    rcases Nat.lt_or_ge d f.tmps.size with h'|h'
    .exact h'
    .rw[Array.getElem?_eq_none h']at e;cases e
   have e':f'.tmps[d]? =some (f'.tmps[d]'(h.1▸ai)):=Array.getElem?_eq_getElem _;have hv:=(h.2 d v _ e e').val;rw[e'];revert hv;generalize f'.tmps[d]'(h.1▸ai)=v';intro hv;cases hv<;>rfl
theorem gQ(f:Fr)(v:Value):(f.finish v).fn=f.fn:=by unfold Fr.finish;split<;>rfl
theorem Ah(f:Fr)(v:Value):(f.finish v).ret=f.ret:=by unfold Fr.finish;split<;>rfl
theorem En.finish{f f':Fr}(h:En P X A K ρ f f'){ops:Array Oper}{rest:List Nat}(ba:f.todo= .inRegion ops (i::rest)::k)
  (hv:∀o,ops[i]? =some o->CR ρ (Nb (K f.fn) o) v v'):En P X A K ρ (f.finish v) (f'.finish v'):=by
 have eF:f'.todo= .inRegion ops (i::rest)::k:=h.todo.trans ba;refine⟨by rw[gQ,gQ];exact h.fn,by simp only[Fr.finish,ba,eF],by rw[Ah,Ah];exact h.ret,?_,fun x hx=>?_⟩
 .rw[gQ];simp only[Fr.finish,ba,eF];cases ho:ops[i]? with
  |none=>exact h.tmps
  |some o=>
   have:=hv o ho;cases hd:o.dst with
   |none=>simp only[Option.bind_some,hd];exact h.tmps
   |some d=>
    simp only[Option.bind_some,hd];refine h.tmps.set d ?_;simpa[Nb,hd]using this
 .rw[gQ];simp only[Fr.finish,ba]at hx;rcases List.mem_cons.1 hx with rfl|hx
  .exact h.ok (.inRegion ops (i::rest)) (by rw[ba];simp)
  .exact h.ok x (by rw[ba];simp[hx])
theorem En.enter(hC:Closed P X A K){g:FuncId}{fn:Func}{a a':Array Value}(ha:bF ρ a a')(hf:P.funcs[g]? =some fn)(hA:A g=true)(hs:a.size<=fn.params.size):En P X A K ρ (qj P g a) (qj P g a'):=by
 have hB:=hC.fns g hA fn hf;simp only[iP,Bool.and_eq_true]at hB;obtain⟨⟨hc,_⟩,hp⟩:=hB;cases hb:fn.body with
 |none=>rw[hb]at hc;cases hc
 |some c=>
  rw[hb]at hc;refine⟨rfl,rfl,rfl,?_,fun x hx=>?_⟩
  .simp only[qj,hf,Option.map_some,Option.getD_some];refine⟨by simp[ha.1],fun i v v' h1 h2=>?_⟩;rw[Array.getElem?_append]at h1 h2;rw[<-ha.1]at h2;by_cases hi:i<a.size
   .simp only[hi,if_true]at h1 h2;have hk:jP 0 (K g i)=true:=by
     have:=List.all_eq_true.1 hp i (by simp;omega);simpa using this
    exact CR.up hk (ha.2 i v v' h1 h2)
   .simp only[hi,if_false]at h1 h2;rw[Array.getElem?_replicate]at h1 h2;split at h1
    .split at h2
     .obtain rfl:=Option.some.inj h1;obtain rfl:=Option.some.inj h2;exact CR.undef _
     .rename_i hx hy;exact absurd hx hy
    .cases h1
  .simp only[qj,hf,Option.bind_some,hb,Option.getD_some,List.mem_singleton]at hx;subst hx;exact hc
def V_(P:Program)(X A:FuncId->Bool)(K:FuncId->Nat->Nat)(ρ:Array Nat)(p u:World)(f':Fr)(fs':List Fr):FO->Prop
 | .go f1 fs1 p1 _=>∃jo JA FB u1 es',aR P f' fs' u= .go JA FB u1 es'/\Bc P X A K jo f1 fs1 JA FB/\WR jo p1 u1/\Grow ρ p u jo p1 u1/\∀e∈es',YF jo p1 e
 |_=>True
theorem mem_seen{fn:FuncId}{es:Array Event}{e:Event}(h:e∈seen P fn es):e∈es:=by
 unfold seen at h;have key:∀(l:List Event) (q:Bool) (kept:Array Event),e∈(l.foldl (fun(x:Bool×Array Event) e=>match e.loc with| .mark (.extern f)=>((P.funcs[f]?).any (·.norace),x.2)|_=>(x.1,if x.1&& !e.sync then x.2 else x.2.push e)) (q,kept)).2->e∈kept\/e∈l:=by
  intro l;induction l with
  |nil=>exact fun q kept h=>.inl h
  |cons y l ih=>
   intro q kept h;simp only[List.foldl_cons]at h;rcases ih _ _ h with h1|h1
   .split at h1
    .exact .inl h1
    .simp only at h1;split at h1
     .exact .inl h1
     .rcases Array.mem_push.1 h1 with h1|rfl
      .exact .inl h1
      .exact .inr (by simp)
   .exact .inr (by simp[h1])
 dsimp only at h;rw[<-Array.foldl_toList]at h;rcases key _ _ _ h with h1|h1
 .simp at h1
 .exact Array.mem_toList_iff.1 h1
theorem Cj{α:Type}(s:Sem α){r:Result α}{es':Array Event}(h:s.runT P w #[]=(r,#[]++es')):s.run P w=r/\s.events P w #[]=es':=by
 have e:s.runT P w #[]=(s.run P w,s.events P w #[]):=Sem.runT_eq P s w #[];rw[h]at e;simp only[Prod.mk.injEq,Array.empty_append]at e;exact⟨e.1.symm,e.2.symm⟩
theorem Rb(hC:Closed P X A K){f f':Fr}{fs fs':List Fr}(h:Bc P X A K ρ f fs f' fs')(hw:WR ρ p u)(hr:f.ret=false){ops:Array Oper}{rest:List Nat}
  (ba:f.todo= .inRegion ops (i::rest)::k)(ho:ops[i]? =some o)(cg:∀p u,fK P f fs o p=aR P f fs p->fK P f' fs' o u=aR P f' fs' u):
  fK P f fs o p=aR P f fs p->V_ P X A K ρ p u f' fs' (fK P f fs o p):=by
 intro he;have cg:=cg p u he;have hh:=h.head;have hF:opF P X A (K f.fn) o=true:=by
  have:=hh.ok (.inRegion ops (i::rest)) (by rw[ba];simp);exact Array.all_eq_true_iff_forall_mem.1 this o (Array.mem_of_getElem? ho)
 simp only[opF,Bool.or_eq_true,Bool.and_eq_true]at hF;rcases hF with hB|⟨_,hfo⟩;rotate_left
 .unfold fK;cases ag:(execOp f.act.eval o).run P p with
  |halt x p1=>cases x<;>trivial
  |ok n p1=>rcases FC hfo ag with⟨cs,b,sh,rfl⟩|⟨d,rfl⟩<;>trivial
 have hs:=(IC hC.ext (a:=f.act) (a':=f'.act) hh.tmps hB).run p u hw;unfold RQ at hs;unfold fK;unfold fK at cg;cases ag:(execOp f.act.eval o).run P p with
 |halt x p1=>cases x<;>trivial
 |ok n p1=>
  rw[ag]at hs;obtain⟨jo,n',u1,es',h1,h2,h3,h4,h5⟩:=hs #[];obtain⟨h6,h7⟩:=Cj _ h1;rw[h6,h7]at cg;have dt:∀e∈seen P f'.fn es',YF jo p1 e:=fun e he=>h5 e (mem_seen he);cases h2 with
  |value hv=>
   refine⟨jo,_,_,u1,_,cg.symm,?_,h3,h4,dt⟩;exact(h.mono h4.ext).swap ((hh.mono h4.ext).finish ba fun o' gz=>by rw[ho]at gz;obtain rfl:=Option.some.inj gz;exact hv) (gQ _ _)
  |skip=>
   refine⟨jo,_,_,u1,_,cg.symm,?_,h3,h4,dt⟩;exact(h.mono h4.ext).swap ((hh.mono h4.ext).finish ba fun o' gz=>CR.undef _) (gQ _ _)
  |enter g fn ha hf hA cC mc=>
   refine⟨jo,_,_,u1,_,cg.symm,?_,h3,h4,dt⟩;refine .cons (En.enter hC ha hf hA cC) ⟨hA,hr,ops,i,rest,k,o,ba,ho,fun fn' Fo=>?_⟩ (h.mono h4.ext);have:P.funcs[g]? =some fn':=Fo;rw[hf]at this;obtain rfl:=Option.some.inj this;exact mc
theorem Kv{f f':Fr}(h:TR ρ (K f.fn) f.tmps f'.tmps){t:Nat}(ht:K f.fn t=0):SV ρ (f.tmps.getD t undef) (f'.tmps.getD t undef):=by
 have:=TR.eval (a:=f.act) (a':=f'.act) h (x:=.tmp t) rfl;rw[ht]at this;exact this
theorem BN{f f':Fr}(h:TR ρ (K f.fn) f.tmps f'.tmps){fn:Func}(hb:TH fn (K f.fn)=true)(p u:World):
  ∃v v',(results fn f.tmps).run P p= .ok v p/\(results fn f'.tmps).run P u= .ok v' u/\(results fn f.tmps).events P p #[]=#[]/\(results fn f'.tmps).events P u #[]=#[]/\CR ρ (rW fn) v v':=by
 unfold TH at hb;split at hb
 .rename_i hl;have hr:fn.results=#[]:=by apply Array.ext';simpa using hl
  refine⟨.tuple #[],.tuple #[],by simp[results,hr],by simp[results,hr],Conc.events_results_none hr _ _,Conc.events_results_none hr _ _,?_⟩;simp only[rW,hr];exact⟨#[],#[],.inr ⟨rfl,rfl⟩,bF.empty⟩
 .rename_i t hl;have hr:fn.results=#[.tmp t]:=by apply Array.ext';simpa using hl
  refine⟨f.tmps.getD t undef,f'.tmps.getD t undef,by simp[results,hr],by simp[results,hr],Conc.events_results_tmp hr _ _,Conc.events_results_tmp hr _ _,?_⟩;simp only[rW,hr];exact Kv h (by simpa using hb)
 .rename_i t t2 hl;have hr:fn.results=#[.tmp t,.tmp t2]:=by apply Array.ext';simpa using hl
  simp only[Bool.and_eq_true,beq_iff_eq]at hb;refine⟨.tuple #[f.tmps.getD t undef,f.tmps.getD t2 undef],.tuple #[f'.tmps.getD t undef,f'.tmps.getD t2 undef],by simp[results,hr],by simp[results,hr],Conc.events_results_tmp2 hr _ _,Conc.events_results_tmp2 hr _ _,?_⟩;simp only[rW,hr];exact⟨_,_,.inr ⟨rfl,rfl⟩,by simpa using(bF.one (Kv h hb.1)).push (Kv h hb.2)⟩
 .cases hb
theorem FD{id:Nat}{Q:Item->Prop}:∀{k k':List Item},exitTo id k=some k'->(∀x∈k,Q x)->∀x∈k',Q x
 | [],_,h,_=>by cases h
 |y::k,k',h,hq=>by
  have sT:∀x∈k,Q x:=fun x hx=>hq x (by simp[hx]);cases y<;>simp only[exitTo]at h<;>first
   |exact FD h sT
   |(split at h
     .obtain rfl:=Option.some.inj h;exact sT
     .exact FD h sT)
theorem En.todo'{f f':Fr}(h:En P X A K ρ f f')(hk:∀x∈k,uz P X A (K f.fn) x=true):En P X A K ρ {f with todo:=k} {f' with todo:=k}:=⟨h.fn,rfl,h.ret,h.tmps,hk⟩
theorem En.out{f f':Fr}(h:En P X A K ρ f f'):En P X A K ρ {f with ret:=true} {f' with ret:=true}:=⟨h.fn,h.todo,rfl,h.tmps,h.ok⟩
theorem DT(hC:Closed P X A K){f f':Fr}{fs fs':List Fr}(h:Bc P X A K ρ f fs f' fs')(hw:WR ρ p u):V_ P X A K ρ p u f' fs' (aR P f fs p):=by
 have hh:=h.head;unfold aR;cases hr:f.ret with
 |true=>
  have fR:f'.ret=true:=hh.ret.trans hr;simp only[if_true];unfold sI;cases h with
  |one _=>trivial
  |@cons _ _ c c' fs fs' hf l t=>
   obtain⟨hA,Ft,ops,i,rest,k,o,ba,ho,mc⟩:=l;simp only;cases cH:P.funcs[f.fn]? with
   |none=>trivial
   |some fn=>
    have hB:=hC.fns f.fn hA fn cH;simp only[iP,Bool.and_eq_true]at hB;obtain⟨v,v',h1,h2,h3,h4,h5⟩:=BN (P:=P) hh.tmps hB.1.2 p u;simp only[h1];refine⟨ρ,c'.finish v',fs',u,#[],?_,?_,hw,.refl hw,fun e he=>by simp at he⟩
    .have yz:P.funcs[f'.fn]? =some fn:=by rw[hh.fn];exact cH
     simp only[aR,fR,if_true,sI,yz,h2,h4];rfl
    .exact t.swap (t.head.finish ba fun o' gz=>by rw[ho]at gz;obtain rfl:=Option.some.inj gz;exact CR.up (mc fn cH) h5) (gQ _ _)
 |false=>
  have fR:f'.ret=false:=hh.ret.trans hr;simp only[Bool.false_eq_true,if_false];have go:∀(g g':Fr),En P X A K ρ g g'->g.fn=f.fn->aR P f' fs' u= .go g' fs' u #[]->V_ P X A K ρ p u f' fs' (.go g fs p #[]):=fun g g' hg cH e=>
   ⟨ρ,g',fs',u,#[],e,h.swap hg cH,hw,.refl hw,fun e he=>by simp at he⟩
  have e0:aR P f' fs' u=bg P f' fs' u:=by simp[aR,fR]
  have BR:∀{x:Item} {k:List Item},f.todo=x::k->uz P X A (K f.fn) x=true/\∀y∈k,uz P X A (K f.fn) y=true:=fun ba=>⟨hh.ok _ (by rw[ba];simp),fun y hy=>hh.ok y (by rw[ba];simp[hy])⟩;unfold bg;split
  .rename_i ba;have eF:=hh.todo.trans ba;cases h with
   |one _=>trivial
   |cons hf l t=>exact go _ _ hh.out rfl (by rw[e0];simp[bg,eF])
  .rename_i ba;have eF:=hh.todo.trans ba;exact go _ _ hh.out rfl (by rw[e0];simp[bg,eF])
  iterate 3 (·rename_i ba;have eF:=hh.todo.trans ba;exact go _ _ (hh.todo' (BR ba).2) rfl (by rw[e0];simp[bg,eF]))
  .rename_i a b k ba;have eF:=hh.todo.trans ba;have:=(BR ba).1;simp only[uz,nu,Bool.and_eq_true]at this;refine go _ _ (hh.todo' (k:=.code a:: .code b::k) fun x hx=>?_) rfl (by rw[e0];simp[bg,eF]);rcases List.mem_cons.1 hx with rfl|hx
   .exact this.1
   .rcases List.mem_cons.1 hx with rfl|hx
    .exact this.2
    .exact(BR ba).2 x hx
  .rename_i c thn els k ba;have eF:=hh.todo.trans ba;have:=(BR ba).1;simp only[uz,nu,Bool.and_eq_true]at this;have hsc:=cB (a:=f.act) (a':=f'.act) hh.tmps this.1.1;split
   .rename_i b hb;rw[hb]at hsc;have cU:f'.act.eval c= .bool b:=(VR.VQ hsc.val b).1 rfl;refine go _ _ (hh.todo' (k:=.code (if b then thn else els)::k) fun x hx=>?_) rfl (by rw[e0];simp[bg,eF,cU]);rcases List.mem_cons.1 hx with rfl|hx
    .cases b
     .exact this.2
     .exact this.1.2
    .exact(BR ba).2 x hx
   .trivial
  .rename_i id body k ba;have eF:=hh.todo.trans ba;refine go _ _ (hh.todo' (k:=.code body:: .inBlock id::k) fun x hx=>?_) rfl (by rw[e0];simp[bg,eF]);rcases List.mem_cons.1 hx with rfl|hx
   .exact(BR ba).1
   .rcases List.mem_cons.1 hx with rfl|hx
    .rfl
    .exact(BR ba).2 x hx
  .rename_i body k ba;have eF:=hh.todo.trans ba;refine go _ _ (hh.todo' (k:=.code body:: .inLoop body::k) fun x hx=>?_) rfl (by rw[e0];simp[bg,eF]);rcases List.mem_cons.1 hx with rfl|hx
   .exact(BR ba).1
   .rcases List.mem_cons.1 hx with rfl|hx
    .exact(BR ba).1
    .exact(BR ba).2 x hx
  .rename_i body k ba;have eF:=hh.todo.trans ba;refine go _ _ (hh.todo' (k:=.code body:: .inLoop body::k) fun x hx=>?_) rfl (by rw[e0];simp[bg,eF]);rcases List.mem_cons.1 hx with rfl|hx
   .exact(BR ba).1
   .rcases List.mem_cons.1 hx with rfl|hx
    .exact(BR ba).1
    .exact(BR ba).2 x hx
  .rename_i id k ba;have eF:=hh.todo.trans ba;split
   .rename_i k' dq;exact go _ _ (hh.todo' (FD dq (BR ba).2)) rfl (by rw[e0];simp[bg,eF,dq])
   .trivial
  .rename_i id ops draw k ba;have eF:=hh.todo.trans ba;cases draw with
   |true=>
    simp only[if_true];have lp:WR ρ {p with drawn:=p.drawn+1} {u with drawn:=u.drawn+1}:=⟨hw.size,hw.rows,hw.inj,hw.low,hw.cell,hw.free,hw.tape,by rw[hw.drawn]⟩;refine⟨ρ,{f' with todo:=.inRegion ops (Region.schedule (P.follows .mixedOrders) ops (p.tape p.drawn (.order f.fn id)))::k},fs',{u with drawn:=u.drawn+1},#[],?_,h.swap (hh.todo' fun x hx=>?_) rfl,lp,?_,fun e he=>by simp at he⟩
    .rw[e0];simp[bg,eF,hw.tape,hw.drawn,hh.fn]
    .rcases List.mem_cons.1 hx with rfl|hx
     .exact(BR ba).1
     .exact(BR ba).2 x hx
    .exact⟨.refl _,Nat.le_refl _,fun _ _ _=>⟨rfl,rfl⟩,fun b c hb hc=>by have:=lt_of_some hc;have:=hw.size;omega,Nat.le_refl _,fun _ _ _=>rfl,fun c h1 h2=>by simp only at h2;omega,fun _ _ _=>rfl,rfl,rfl,rfl,rfl,rfl,fun h=>h⟩
   |false=>
    simp only[Bool.false_eq_true,if_false];refine go _ _ (hh.todo' (k:=.inRegion ops (List.range ops.size)::k) fun x hx=>?_) rfl (by rw[e0];simp[bg,eF]);rcases List.mem_cons.1 hx with rfl|hx
    .exact(BR ba).1
    .exact(BR ba).2 x hx
  .rename_i ba;have eF:=hh.todo.trans ba;exact go _ _ (hh.todo' (BR ba).2) rfl (by rw[e0];simp[bg,eF])
  .rename_i ops i rest k ba;have eF:=hh.todo.trans ba;split
   .rename_i ho;exact go _ (f'.finish undef) (hh.finish ba fun o gz=>by rw[ho]at gz;cases gz) (gQ _ _) (by rw[e0];simp[bg,eF,ho])
   .rename_i o ho;by_cases fN:Region.wanted o (yielded ops f.tmps)=true
    .simp only[fN,if_true];have e1:fK P f fs o p=aR P f fs p:=by simp[aR,hr,bg,ba,ho,fN]
     exact Rb hC h hw hr ba ho (fun _ _ _=>by simp[aR,fR,bg,eF,ho,qU hh.tmps,fN]) e1
    .simp only[fN];exact go _ _ (hh.finish ba fun o gz=>CR.undef _) (gQ _ _) (by rw[e0];simp[bg,eF,ho,qU hh.tmps,fN])
  .trivial
end
end
