import Derived.Test.YtmfpiodlecapiaaJ12
import Derived.Laws.Sem
import Derived.Conc.Own3
namespace Go.Ren
variable {P:Program} {ρ:Array Nat}
def tyInt(P:Program)(t:TypeId):Bool:=match P.underlying t with|some (.int _)=>true|_=>false
def tyB(P:Program)(t:TypeId):Bool:=match P.underlying t with|some (.int _)|some .bool|some (.slice _)=>true|_=>false
def tyNA(P:Program)(t:TypeId):Bool:=match P.underlying t with|some (.struct _)|some (.array _ _)=>false|_=>true
def zeroB(P:Program)(e:TypeId):Bool:=match P.info? e with|some i=>(match i.zero with|some v=>v.cells.all flatB|none=>true)|none=>true
def tyS(P:Program)(t:TypeId):Bool:=match P.underlying t with|some (.slice e)=>zeroB P e|_=>false
theorem tyInt_ok{t:TypeId}(h:tyInt P t=true):IT P t:=by
 intro d hd;unfold tyInt at h;rw[hd]at h;cases d<;>first|exact⟨_,rfl⟩|cases h
theorem tyB_ok{t:TypeId}(h:tyB P t=true):BT P t:=by
 intro d hd;unfold tyB at h;rw[hd]at h;cases d<;>first|exact .inl ⟨_,rfl⟩|exact .inr (.inl rfl)|exact .inr (.inr ⟨_,rfl⟩)|cases h
theorem tyNA_ok{t:TypeId}(h:tyNA P t=true):NA P t:=by
 intro d hd;unfold tyNA at h;rw[hd]at h;refine⟨fun fs e=>?_,fun n el e=>?_⟩
 ·subst e;cases h
 ·subst e;cases h
theorem zeroB_ok{e:TypeId}(h:zeroB P e=true):ZOk P e:=by
 intro i v hi hv ρ;unfold zeroB at h;rw[hi]at h;simp only[hv]at h;exact flats_all h
theorem tyS_ok{t:TypeId}(h:tyS P t=true):ST P t:=by
 unfold tyS at h;cases hd:P.underlying t with
 |none=>rw[hd]at h;cases h
 |some d=>
  rw[hd]at h;cases d<;>first|cases h|exact⟨_,hd,zeroB_ok h⟩
def subB(k d:Nat):Bool:=k==d||d==2
theorem CR.up{k d:Nat}(h:subB k d=true){v v':Value}(hv:CR ρ k v v'):CR ρ d v v':=by
 unfold subB at h;simp only[Bool.or_eq_true,beq_iff_eq]at h;rcases h with rfl|rfl
 ·exact hv
 ·exact hv.val
def fieldB(P:Program)(s:TypeId)(f:Nat):Bool:=match P.underlying s with
 |some (.struct fs)=>(match fs[f]? with|some x=>(match P.info? x.type with|some i=>decide (i.size≠0)|none=>true)|none=>true)
 |_=>true
def scB(K:Nat->Nat)(x:Operand):Bool:=opCls K x==some 0
def anyB(K:Nat->Nat)(x:Operand):Bool:=(opCls K x).isSome
def dcls(K:Nat->Nat)(o:Oper):Nat:=(o.dst.map K).getD 2
def resCls(fn:Func):Nat:=if fn.results.size=1 then 0 else 1
inductive NR(P:Program)(A:FuncId->Bool)(k:Nat)(ρ:Array Nat):Next->Next->Prop
 |value {v v':Value}:CR ρ k v v'->NR P A k ρ (.value v) (.value v')
 |skip:NR P A k ρ .skip .skip
 |enter (f:FuncId) (fn:Func) {a a':Array Value}:AllR ρ a a'->P.funcs[f]? =some fn->A f=true->a.size<=fn.params.size->subB (resCls fn) k=true->NR P A k ρ (.enter f a) (.enter f a')
def VN(ρ:Array Nat)(x y:Next):Prop:=∃v v',x= .value v/\y= .value v'/\SV ρ v v'
theorem sr_value{A:FuncId->Bool}{k:Nat}{s s':Sem Value}(h:SR P (CRR k) ρ s s'):SR P (NR P A k) ρ (do Pure.pure (Next.value (<-s))) (do Pure.pure (Next.value (<-s'))):=h.seq fun _ _ _ _ hv=>SR.ret (.value hv)
theorem sr_unit{A:FuncId->Bool}{k:Nat}{s s':Sem Unit}(h:SR P EqR ρ s s'):SR P (NR P A k) ρ (do s;Pure.pure Next.skip) (do s';Pure.pure Next.skip):=h.seq fun _ _ _ _ _=>SR.ret .skip
def callB(P:Program)(X A:FuncId->Bool)(K:Nat->Nat)(d:Nat)(c:Call):Bool:=
 match c.callee with
 | .builtin .len=>(match c.args.toList,c.argTypes.toList with| [x],[t]=>tyS P t&&scB K x|_,_=>false)&&subB 0 d
 | .builtin .append=>(match c.args.toList,c.argTypes.toList with| [x,y],[t,t']=>tyS P t&&tyS P t'&&scB K x&&scB K y|_,_=>false)&&subB 0 d
 | .builtin .copy=>(match c.args.toList,c.argTypes.toList with| [x,y],[_,_]=>scB K x&&scB K y|_,_=>false)&&subB 0 d
 | .value (.func f)=>c.args.all (scB K)&&((X f&&subB 0 d)||(match P.funcs[f]? with|some fn=>fn.name != "runtime.NumGoroutine" &&fn.body.isSome&&subB (resCls fn) d&&A f&&c.args.size<=fn.params.size|none=>false))
 |_=>false
def opB(P:Program)(X A:FuncId->Bool)(K:Nat->Nat)(o:Oper):Bool:=
 let d:=dcls K o
 match o.op with
 | .move x| .assign x=>(match opCls K x with|some k=>subB k d|none=>false)
 | .load t a=>tyNA P t&&anyB K a&&subB 0 d
 | .store _ a x=>anyB K a&&(scB K x||opCls K x==some 1)
 | .alloc t=>zeroB P t&&subB 2 d
 | .fieldAddr s x f=>anyB K x&&fieldB P s f&&subB 2 d
 | .build t ps=>zeroB P t&&ps.all (fun p=>scB K p.2)&&subB 1 d
 | .binOp _ t x y _=>tyB P t&&scB K x&&scB K y&&subB 0 d
 | .unOp _ _ x=>scB K x&&subB 0 d
 | .convert s t x=>tyInt P s&&tyInt P t&&scB K x&&subB 0 d
 | .indexAddr _ x i=>scB K x&&scB K i&&subB 2 d
 | .slice _ x lo hi mx=>scB K x&&lo.all (scB K)&&hi.all (scB K)&&mx.all (scB K)&&subB 0 d
 | .makeSlice t l c=>tyS P t&&scB K l&&scB K c&&subB 0 d
 | .buildSlice t _ ps=>tyS P t&&ps.all (fun p=>scB K p.2)&&subB 0 d
 | .extract x i=>(opCls K x==some 1||(opCls K x==some 4&&decide (i<2)))&&subB 0 d
 | .makeInterface _ x=>anyB K x&&subB 3 d
 | .panic x=>opCls K x==some 3
 | .call c=>callB P X A K d c
 |_=>false
theorem sc_eval{K:Nat->Nat}{a a':Act}(h:TR ρ K a.tmps a'.tmps){x:Operand}(hx:scB K x=true):SV ρ (a.eval x) (a'.eval x):=h.eval (k:=0) (by simpa[scB]using hx)
theorem any_eval{K:Nat->Nat}{a a':Act}(h:TR ρ K a.tmps a'.tmps){x:Operand}(hx:anyB K x=true):VR ρ (a.eval x) (a'.eval x):=by
 unfold anyB at hx;cases e:opCls K x with
 |none=>rw[e]at hx;cases hx
 |some k=>exact(h.eval e).val
theorem opt_eval{K:Nat->Nat}{a a':Act}(h:TR ρ K a.tmps a'.tmps){x:Option Operand}(hx:x.all (scB K)=true):OS ρ (x.map a.eval) (x.map a'.eval):=by
 cases x with
 |none=>exact .none
 |some x=>exact .some (sc_eval h hx)
theorem SR.up{k d:Nat}(h:subB k d=true){s s':Sem Value}(hs:SR P (CRR k) ρ s s'):SR P (CRR d) ρ s s':=hs.mono fun _ _ _ _ x=>CR.up h x
theorem args_eval{K:Nat->Nat}{a a':Act}(h:TR ρ K a.tmps a'.tmps){xs:Array Operand}(hx:xs.all (scB K)=true):AllR ρ (xs.map a.eval) (xs.map a'.eval):=
 AllR.map _ fun x hm=>sc_eval h (Array.all_eq_true_iff_forall_mem.1 hx x hm)
theorem sr_call{X A:FuncId->Bool}{K:Nat->Nat}{d:Nat}{a a':Act}(hX:∀f,X f=true->∀(ρ:Array Nat) (as as':Array Value),AllR ρ as as'->SR P VN ρ (callFunc f as) (callFunc f as'))
  (h:TR ρ K a.tmps a'.tmps){c:Call}(ty:TypeId)(hc:callB P X A K d c=true):SR P (NR P A d) ρ (do let x<-resolve a.eval c ty;invoke x.target x.args) (do let x<-resolve a'.eval c ty;invoke x.target x.args):=by
 obtain⟨callee,args,tys⟩:=c;unfold callB at hc;split at hc
 ·
  rename_i hcal;simp only at hcal;subst hcal;simp only[Bool.and_eq_true]at hc;obtain⟨hc,hd⟩:=hc;split at hc
  ·rename_i x t e1 e2;obtain rfl:args=#[x]:=by apply Array.ext';simpa using e1
   obtain rfl:tys=#[t]:=by apply Array.ext';simpa using e2
   simp only[Bool.and_eq_true]at hc;show SR P (NR P A d) ρ (do Pure.pure (Next.value (<-Builtin.len_ #[t] ty (#[x].map a.eval)))) (do Pure.pure (Next.value (<-Builtin.len_ #[t] ty (#[x].map a'.eval))));simp only[List.map_toArray,List.map_cons,List.map_nil];exact sr_value ((sr_len (ty:=ty) (tyS_ok hc.1) (sc_eval h hc.2)).up hd)
  ·cases hc
 ·rename_i hcal;simp only at hcal;subst hcal;simp only[Bool.and_eq_true]at hc;obtain⟨hc,hd⟩:=hc;split at hc
  ·rename_i x y t t' e1 e2;obtain rfl:args=#[x,y]:=by apply Array.ext';simpa using e1
   obtain rfl:tys=#[t,t']:=by apply Array.ext';simpa using e2
   simp only[Bool.and_eq_true]at hc;show SR P (NR P A d) ρ (do Pure.pure (Next.value (<-Builtin.append_ #[t,t'] ty (#[x,y].map a.eval)))) (do Pure.pure (Next.value (<-Builtin.append_ #[t,t'] ty (#[x,y].map a'.eval))));simp only[List.map_toArray,List.map_cons,List.map_nil];exact sr_value ((sr_append (ty:=ty) (tyS_ok hc.1.1.1) (tyS_ok hc.1.1.2) (sc_eval h hc.1.2) (sc_eval h hc.2)).up hd)
  ·cases hc
 ·rename_i hcal;simp only at hcal;subst hcal;simp only[Bool.and_eq_true]at hc;obtain⟨hc,hd⟩:=hc;split at hc
  ·rename_i x y t t' e1 e2;obtain rfl:args=#[x,y]:=by apply Array.ext';simpa using e1
   obtain rfl:tys=#[t,t']:=by apply Array.ext';simpa using e2
   simp only[Bool.and_eq_true]at hc;show SR P (NR P A d) ρ (do Pure.pure (Next.value (<-Builtin.copy_ #[t,t'] ty (#[x,y].map a.eval)))) (do Pure.pure (Next.value (<-Builtin.copy_ #[t,t'] ty (#[x,y].map a'.eval))));simp only[List.map_toArray,List.map_cons,List.map_nil];exact sr_value ((sr_copy (t:=t) (t':=t') (ty:=ty) (sc_eval h hc.1) (sc_eval h hc.2)).up hd)
  ·cases hc
 ·rename_i f hcal;simp only at hcal;subst hcal;simp only[Bool.and_eq_true,Bool.or_eq_true]at hc;obtain⟨ha,hc⟩:=hc;have hargs:=args_eval h ha;show SR P (NR P A d) ρ (callFunc f (#[]++args.map a.eval++ #[])) (callFunc f (#[]++args.map a'.eval++ #[]));simp only[Array.empty_append,Array.append_empty];rcases hc with⟨hx,hd⟩|hc
  ·refine SR.mono (hX f hx ρ _ _ hargs) fun ρ' x y _ hxy=>?_;obtain⟨v,v',rfl,rfl,hv⟩:=hxy;exact .value (CR.up hd hv)
  ·unfold callFunc;refine sr_program ?_;cases hf:P.funcs[f]? with
   |none=>exact qF
   |some fn=>
    rw[hf]at hc;simp only[Bool.and_eq_true,bne_iff_ne,ne_eq,decide_eq_true_eq]at hc;have hn:(fn.name== "runtime.NumGoroutine")=false:=by simpa using hc.1.1.1.1
    have hb:fn.body.isNone=false:=by
     have:=hc.1.1.1.2;cases hbo:fn.body with
     |none=>rw[hbo]at this;cases this
     |some _=>rfl
    simp only[hn,hb,Bool.false_eq_true,if_false];exact SR.ret (.enter f fn hargs hf hc.1.2 (by simpa using hc.2) hc.1.1.2)
 ·cases hc
theorem parts_eval{K:Nat->Nat}{a a':Act}(h:TR ρ K a.tmps a'.tmps){ps:Array (Nat×Operand)}(hx:ps.all (fun p=>scB K p.2)=true):PS ρ (ps.map fun p=>(p.1,a.eval p.2)).toList (ps.map fun p=>(p.1,a'.eval p.2)).toList:=by
 have:∀l:List (Nat×Operand),(∀p∈l,scB K p.2=true)->PS ρ (l.map fun p=>(p.1,a.eval p.2)) (l.map fun p=>(p.1,a'.eval p.2)):=by
  intro l;induction l with
  |nil=>exact fun _=>.nil
  |cons p l ih=>exact fun hl=>.cons _ (sc_eval h (hl p (by simp))) (ih fun q hq=>hl q (by simp[hq]))
 simp only[Array.toList_map];exact this _ fun p hp=>Array.all_eq_true_iff_forall_mem.1 hx p (Array.mem_toList_iff.1 hp)
theorem sr_alloc{t:TypeId}(hz:ZOk P t):SR P (CRR 2) ρ (Instr.alloc t true (.tuple #[])) (Instr.alloc t true (.tuple #[])):=by
 unfold Instr.alloc;refine sr_zeroValue.seq fun ρ1 v v' e1 h=>?_;obtain⟨rfl,i,hi,hv⟩:=h;dsimp only;unfold newVar;exact(sr_newRow t (hz _ _ hi hv _)).seq fun ρ2 a b _ hab=>SR.ret (VR.ptr hab)
theorem sr_fieldAt{s:TypeId}{f:Nat}(hf:fieldB P s f=true){x x':Value}(hx:VR ρ x x'):SR P (CRR 2) ρ (Instr.fieldAt s x f) (Instr.fieldAt s x' f):=by
 unfold Instr.fieldAt;refine(sr_underlying s).seq fun ρ1 d d' e1 h=>?_;obtain⟨rfl,hu⟩:=h;unfold fieldB at hf;rw[hu]at hf;cases d<;>first
  |exact qF
  |(rename_i fs
    dsimp only at hf⊢;cases hfs:fs[f]? with
    |none=>exact qF
    |some fl=>
     rw[hfs]at hf;simp only at hf;refine(sr_sureAddr (hx.mono e1)).seq fun ρ2 a b e2 hab=>?_;refine SR.seq (A:=AR) ?_ fun ρ3 a b _ hab=>SR.ret (VR.ptr hab);unfold fieldPlace sizeOf;refine SR.seq (A:=fun _ a b=>a=b/\a≠0) ?_ fun ρ3 n n' e3 h=>?_
     ·refine(sr_typeInfo fl.type).seq fun ρ3 i i' e3 h=>?_;obtain⟨rfl,hi⟩:=h;rw[hi]at hf;simp only[decide_eq_true_eq]at hf;exact SR.ret ⟨rfl,hf⟩
     ·obtain⟨rfl,hn⟩:=h;simp only[hn];exact SR.ret ((hab.mono e3).add _))
theorem sr_places(fs:Array Field):SR P EqR ρ (fs.mapM fun f=>do Pure.pure (f.offset,<-sizeOf f.type)) (fs.mapM fun f=>do Pure.pure (f.offset,<-sizeOf f.type)):=by
 have key:∀(l:List Field) (ρ:Array Nat),SR P EqR ρ (l.mapM fun f=>do Pure.pure (f.offset,<-sizeOf f.type)) (l.mapM fun f=>do Pure.pure (f.offset,<-sizeOf f.type)):=by
  intro l;induction l with
  |nil=>intro ρ;simp only[List.mapM_nil];exact SR.ret rfl
  |cons f l ih=>
   intro ρ;simp only[List.mapM_cons];refine SR.seq (A:=EqR) ((sr_sizeOf f.type).seq fun ρ1 a b _ h=>by obtain rfl:=h;exact SR.ret rfl) fun ρ1 a b _ h=>?_;obtain rfl:=h;refine(ih ρ1).seq fun ρ2 c d _ h=>?_;obtain rfl:=h;exact SR.ret rfl
 rw[Array.mapM_eq_mapM_toList];refine SR.mono (A:=EqR) ?_ fun _ _ _ _ h=>h;have:=key fs.toList ρ;show SR P EqR ρ (List.toArray <$> _) (List.toArray <$> _);rw[<-bind_pure_comp];exact this.seq fun ρ1 a b _ h=>by obtain rfl:=h;exact SR.ret rfl
theorem sr_build{t:TypeId}(hz:ZOk P t){ps ps':Array (Nat×Value)}(hp:PS ρ ps.toList ps'.toList):SR P (CRR 1) ρ (Instr.build t ps) (Instr.build t ps'):=by
 unfold Instr.build;refine sr_zeroValue.seq fun ρ1 v v' e1 h=>?_;obtain⟨rfl,i,hi,hv⟩:=h;refine(sr_underlying t).seq fun ρ2 d d' e2 h=>?_;replace h:=h.1;subst h;have fin:∀(ρ3:Array Nat) (place:Nat->Option (Nat×Nat)),Ext ρ ρ3->FR ρ3 (Instr.fill place v.cells ps.toList) (Instr.fill place v.cells ps'.toList):=fun ρ3 place e3=>fill_alike (hp.mono e3) (hz _ _ hi hv _);have last:∀(ρ3:Array Nat) (o o':Option (Array Value)) (why:String),FR ρ3 o o'->SR P (CRR 1) ρ3 (match o with|some cells=>Pure.pure (Value.agg cells)|x=>stuck why) (match o' with|some cells=>Pure.pure (Value.agg cells)|x=>stuck why):=by
  intro ρ3 o o' why h;cases o with
  |none=>exact qF
  |some c=>cases o' with
   |none=>exact h.elim
   |some c'=>exact SR.ret ⟨c,c',.inl ⟨rfl,rfl⟩,h⟩
 cases d<;>first
  |exact qF
  |(rename_i fs
    refine(sr_places fs).seq fun ρ3 pl pl' e3 h=>?_;obtain rfl:=h;exact last ρ3 _ _ _ (fin ρ3 _ ((e1.trans e2).trans e3)))
  |(refine(sr_sizeOf _).seq fun ρ3 sz sz' e3 h=>?_
    obtain rfl:=h;exact last ρ3 _ _ _ (fin ρ3 _ ((e1.trans e2).trans e3)))
theorem store_tuple(t:TypeId)(v:Value)(c:Array Value)(p:World):Bad ((do Instr.storeAt t v (.tuple c);Pure.pure Next.skip:Sem Next).run P p):=by
 show Bad (((Instr.storeAt t v (.tuple c)).bind _).run P p);refine Bad.bind ?_;unfold Instr.storeAt;show Bad (((Instr.sureAddr v).bind _).run P p);rw[run_bind];cases v with
 |pointer a=>
  cases a with
  |none=>trivial
  |some a=>
   show Bad ((storeVar t a (.tuple c)).run P p);unfold storeVar;show Bad (((sizeOf t).bind _).run P p);rw[run_bind];have hs:(sizeOf t).run P p=match P.info? t with|some i=>.ok i.size p|none=>.halt (.stuck "no such type") p:=by
    unfold sizeOf typeInfo;show(Sem.program fun q=>_).run P p=_;simp only[Sem.run,Sem.bind];cases P.info? t<;>rfl
   rw[hs];cases P.info? t with
   |none=>trivial
   |some i=>
    simp only;split
    ·trivial
    ·trivial
 |_=>trivial
theorem op_alike{X A:FuncId->Bool}{K:Nat->Nat}{a a':Act}{o:Oper}(hX:∀f,X f=true->∀(ρ:Array Nat) (as as':Array Value),AllR ρ as as'->SR P VN ρ (callFunc f as) (callFunc f as'))
  (h:TR ρ K a.tmps a'.tmps)(ho:opB P X A K o=true):SR P (NR P A (dcls K o)) ρ (execOp a.eval o) (execOp a'.eval o):=by
 obtain⟨dst,op,ty,pos,after,guard⟩:=o;unfold opB at ho;unfold execOp;generalize hd:dcls K ⟨dst,op,ty,pos,after,guard⟩=d at ho⊢;cases op<;>simp only[Bool.and_eq_true,Bool.false_eq_true]at ho<;>dsimp only
 case move x=>
  cases e:opCls K x with
  |none=>rw[e]at ho;cases ho
  |some k=>rw[e]at ho;exact SR.ret (.value (CR.up ho (h.eval e)))
 case assign x=>
  cases e:opCls K x with
  |none=>rw[e]at ho;cases ho
  |some k=>rw[e]at ho;exact SR.ret (.value (CR.up ho (h.eval e)))
 case load t x=>exact sr_value ((sr_loadAt (tyNA_ok ho.1.1) (any_eval h ho.1.2)).up ho.2)
 case store t x y=>
  simp only[Bool.or_eq_true,beq_iff_eq]at ho;rcases ho.2 with hs|hs
  ·have hy:=sc_eval h hs;obtain⟨e,e'⟩:=hy.cells;exact sr_unit (sr_storeAt (any_eval h ho.1) (by rw[e,e'];exact AllR.one hy))
  ·obtain⟨c,c',⟨e,e'⟩|⟨e,e'⟩,hc⟩:=(h.eval hs:CR ρ 1 _ _)
   ·rw[e,e'];exact sr_unit (sr_storeAt (any_eval h ho.1) hc)
   ·rw[e];exact SR.doomed (store_tuple t _ c)
 case alloc t=>exact sr_value ((sr_alloc (zeroB_ok ho.1)).up ho.2)
 case fieldAddr s x f=>exact sr_value ((sr_fieldAt ho.1.2 (any_eval h ho.1.1)).up ho.2)
 case build t ps=>exact sr_value ((sr_build (zeroB_ok ho.1.1) (parts_eval h ho.1.2)).up ho.2)
 case binOp b t x y _=>
  refine sr_value (SR.up (k:=0) ho.2 ?_);exact(sr_eqGuard b t x y (sc_eval h ho.1.1.2) (sc_eval h ho.1.2)).seq fun ρ1 _ _ e1 _=>sr_binOp (tyB_ok ho.1.1.1) ((sc_eval h ho.1.1.2).mono e1) ((sc_eval h ho.1.2).mono e1)
 case unOp u t x=>exact sr_value ((sr_unary (sc_eval h ho.1)).up ho.2)
 case convert s t x=>exact sr_value ((sr_convert (tyInt_ok ho.1.1.1) (tyInt_ok ho.1.1.2) (sc_eval h ho.1.2)).up ho.2)
 case indexAddr t x i=>exact sr_value ((sr_indexAt (sc_eval h ho.1.1) (sc_eval h ho.1.2)).up ho.2)
 case slice t x lo hi mx=>exact sr_value ((sr_sliceAt (sc_eval h ho.1.1.1.1) (opt_eval h ho.1.1.1.2) (opt_eval h ho.1.1.2) (opt_eval h ho.1.2)).up ho.2)
 case makeSlice t l c=>exact sr_value ((sr_makeSlice (tyS_ok ho.1.1.1) (sc_eval h ho.1.1.2) (sc_eval h ho.1.2)).up ho.2)
 case buildSlice t n ps=>exact sr_value ((sr_buildSlice (tyS_ok ho.1.1) n (parts_eval h ho.1.2)).up ho.2)
 case extract x i=>
  obtain⟨h1,h2⟩:=ho;simp only[Bool.or_eq_true,Bool.and_eq_true,beq_iff_eq,decide_eq_true_eq]at h1;rcases h1 with h1|⟨h1,h3⟩
  ·exact sr_value ((sr_extract (h.eval h1) i).up h2)
  ·exact sr_value ((sr_extract4 (h.eval h1) h3).up h2)
 case makeInterface t x=>
  refine sr_value (SR.up (k:=3) ho.2 ?_);unfold Instr.makeInterface;refine(sr_underlying t).seq fun ρ1 u u' e1 hu=>?_;obtain⟨rfl,_⟩:=hu;have:=(any_eval h ho.1).mono e1;cases u<;>first|exact qF|exact SR.ret (.inr ⟨t,_,_,rfl,rfl,this⟩)
 case panic x=>
  have hx:CR ρ 3 (a.eval x) (a'.eval x):=h.eval (by simpa using ho);refine sr_value ?_;rcases hx with⟨e,e'⟩|⟨t,y,y',e,e',hy⟩
  ·rw[e,e'];exact qF
  ·rw[e,e'];exact .panic (.iface t hy)
 case call c=>exact sr_call hX h ty ho
end Go.Ren
namespace Go.Frag
open Go.Conc
structure Fr where
 fn:FuncId
 tmps:Array Value
 todo:List Item
 ret:Bool
def Fr.act(f:Fr):Act:=⟨f.tmps,[]⟩
def Fr.finish(f:Fr)(v:Value):Fr:=
 match f.todo with
 | .inRegion ops (i::rest)::k=> {f with tmps:=(match(ops[i]?).bind (·.dst)with|some d=>f.tmps.setIfInBounds d v|none=>f.tmps),todo:=.inRegion ops rest::k}
 |_=>f
inductive FO where
 |go (f:Fr) (fs:List Fr) (w:World) (es:Array Event)
 |panic
 |stop
 |bad
def fenter(P:Program)(g:FuncId)(args:Array Value):Fr:=
 let fn:=P.funcs[g]?
 ⟨g,args++Array.replicate ((fn.map (·.ntmps)).getD 0-args.size) undef,[.code ((fn.bind (·.body)).getD (.refuse "unsupported: a function without a Go body is entered"))],false⟩
def foper(P:Program)(f:Fr)(fs:List Fr)(o:Oper)(w:World):FO:=
 match(execOp f.act.eval o).run P w with
 | .ok (.value v) w'=>.go (f.finish v) fs w' (seen P f.fn ((execOp f.act.eval o).events P w #[]))
 | .ok .skip w'=>.go (f.finish undef) fs w' (seen P f.fn ((execOp f.act.eval o).events P w #[]))
 | .ok (.enter g args) w'=>.go (fenter P g args) (f::fs) w' (seen P f.fn ((execOp f.act.eval o).events P w #[]))
 | .halt (.panic _) _=>.panic
 |_=>.bad
def qU(P:Program)(f:Fr)(fs:List Fr)(w:World):FO:=
 match f.todo with
 | []=>match fs with| []=>.stop|_::_=>.go {f with ret:=true} fs w #[]
 | .code .ret::_=>.go {f with ret:=true} fs w #[]
 | .code .skip::k=>.go {f with todo:=k} fs w #[]
 | .code (.label _)::k=>.go {f with todo:=k} fs w #[]
 | .inBlock _::k=>.go {f with todo:=k} fs w #[]
 | .code (.seq a b)::k=>.go {f with todo:=.code a:: .code b::k} fs w #[]
 | .code (.cond c thn els)::k=>match f.act.eval c with| .bool b=>.go {f with todo:=.code (if b then thn else els)::k} fs w #[]|_=>.bad
 | .code (.block id body)::k=>.go {f with todo:=.code body:: .inBlock id::k} fs w #[]
 | .code (.loop body)::k=>.go {f with todo:=.code body:: .inLoop body::k} fs w #[]
 | .inLoop body::k=>.go {f with todo:=.code body:: .inLoop body::k} fs w #[]
 | .code (.exit id)::k=>match exitTo id k with|some k'=>.go {f with todo:=k'} fs w #[]|none=>.bad
 |.code (.region id ops draw)::k=>
  if draw then .go {f with todo:=.inRegion ops (Region.schedule (P.follows .mixedOrders) ops (w.tape w.drawn (.order f.fn id)))::k} fs {w with drawn:=w.drawn+1} #[]
  else .go {f with todo:=.inRegion ops (List.range ops.size)::k} fs w #[]
 | .inRegion _ []::k=>.go {f with todo:=k} fs w #[]
 |.inRegion ops (i::_)::_=>
  match ops[i]? with
  |none=>.go (f.finish undef) fs w #[]
  |some o=>if Region.wanted o (yielded ops f.tmps)then foper P f fs o w else .go (f.finish undef) fs w #[]
 |_=>.bad
def fret(P:Program)(f:Fr)(fs:List Fr)(w:World):FO:=
 match fs with
 | []=>.stop
 |c::rest=>
  match P.funcs[f.fn]? with
  |none=>.bad
  |some fn=>match(results fn f.tmps).run P w with
   | .ok v w'=>.go (c.finish v) rest w' (seen P f.fn ((results fn f.tmps).events P w #[]))
   |_=>.bad
def fstep(P:Program)(f:Fr)(fs:List Fr)(w:World):FO:=if f.ret then fret P f fs w else qU P f fs w
structure Ctx where
 k:List Item
 defers:List Deferred
 kind:CallKind
 callers:List Frame
def Fr.mode(f:Fr):FrameMode:=if f.ret then .returning else .run
def Fr.top(f:Fr):Frame:= {fn:=f.fn,tmps:=f.tmps,todo:=f.todo,defers:= [],mode:=f.mode,kind:=.normal}
def Fr.base(f:Fr)(C:Ctx):Frame:= {fn:=f.fn,tmps:=f.tmps,todo:=f.todo++C.k,defers:=C.defers,mode:=f.mode,kind:=C.kind}
def below(C:Ctx):List Fr->List Frame
 | []=>C.callers
 | [f]=>f.base C::C.callers
 |f::g::rest=>f.top::below C (g::rest)
def conc(C:Ctx)(f:Fr):List Fr->Goroutine
 | []=>G (f.base C) C.callers
 |g::rest=>G f.top (below C (g::rest))
section
variable {P:Program} {main:Bool} {C:Ctx} {f:Fr} {fs:List Fr} {w:World}
def cur(C:Ctx)(f:Fr):List Fr->Frame
 | []=>f.base C
 |_::_=>f.top
theorem conc_eq(C:Ctx)(f:Fr)(fs:List Fr):conc C f fs=G (cur C f fs) (below C fs):=by cases fs<;>rfl
theorem below_eq(C:Ctx)(f:Fr)(fs:List Fr):below C (f::fs)=cur C f fs::below C fs:=by cases fs<;>rfl
def tail(C:Ctx):List Fr->List Item
 | []=>C.k
 |_::_=> []
def curKind(C:Ctx):List Fr->CallKind
 | []=>C.kind
 |_::_=>.normal
def curDefers(C:Ctx):List Fr->List Deferred
 | []=>C.defers
 |_::_=> []
theorem cur_eq(C:Ctx)(f:Fr)(fs:List Fr):cur C f fs= {fn:=f.fn,tmps:=f.tmps,todo:=f.todo++tail C fs,defers:=curDefers C fs,mode:=f.mode,kind:=curKind C fs}:=by
 cases fs<;>simp[cur,Fr.base,Fr.top,tail,curKind,curDefers]
theorem exitTo_app{id:Nat}:∀{k k':List Item} (r:List Item),exitTo id k=some k'->exitTo id (k++r)=some (k'++r)
 | [],_,_,h=>by cases h
 |x::k,k',r,h=>by
  cases x<;>simp only[exitTo,List.cons_append]at h⊢<;>first
   |exact exitTo_app r h
   |(split at h
     ·rename_i hc;obtain rfl:=Option.some.inj h;simp[hc]
     ·rename_i hc;simp only[hc];exact exitTo_app r h)
theorem cur_finish(f:Fr)(fs:List Fr)(v:Value){ops:Array Oper}{i:Nat}{rest:List Nat}{k:List Item}(h:f.todo= .inRegion ops (i::rest)::k):(cur C f fs).finish v=cur C (f.finish v) fs:=by
 rw[cur_eq,cur_eq];simp only[Frame.finish,Fr.finish,h,List.cons_append];rfl
theorem enter_top(P:Program)(g:FuncId)(args:Array Value)(C:Ctx)(f:Fr)(fs:List Fr):Frame.enter P g args .normal=cur C (fenter P g args) (f::fs):=by
 simp[cur,Fr.top,fenter,Frame.enter,Fr.mode]
def AtOp(f:Fr):Prop:=∃ops i rest k,f.todo= .inRegion ops (i::rest)::k
def Wf(fs:List Fr):Prop:=∀c∈fs,AtOp c/\c.ret=false
theorem mode_run(h:f.ret=false):f.mode= .run:=by simp[Fr.mode,h]
theorem mode_ret(h:f.ret=true):f.mode= .returning:=by simp[Fr.mode,h]
theorem act_eval(b:Frame)(h:b.tmps=f.tmps):b.eval=f.act.eval:=by
 funext x;cases x<;>simp[Frame.eval,Act.eval,Fr.act,h]
theorem step_go(hk:C.kind≠.early)(hwf:Wf fs){f':Fr}{fs':List Fr}{w':World}{es:Array Event}(h:fstep P f fs w= .go f' fs' w' es):stepG P main (conc C f fs) w= .go (conc C f' fs') w' es:=by
 have hkk:(curKind C fs==CallKind.early)=false:=by
  cases fs
  ·simpa[curKind]using hk
  ·rfl
 unfold fstep at h;cases hr:f.ret with
 |true=>
  simp only[hr,if_true]at h;unfold fret at h;cases fs with
  |nil=>cases h
  |cons c rest=>
   simp only at h;cases hf:P.funcs[f.fn]? with
   |none=>rw[hf]at h;cases h
   |some fn=>
    rw[hf]at h;simp only at h;cases hres:(results fn f.tmps).run P w with
    |halt x w1=>rw[hres]at h;cases h
    |ok v w1=>
     rw[hres]at h;simp only[FO.go.injEq]at h;obtain⟨rfl,rfl,rfl,rfl⟩:=h;obtain⟨⟨ops,i,rs,k,htd⟩,_⟩:=hwf c (by simp);rw[conc_eq,conc_eq,below_eq,<-cur_finish (C:=C) c rest v htd];simp[G,stepG,unwind,doReturn,cur,Fr.top,mode_ret hr,hf,hres,GStep.after]
 |false=>
  simp only[hr,Bool.false_eq_true,if_false]at h;unfold qU at h;have hm:=mode_run hr;rw[conc_eq,cur_eq];split at h
  ·rename_i htd;cases fs with
   |nil=>cases h
   |cons c rest=>
    simp only[FO.go.injEq]at h;obtain⟨rfl,rfl,rfl,rfl⟩:=h;rw[conc_eq,cur_eq];simp[G,stepG,stepG.exec,htd,tail,Fr.mode,hr]
  ·rename_i htd;simp only[FO.go.injEq]at h;obtain⟨rfl,rfl,rfl,rfl⟩:=h;rw[conc_eq,cur_eq];simp[G,stepG,stepG.exec,htd,Fr.mode,hr]
  ·rename_i htd;simp only[FO.go.injEq]at h;obtain⟨rfl,rfl,rfl,rfl⟩:=h;rw[conc_eq,cur_eq];simp[G,stepG,stepG.exec,htd,Fr.mode,hr]
  ·rename_i htd;simp only[FO.go.injEq]at h;obtain⟨rfl,rfl,rfl,rfl⟩:=h;rw[conc_eq,cur_eq];simp[G,stepG,stepG.exec,htd,Fr.mode,hr]
  ·rename_i htd;simp only[FO.go.injEq]at h;obtain⟨rfl,rfl,rfl,rfl⟩:=h;rw[conc_eq,cur_eq];simp[G,stepG,stepG.exec,htd,Fr.mode,hr]
  ·rename_i htd;simp only[FO.go.injEq]at h;obtain⟨rfl,rfl,rfl,rfl⟩:=h;rw[conc_eq,cur_eq];simp[G,stepG,stepG.exec,htd,Fr.mode,hr]
  ·rename_i c thn els k htd;have he:({fn:=f.fn,tmps:=f.tmps,todo:=f.todo++tail C fs,defers:=curDefers C fs,mode:=f.mode,kind:=curKind C fs}:Frame).eval c=f.act.eval c:=by
    rw[act_eval];rfl
   split at h
   ·rename_i b hb;simp only[FO.go.injEq]at h;obtain⟨rfl,rfl,rfl,rfl⟩:=h;rw[conc_eq,cur_eq];rw[hb]at he;simp only[hm,htd,List.cons_append]at he;simp[G,stepG,stepG.exec,htd,Fr.mode,hr,he]
   ·cases h
  ·rename_i htd;simp only[FO.go.injEq]at h;obtain⟨rfl,rfl,rfl,rfl⟩:=h;rw[conc_eq,cur_eq];simp[G,stepG,stepG.exec,htd,Fr.mode,hr]
  ·rename_i htd;simp only[FO.go.injEq]at h;obtain⟨rfl,rfl,rfl,rfl⟩:=h;rw[conc_eq,cur_eq];simp[G,stepG,stepG.exec,htd,Fr.mode,hr]
  ·rename_i htd;simp only[FO.go.injEq]at h;obtain⟨rfl,rfl,rfl,rfl⟩:=h;rw[conc_eq,cur_eq];simp[G,stepG,stepG.exec,htd,Fr.mode,hr]
  ·rename_i id k htd;split at h
   ·rename_i k' hk';simp only[FO.go.injEq]at h;obtain⟨rfl,rfl,rfl,rfl⟩:=h;rw[conc_eq,cur_eq];have:=exitTo_app (tail C fs) hk';simp[G,stepG,stepG.exec,htd,Fr.mode,hr,this]
   ·cases h
  ·rename_i id ops draw k htd;cases draw with
   |true=>
    simp only[if_true,FO.go.injEq]at h;obtain⟨rfl,rfl,rfl,rfl⟩:=h;rw[conc_eq,cur_eq];simp[G,stepG,stepG.exec,htd,Fr.mode,hr,choose,Sem.run,Question.forced,Question.cut]
   |false=>
    simp only[Bool.false_eq_true,if_false,FO.go.injEq]at h;obtain⟨rfl,rfl,rfl,rfl⟩:=h;rw[conc_eq,cur_eq];simp[G,stepG,stepG.exec,htd,Fr.mode,hr]
  ·rename_i htd;simp only[FO.go.injEq]at h;obtain⟨rfl,rfl,rfl,rfl⟩:=h;rw[conc_eq,cur_eq];simp[G,stepG,stepG.exec,htd,Fr.mode,hr]
  ·rename_i ops i rest k htd;have hfin:∀v,(cur C f fs).finish v=cur C (f.finish v) fs:=fun v=>cur_finish f fs v htd;have hcur:=cur_eq C f fs;have he:(cur C f fs).eval=f.act.eval:=by rw[hcur];exact act_eval _ rfl
   have hskip:((ops[i]?).map (Region.wanted · (yielded ops f.tmps))).getD false=false->stepG P main (G (cur C f fs) (below C fs)) w= .go (G ((cur C f fs).finish undef) (below C fs)) w:=by
    intro hw;rw[hcur];simp[G,stepG,stepG.exec,hm,htd,hw]
   have hgo:∀o,ops[i]? =some o->Region.wanted o (yielded ops f.tmps)=true->stepG P main (G (cur C f fs) (below C fs)) w=stepG.apply P true (cur C f fs) (below C fs) none (execOp f.act.eval o) w:=by
    intro o ho hw;rw[<-he];have e2:(cur C f fs).oper? =some o:=by rw[hcur];simp[Frame.oper?,htd,ho]
    have e3:(cur C f fs).roundOf=none:=by rw[hcur]
    have e1:(cur C f fs).todo= .inRegion ops (i::rest)::(k++tail C fs):=by rw[hcur,htd];rfl
    have e4:(cur C f fs).mode= .run:=by rw[hcur];exact hm
    have e5:(cur C f fs).tmps=f.tmps:=by rw[hcur]
    simp[G,stepG,stepG.exec,stepG.oper,e4,e1,e2,e3,e5,ho,hw]
   rw[<-hcur];cases ho:ops[i]? with
   |none=>
    rw[ho]at h;simp only[FO.go.injEq]at h;obtain⟨rfl,rfl,rfl,rfl⟩:=h;rw[hskip (by simp[ho]),hfin,conc_eq]
   |some o=>
    rw[ho]at h;simp only at h;by_cases hw:Region.wanted o (yielded ops f.tmps)=true
    ·simp only[hw,if_true]at h;rw[hgo o ho hw];unfold foper at h;have hkc:((cur C f fs).kind==CallKind.early)=false:=by rw[hcur];exact hkk
     have hfn:(cur C f fs).fn=f.fn:=by rw[hcur]
     have htd':(cur C f fs).todo= .inRegion ops (i::rest)::(k++tail C fs):=by rw[hcur,htd];rfl
     split at h
     ·rename_i v w1 hrun;simp only[FO.go.injEq]at h;obtain⟨rfl,rfl,rfl,rfl⟩:=h;rw[conc_eq,<-hfin];simp[stepG.apply,hrun,hkc,hfn,GStep.after,G]
     ·rename_i w1 hrun;simp only[FO.go.injEq]at h;obtain⟨rfl,rfl,rfl,rfl⟩:=h;rw[conc_eq,<-hfin];simp[stepG.apply,hrun,hkc,hfn,GStep.after,G]
     ·rename_i g args w1 hrun;simp only[FO.go.injEq]at h;obtain⟨rfl,rfl,rfl,rfl⟩:=h;rw[conc_eq,below_eq,<-enter_top];simp[stepG.apply,hrun,hkc,hfn,htd',GStep.after,G]
     ·cases h
     ·cases h
    ·simp only[hw,Bool.false_eq_true,if_false,FO.go.injEq]at h;obtain⟨rfl,rfl,rfl,rfl⟩:=h;rw[hskip (by simp[ho];simpa using hw),hfin,conc_eq]
  ·cases h
theorem fstep_wf(hwf:Wf fs){f':Fr}{fs':List Fr}{w':World}{es:Array Event}(h:fstep P f fs w= .go f' fs' w' es):Wf fs':=by
 unfold fstep at h;cases hr:f.ret with
 |true=>
  simp only[hr,if_true]at h;unfold fret at h;cases fs with
  |nil=>cases h
  |cons c rest=>
   simp only at h
   (repeat' split at h)<;>first|(simp only[FO.go.injEq]at h;obtain⟨_,rfl,_,_⟩:=h;exact fun x hx=>hwf x (by simp[hx]))|cases h
 |false=>
  simp only[hr,Bool.false_eq_true,if_false]at h;unfold qU at h;split at h;all_goals try (simp only[FO.go.injEq]at h;obtain⟨_,rfl,_,_⟩:=h;exact hwf)
  ·split at h
   ·cases h
   ·simp only[FO.go.injEq]at h;obtain⟨_,rfl,_,_⟩:=h;exact hwf
  ·split at h
   ·simp only[FO.go.injEq]at h;obtain⟨_,rfl,_,_⟩:=h;exact hwf
   ·cases h
  ·split at h
   ·simp only[FO.go.injEq]at h;obtain⟨_,rfl,_,_⟩:=h;exact hwf
   ·cases h
  ·split at h
   ·simp only[FO.go.injEq]at h;obtain⟨_,rfl,_,_⟩:=h;exact hwf
   ·simp only[FO.go.injEq]at h;obtain⟨_,rfl,_,_⟩:=h;exact hwf
  ·rename_i ops i rest k htd;split at h
   ·simp only[FO.go.injEq]at h;obtain⟨_,rfl,_,_⟩:=h;exact hwf
   ·split at h
    ·unfold foper at h;split at h
     ·simp only[FO.go.injEq]at h;obtain⟨_,rfl,_,_⟩:=h;exact hwf
     ·simp only[FO.go.injEq]at h;obtain⟨_,rfl,_,_⟩:=h;exact hwf
     ·simp only[FO.go.injEq]at h;obtain⟨_,rfl,_,_⟩:=h;intro x hx;rcases List.mem_cons.1 hx with rfl|hx
      ·exact⟨⟨ops,i,rest,k,htd⟩,hr⟩
      ·exact hwf x hx
     ·cases h
     ·cases h
    ·simp only[FO.go.injEq]at h;obtain⟨_,rfl,_,_⟩:=h;exact hwf
  ·cases h
end
end Go.Frag
