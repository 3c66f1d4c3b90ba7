import Derived.Test.YtmfpiodlecapiaaGreatDoorJ09
import Derived.Conc.Own3
namespace Go.Ren
variable {P:Program} {ρ:Array Nat}
def Ko(P:Program)(t:TypeId):Bool:=match P.underlying t with|some (.int _)=>true|_=>false
def tyB(P:Program)(t:TypeId):Bool:=match P.underlying t with|some (.int _)|some .bool|some (.slice _)=>true|_=>false
def Xw(P:Program)(t:TypeId):Bool:=match P.underlying t with|some (.struct _)|some (.array _ _)=>false|_=>true
def DJ(P:Program)(e:TypeId):Bool:=match P.info? e with|some i=>(match i.zero with|some v=>v.cells.all Bj|none=>true)|none=>true
def Xu(P:Program)(t:TypeId):Bool:=match P.underlying t with|some (.slice e)=>DJ P e|_=>false
theorem DX{t:TypeId}(h:Ko P t=true):IT P t:=by
 intro d hd;unfold Ko at h;rw[hd]at h;cases d<;>first|exact⟨_,rfl⟩|cases h
theorem Xx{t:TypeId}(h:tyB P t=true):BT P t:=by
 intro d hd;unfold tyB at h;rw[hd]at h;cases d<;>first|exact .inl ⟨_,rfl⟩|exact .inr (.inl rfl)|exact .inr (.inr ⟨_,rfl⟩)|cases h
theorem UJ{t:TypeId}(h:Xw P t=true):NA P t:=by
 intro d hd;unfold Xw at h;rw[hd]at h;refine⟨fun fs e=>?_,fun n el e=>?_⟩
 iterate 2 (·subst e;cases h)
theorem wO{e:TypeId}(h:DJ P e=true):ZOk P e:=by
 intro i v hi hv ρ;unfold DJ at h;rw[hi]at h;simp only[hv]at h;exact t_ h
theorem wW{t:TypeId}(h:Xu P t=true):ST P t:=by
 unfold Xu at h;cases hd:P.underlying t with
 |none=>rw[hd]at h;cases h
 |some d=>
  rw[hd]at h;cases d<;>first|cases h|exact⟨_,hd,wO h⟩
def iU(k d:Nat):Bool:=k==d||d==2
theorem CR.up{k d:Nat}(h:iU k d=true){v v':Value}(hv:CR ρ k v v'):CR ρ d v v':=by
 unfold iU at h;simp only[Bool.or_eq_true,beq_iff_eq]at h;rcases h with rfl|rfl
 ·exact hv
 ·exact hv.val
def JC(P:Program)(s:TypeId)(f:Nat):Bool:=match P.underlying s with
 |some (.struct fs)=>(match fs[f]? with|some x=>(match P.info? x.type with|some i=>decide (i.size≠0)|none=>true)|none=>true)
 |_=>true
def sQ(K:Nat->Nat)(x:Operand):Bool:=mV K x==some 0
def O5(K:Nat->Nat)(x:Operand):Bool:=(mV K x).isSome
def JO(K:Nat->Nat)(o:Oper):Nat:=(o.dst.map K).getD 2
def qH(fn:Func):Nat:=if fn.results.size=1 then 0 else 1
inductive NR(P:Program)(A:FuncId->Bool)(k:Nat)(ρ:Array Nat):Next->Next->Prop
 |value {v v':Value}:CR ρ k v v'->NR P A k ρ (.value v) (.value v')
 |skip:NR P A k ρ .skip .skip
 |enter (f:FuncId) (fn:Func) {a a':Array Value}:bF ρ a a'->P.funcs[f]? =some fn->A f=true->a.size<=fn.params.size->iU (qH fn) k=true->NR P A k ρ (.enter f a) (.enter f a')
def VN(ρ:Array Nat)(x y:Next):Prop:=∃v v',x= .value v/\y= .value v'/\SV ρ v v'
theorem bS{A:FuncId->Bool}{k:Nat}{s s':Sem Value}(h:SR P (uH k) ρ s s'):SR P (NR P A k) ρ (do Pure.pure (Next.value (<-s))) (do Pure.pure (Next.value (<-s'))):=h.seq fun _ _ _ _ hv=>SR.ret (.value hv)
theorem KA{A:FuncId->Bool}{k:Nat}{s s':Sem Unit}(h:SR P wN ρ s s'):SR P (NR P A k) ρ (do s;Pure.pure Next.skip) (do s';Pure.pure Next.skip):=h.seq fun _ _ _ _ _=>SR.ret .skip
def TH(P:Program)(X A:FuncId->Bool)(K:Nat->Nat)(d:Nat)(c:Call):Bool:=
 match c.callee with
 | .builtin .len=>(match c.args.toList,c.argTypes.toList with| [x],[t]=>Xu P t&&sQ K x|_,_=>false)&&iU 0 d
 | .builtin .append=>(match c.args.toList,c.argTypes.toList with| [x,y],[t,t']=>Xu P t&&Xu P t'&&sQ K x&&sQ K y|_,_=>false)&&iU 0 d
 | .builtin .copy=>(match c.args.toList,c.argTypes.toList with| [x,y],[_,_]=>sQ K x&&sQ K y|_,_=>false)&&iU 0 d
 | .value (.func f)=>c.args.all (sQ K)&&((X f&&iU 0 d)||(match P.funcs[f]? with|some fn=>fn.name != "runtime.NumGoroutine" &&fn.body.isSome&&iU (qH fn) d&&A f&&c.args.size<=fn.params.size|none=>false))
 |_=>false
def opB(P:Program)(X A:FuncId->Bool)(K:Nat->Nat)(o:Oper):Bool:=
 let d:=JO K o
 match o.op with
 | .move x| .assign x=>(match mV K x with|some k=>iU k d|none=>false)
 | .load t a=>Xw P t&&O5 K a&&iU 0 d
 | .store _ a x=>O5 K a&&(sQ K x||mV K x==some 1)
 | .alloc t=>DJ P t&&iU 2 d
 | .fieldAddr s x f=>O5 K x&&JC P s f&&iU 2 d
 | .build t ps=>DJ P t&&ps.all (fun p=>sQ K p.2)&&iU 1 d
 | .binOp _ t x y _=>tyB P t&&sQ K x&&sQ K y&&iU 0 d
 | .unOp _ _ x=>sQ K x&&iU 0 d
 | .convert s t x=>Ko P s&&Ko P t&&sQ K x&&iU 0 d
 | .indexAddr _ x i=>sQ K x&&sQ K i&&iU 2 d
 | .slice _ x lo hi mx=>sQ K x&&lo.all (sQ K)&&hi.all (sQ K)&&mx.all (sQ K)&&iU 0 d
 | .makeSlice t l c=>Xu P t&&sQ K l&&sQ K c&&iU 0 d
 | .buildSlice t _ ps=>Xu P t&&ps.all (fun p=>sQ K p.2)&&iU 0 d
 | .extract x i=>(mV K x==some 1||(mV K x==some 4&&decide (i<2)))&&iU 0 d
 | .makeInterface _ x=>O5 K x&&iU 3 d
 | .panic x=>mV K x==some 3
 | .call c=>TH P X A K d c
 |_=>false
theorem bV{K:Nat->Nat}{a a':Act}(h:TR ρ K a.tmps a'.tmps){x:Operand}(hx:sQ K x=true):SV ρ (a.eval x) (a'.eval x):=h.eval (k:=0) (by simpa[sQ]using hx)
theorem oP{K:Nat->Nat}{a a':Act}(h:TR ρ K a.tmps a'.tmps){x:Operand}(hx:O5 K x=true):VR ρ (a.eval x) (a'.eval x):=by
 unfold O5 at hx;cases e:mV K x with
 |none=>rw[e]at hx;cases hx
 |some k=>exact(h.eval e).val
theorem xP{K:Nat->Nat}{a a':Act}(h:TR ρ K a.tmps a'.tmps){x:Option Operand}(hx:x.all (sQ K)=true):OS ρ (x.map a.eval) (x.map a'.eval):=by
 cases x with
 |none=>exact .none
 |some x=>exact .some (bV h hx)
theorem SR.up{k d:Nat}(h:iU k d=true){s s':Sem Value}(hs:SR P (uH k) ρ s s'):SR P (uH d) ρ s s':=hs.mono fun _ _ _ _ x=>CR.up h x
theorem O1{K:Nat->Nat}{a a':Act}(h:TR ρ K a.tmps a'.tmps){xs:Array Operand}(hx:xs.all (sQ K)=true):bF ρ (xs.map a.eval) (xs.map a'.eval):=
 bF.map _ fun x hm=>bV h (Array.all_eq_true_iff_forall_mem.1 hx x hm)
theorem UZ{X A:FuncId->Bool}{K:Nat->Nat}{d:Nat}{a a':Act}(hX:∀f,X f=true->∀(ρ:Array Nat) (az Xj:Array Value),bF ρ az Xj->SR P VN ρ (callFunc f az) (callFunc f Xj))
  (h:TR ρ K a.tmps a'.tmps){c:Call}(ty:TypeId)(hc:TH P X A K d c=true):SR P (NR P A d) ρ (do let x<-resolve a.eval c ty;invoke x.target x.args) (do let x<-resolve a'.eval c ty;invoke x.target x.args):=by
 obtain⟨callee,args,tys⟩:=c;unfold TH at hc;split at hc
 ·
  rename_i yC;simp only at yC;subst yC;simp only[Bool.and_eq_true]at hc;obtain⟨hc,hd⟩:=hc;split at hc
  ·rename_i x t e1 e2;obtain rfl:args=#[x]:=by apply Array.ext';simpa using e1
   obtain rfl:tys=#[t]:=by apply Array.ext';simpa using e2
   simp only[Bool.and_eq_true]at hc;show SR P (NR P A d) ρ (do Pure.pure (Next.value (<-Builtin.len_ #[t] ty (#[x].map a.eval)))) (do Pure.pure (Next.value (<-Builtin.len_ #[t] ty (#[x].map a'.eval))));simp only[List.map_toArray,List.map_cons,List.map_nil];exact bS ((XE (ty:=ty) (wW hc.1) (bV h hc.2)).up hd)
  ·cases hc
 ·rename_i yC;simp only at yC;subst yC;simp only[Bool.and_eq_true]at hc;obtain⟨hc,hd⟩:=hc;split at hc
  ·rename_i x y t t' e1 e2;obtain rfl:args=#[x,y]:=by apply Array.ext';simpa using e1
   obtain rfl:tys=#[t,t']:=by apply Array.ext';simpa using e2
   simp only[Bool.and_eq_true]at hc;show SR P (NR P A d) ρ (do Pure.pure (Next.value (<-Builtin.append_ #[t,t'] ty (#[x,y].map a.eval)))) (do Pure.pure (Next.value (<-Builtin.append_ #[t,t'] ty (#[x,y].map a'.eval))));simp only[List.map_toArray,List.map_cons,List.map_nil];exact bS ((Nh (ty:=ty) (wW hc.1.1.1) (wW hc.1.1.2) (bV h hc.1.2) (bV h hc.2)).up hd)
  ·cases hc
 ·rename_i yC;simp only at yC;subst yC;simp only[Bool.and_eq_true]at hc;obtain⟨hc,hd⟩:=hc;split at hc
  ·rename_i x y t t' e1 e2;obtain rfl:args=#[x,y]:=by apply Array.ext';simpa using e1
   obtain rfl:tys=#[t,t']:=by apply Array.ext';simpa using e2
   simp only[Bool.and_eq_true]at hc;show SR P (NR P A d) ρ (do Pure.pure (Next.value (<-Builtin.copy_ #[t,t'] ty (#[x,y].map a.eval)))) (do Pure.pure (Next.value (<-Builtin.copy_ #[t,t'] ty (#[x,y].map a'.eval))));simp only[List.map_toArray,List.map_cons,List.map_nil];exact bS ((UY (t:=t) (t':=t') (ty:=ty) (bV h hc.1) (bV h hc.2)).up hd)
  ·cases hc
 ·rename_i f yC;simp only at yC;subst yC;simp only[Bool.and_eq_true,Bool.or_eq_true]at hc;obtain⟨ha,hc⟩:=hc;have hargs:=O1 h ha;show SR P (NR P A d) ρ (callFunc f (#[]++args.map a.eval++ #[])) (callFunc f (#[]++args.map a'.eval++ #[]));simp only[Array.empty_append,Array.append_empty];rcases hc with⟨hx,hd⟩|hc
  ·refine SR.mono (hX f hx ρ _ _ hargs) fun ρ' x y _ hxy=>?_;obtain⟨v,v',rfl,rfl,hv⟩:=hxy;exact .value (CR.up hd hv)
  ·unfold callFunc;refine f_ ?_;cases hf:P.funcs[f]? with
   |none=>exact aH
   |some fn=>
    rw[hf]at hc;simp only[Bool.and_eq_true,bne_iff_ne,ne_eq,decide_eq_true_eq]at hc;have hn:(fn.name== "runtime.NumGoroutine")=false:=by simpa using hc.1.1.1.1
    have hb:fn.body.isNone=false:=by
     have:=hc.1.1.1.2;cases Y9:fn.body with
     |none=>rw[Y9]at this;cases this
     |some _=>rfl
    simp only[hn,hb,Bool.false_eq_true,if_false];exact SR.ret (.enter f fn hargs hf hc.1.2 (by simpa using hc.2) hc.1.1.2)
 ·cases hc
theorem parts_eval{K:Nat->Nat}{a a':Act}(h:TR ρ K a.tmps a'.tmps){ps:Array (Nat×Operand)}(hx:ps.all (fun p=>sQ K p.2)=true):PS ρ (ps.map fun p=>(p.1,a.eval p.2)).toList (ps.map fun p=>(p.1,a'.eval p.2)).toList:=by
 have:∀l:List (Nat×Operand),(∀p∈l,sQ K p.2=true)->PS ρ (l.map fun p=>(p.1,a.eval p.2)) (l.map fun p=>(p.1,a'.eval p.2)):=by
  intro l;induction l with
  |nil=>exact fun _=>.nil
  |cons p l ih=>exact fun hl=>.cons _ (bV h (hl p (by simp))) (ih fun q hq=>hl q (by simp[hq]))
 simp only[Array.toList_map];exact this _ fun p hp=>Array.all_eq_true_iff_forall_mem.1 hx p (Array.mem_toList_iff.1 hp)
theorem Qp{t:TypeId}(hz:ZOk P t):SR P (uH 2) ρ (Instr.alloc t true (.tuple #[])) (Instr.alloc t true (.tuple #[])):=by
 unfold Instr.alloc;refine gJ.seq fun iy v v' e1 h=>?_;obtain⟨rfl,i,hi,hv⟩:=h;dsimp only;unfold newVar;exact(jH t (hz _ _ hi hv _)).seq fun vF a b _ hab=>SR.ret (VR.ptr hab)
theorem Iz{s:TypeId}{f:Nat}(hf:JC P s f=true){x x':Value}(hx:VR ρ x x'):SR P (uH 2) ρ (Instr.fieldAt s x f) (Instr.fieldAt s x' f):=by
 unfold Instr.fieldAt;refine(aY s).seq fun iy d d' e1 h=>?_;obtain⟨rfl,hu⟩:=h;unfold JC at hf;rw[hu]at hf;cases d<;>first
  |exact aH
  |(rename_i fs
    dsimp only at hf⊢;cases hfs:fs[f]? with
    |none=>exact aH
    |some fl=>
     rw[hfs]at hf;simp only at hf;refine(kD (hx.mono e1)).seq fun vF a b e2 hab=>?_;refine SR.seq (A:=AR) ?_ fun qd a b _ hab=>SR.ret (VR.ptr hab);unfold fieldPlace sizeOf;refine SR.seq (A:=fun _ a b=>a=b/\a≠0) ?_ fun qd n n' e3 h=>?_
     ·refine(eU fl.type).seq fun qd i i' e3 h=>?_;obtain⟨rfl,hi⟩:=h;rw[hi]at hf;simp only[decide_eq_true_eq]at hf;exact SR.ret ⟨rfl,hf⟩
     ·obtain⟨rfl,hn⟩:=h;simp only[hn];exact SR.ret ((hab.mono e3).add _))
theorem Nb(fs:Array Field):SR P wN ρ (fs.mapM fun f=>do Pure.pure (f.offset,<-sizeOf f.type)) (fs.mapM fun f=>do Pure.pure (f.offset,<-sizeOf f.type)):=by
 have key:∀(l:List Field) (ρ:Array Nat),SR P wN ρ (l.mapM fun f=>do Pure.pure (f.offset,<-sizeOf f.type)) (l.mapM fun f=>do Pure.pure (f.offset,<-sizeOf f.type)):=by
  intro l;induction l with
  |nil=>intro ρ;simp only[List.mapM_nil];exact SR.ret rfl
  |cons f l ih=>
   intro ρ;simp only[List.mapM_cons];refine SR.seq (A:=wN) ((dJ f.type).seq fun iy a b _ h=>by obtain rfl:=h;exact SR.ret rfl) fun iy a b _ h=>?_;obtain rfl:=h;refine(ih iy).seq fun vF c d _ h=>?_;obtain rfl:=h;exact SR.ret rfl
 rw[Array.mapM_eq_mapM_toList];refine SR.mono (A:=wN) ?_ fun _ _ _ _ h=>h;have:=key fs.toList ρ;show SR P wN ρ (List.toArray <$> _) (List.toArray <$> _);rw[<-bind_pure_comp];exact this.seq fun iy a b _ h=>by obtain rfl:=h;exact SR.ret rfl
theorem Qn{t:TypeId}(hz:ZOk P t){ps ps':Array (Nat×Value)}(hp:PS ρ ps.toList ps'.toList):SR P (uH 1) ρ (Instr.build t ps) (Instr.build t ps'):=by
 unfold Instr.build;refine gJ.seq fun iy v v' e1 h=>?_;obtain⟨rfl,i,hi,hv⟩:=h;refine(aY t).seq fun vF d d' e2 h=>?_;replace h:=h.1;subst h;have fin:∀(qd:Array Nat) (place:Nat->Option (Nat×Nat)),Ext ρ qd->FR qd (Instr.fill place v.cells ps.toList) (Instr.fill place v.cells ps'.toList):=fun qd place e3=>yK (hp.mono e3) (hz _ _ hi hv _);have last:∀(qd:Array Nat) (o o':Option (Array Value)) (why:String),FR qd o o'->SR P (uH 1) qd (match o with|some cells=>Pure.pure (Value.agg cells)|x=>stuck why) (match o' with|some cells=>Pure.pure (Value.agg cells)|x=>stuck why):=by
  intro qd o o' why h;cases o with
  |none=>exact aH
  |some c=>cases o' with
   |none=>exact h.elim
   |some c'=>exact SR.ret ⟨c,c',.inl ⟨rfl,rfl⟩,h⟩
 cases d<;>first
  |exact aH
  |(rename_i fs
    refine(Nb fs).seq fun qd pl pl' e3 h=>?_;obtain rfl:=h;exact last qd _ _ _ (fin qd _ ((e1.trans e2).trans e3)))
  |(refine(dJ _).seq fun qd sz sz' e3 h=>?_
    obtain rfl:=h;exact last qd _ _ _ (fin qd _ ((e1.trans e2).trans e3)))
theorem Ez(t:TypeId)(v:Value)(c:Array Value)(p:World):Bad ((do Instr.storeAt t v (.tuple c);Pure.pure Next.skip:Sem Next).run P p):=by
 show Bad (((Instr.storeAt t v (.tuple c)).bind _).run P p);refine Bad.bind ?_;unfold Instr.storeAt;show Bad (((Instr.sureAddr v).bind _).run P p);rw[run_bind];cases v with
 |pointer a=>
  cases a with
  |none=>trivial
  |some a=>
   show Bad ((storeVar t a (.tuple c)).run P p);unfold storeVar;show Bad (((sizeOf t).bind _).run P p);rw[run_bind];have hs:(sizeOf t).run P p=match P.info? t with|some i=>.ok i.size p|none=>.halt (.stuck "no such type") p:=by
    unfold sizeOf typeInfo;show(Sem.program fun q=>_).run P p=_;simp only[Sem.run,Sem.bind];cases P.info? t<;>rfl
   rw[hs];cases P.info? t with
   |none=>trivial
   |some i=>
    simp only;split
    iterate 2 (·trivial)
 |_=>trivial
theorem Fg{X A:FuncId->Bool}{K:Nat->Nat}{a a':Act}{o:Oper}(hX:∀f,X f=true->∀(ρ:Array Nat) (az Xj:Array Value),bF ρ az Xj->SR P VN ρ (callFunc f az) (callFunc f Xj))
  (h:TR ρ K a.tmps a'.tmps)(ho:opB P X A K o=true):SR P (NR P A (JO K o)) ρ (execOp a.eval o) (execOp a'.eval o):=by
 obtain⟨dst,op,ty,pos,after,guard⟩:=o;unfold opB at ho;unfold execOp;generalize hd:JO K ⟨dst,op,ty,pos,after,guard⟩=d at ho⊢;cases op<;>simp only[Bool.and_eq_true,Bool.false_eq_true]at ho<;>dsimp only
 case move x=>
  cases e:mV K x with
  |none=>rw[e]at ho;cases ho
  |some k=>rw[e]at ho;exact SR.ret (.value (CR.up ho (h.eval e)))
 case assign x=>
  cases e:mV K x with
  |none=>rw[e]at ho;cases ho
  |some k=>rw[e]at ho;exact SR.ret (.value (CR.up ho (h.eval e)))
 case load t x=>exact bS ((Nc (UJ ho.1.1) (oP h ho.1.2)).up ho.2)
 case store t x y=>
  simp only[Bool.or_eq_true,beq_iff_eq]at ho;rcases ho.2 with hs|hs
  ·have hy:=bV h hs;obtain⟨e,e'⟩:=hy.cells;exact KA (xA (oP h ho.1) (by rw[e,e'];exact bF.one hy))
  ·obtain⟨c,c',⟨e,e'⟩|⟨e,e'⟩,hc⟩:=(h.eval hs:CR ρ 1 _ _)
   ·rw[e,e'];exact KA (xA (oP h ho.1) hc)
   ·rw[e];exact SR.dB (Ez t _ c)
 case alloc t=>exact bS ((Qp (wO ho.1)).up ho.2)
 case fieldAddr s x f=>exact bS ((Iz ho.1.2 (oP h ho.1.1)).up ho.2)
 case build t ps=>exact bS ((Qn (wO ho.1.1) (parts_eval h ho.1.2)).up ho.2)
 case binOp b t x y _=>
  refine bS (SR.up (k:=0) ho.2 ?_);exact(IC b t x y (bV h ho.1.1.2) (bV h ho.1.2)).seq fun iy _ _ e1 _=>Qo (Xx ho.1.1.1) ((bV h ho.1.1.2).mono e1) ((bV h ho.1.2).mono e1)
 case unOp u t x=>exact bS ((Ql (bV h ho.1)).up ho.2)
 case convert s t x=>exact bS ((IE (DX ho.1.1.1) (DX ho.1.1.2) (bV h ho.1.2)).up ho.2)
 case indexAddr t x i=>exact bS ((Iy (bV h ho.1.1) (bV h ho.1.2)).up ho.2)
 case slice t x lo hi mx=>exact bS ((Iw (bV h ho.1.1.1.1) (xP h ho.1.1.1.2) (xP h ho.1.1.2) (xP h ho.1.2)).up ho.2)
 case makeSlice t l c=>exact bS ((BZ (wW ho.1.1.1) (bV h ho.1.1.2) (bV h ho.1.2)).up ho.2)
 case buildSlice t n ps=>exact bS ((zI (wW ho.1.1) n (parts_eval h ho.1.2)).up ho.2)
 case extract x i=>
  obtain⟨h1,h2⟩:=ho;simp only[Bool.or_eq_true,Bool.and_eq_true,beq_iff_eq,decide_eq_true_eq]at h1;rcases h1 with h1|⟨h1,h3⟩
  ·exact bS ((IB (h.eval h1) i).up h2)
  ·exact bS ((EJ (h.eval h1) h3).up h2)
 case makeInterface t x=>
  refine bS (SR.up (k:=3) ho.2 ?_);unfold Instr.makeInterface;refine(aY t).seq fun iy u u' e1 hu=>?_;obtain⟨rfl,_⟩:=hu;have:=(oP h ho.1).mono e1;cases u<;>first|exact aH|exact SR.ret (.inr ⟨t,_,_,rfl,rfl,this⟩)
 case panic x=>
  have hx:CR ρ 3 (a.eval x) (a'.eval x):=h.eval (by simpa using ho);refine bS ?_;rcases hx with⟨e,e'⟩|⟨t,y,y',e,e',hy⟩
  ·rw[e,e'];exact aH
  ·rw[e,e'];exact .panic (.iface t hy)
 case call c=>exact UZ hX h ty ho
end Go.Ren
namespace Go.bB
open Go.Conc
structure Fr where
 fn:FuncId
 tmps:Array Value
 todo:List Item
 ret:Bool
def Fr.act(f:Fr):Act:=⟨f.tmps,[]⟩
def Fr.finish(f:Fr)(v:Value):Fr:=
 match f.todo with
 | .inRegion ops (i::rest)::k=> {f with tmps:=(match(ops[i]?).bind (·.dst)with|some d=>f.tmps.setIfInBounds d v|none=>f.tmps),todo:=.inRegion ops rest::k}
 |_=>f
inductive FO where
 |go (f:Fr) (fs:List Fr) (w:World) (es:Array Event)
 |panic
 |stop
 |bad
def kU(P:Program)(g:FuncId)(args:Array Value):Fr:=
 let fn:=P.funcs[g]?
 ⟨g,args++Array.replicate ((fn.map (·.ntmps)).getD 0-args.size) undef,[.code ((fn.bind (·.body)).getD (.refuse "unsupported: a function without a Go body is entered"))],false⟩
def bU(P:Program)(f:Fr)(fs:List Fr)(o:Oper)(w:World):FO:=
 match(execOp f.act.eval o).run P w with
 | .ok (.value v) w'=>.go (f.finish v) fs w' (seen P f.fn ((execOp f.act.eval o).events P w #[]))
 | .ok .skip w'=>.go (f.finish undef) fs w' (seen P f.fn ((execOp f.act.eval o).events P w #[]))
 | .ok (.enter g args) w'=>.go (kU P g args) (f::fs) w' (seen P f.fn ((execOp f.act.eval o).events P w #[]))
 | .halt (.panic _) _=>.panic
 |_=>.bad
def aJ(P:Program)(f:Fr)(fs:List Fr)(w:World):FO:=
 match f.todo with
 | []=>match fs with| []=>.stop|_::_=>.go {f with ret:=true} fs w #[]
 | .code .ret::_=>.go {f with ret:=true} fs w #[]
 | .code .skip::k=>.go {f with todo:=k} fs w #[]
 | .code (.label _)::k=>.go {f with todo:=k} fs w #[]
 | .inBlock _::k=>.go {f with todo:=k} fs w #[]
 | .code (.seq a b)::k=>.go {f with todo:=.code a:: .code b::k} fs w #[]
 | .code (.cond c thn els)::k=>match f.act.eval c with| .bool b=>.go {f with todo:=.code (if b then thn else els)::k} fs w #[]|_=>.bad
 | .code (.block id body)::k=>.go {f with todo:=.code body:: .inBlock id::k} fs w #[]
 | .code (.loop body)::k=>.go {f with todo:=.code body:: .inLoop body::k} fs w #[]
 | .inLoop body::k=>.go {f with todo:=.code body:: .inLoop body::k} fs w #[]
 | .code (.exit id)::k=>match exitTo id k with|some k'=>.go {f with todo:=k'} fs w #[]|none=>.bad
 |.code (.region id ops draw)::k=>
  if draw then .go {f with todo:=.inRegion ops (Region.schedule (P.follows .mixedOrders) ops (w.tape w.drawn (.order f.fn id)))::k} fs {w with drawn:=w.drawn+1} #[]
  else .go {f with todo:=.inRegion ops (List.range ops.size)::k} fs w #[]
 | .inRegion _ []::k=>.go {f with todo:=k} fs w #[]
 |.inRegion ops (i::_)::_=>
  match ops[i]? with
  |none=>.go (f.finish undef) fs w #[]
  |some o=>if Region.wanted o (yielded ops f.tmps)then bU P f fs o w else .go (f.finish undef) fs w #[]
 |_=>.bad
def jY(P:Program)(f:Fr)(fs:List Fr)(w:World):FO:=
 match fs with
 | []=>.stop
 |c::rest=>
  match P.funcs[f.fn]? with
  |none=>.bad
  |some fn=>match(results fn f.tmps).run P w with
   | .ok v w'=>.go (c.finish v) rest w' (seen P f.fn ((results fn f.tmps).events P w #[]))
   |_=>.bad
def aG(P:Program)(f:Fr)(fs:List Fr)(w:World):FO:=if f.ret then jY P f fs w else aJ P f fs w
structure Ctx where
 k:List Item
 defers:List Deferred
 kind:CallKind
 callers:List Frame
def Fr.mode(f:Fr):FrameMode:=if f.ret then .returning else .run
def Fr.top(f:Fr):Frame:= {fn:=f.fn,tmps:=f.tmps,todo:=f.todo,defers:= [],mode:=f.mode,kind:=.normal}
def Fr.base(f:Fr)(C:Ctx):Frame:= {fn:=f.fn,tmps:=f.tmps,todo:=f.todo++C.k,defers:=C.defers,mode:=f.mode,kind:=C.kind}
def below(C:Ctx):List Fr->List Frame
 | []=>C.callers
 | [f]=>f.base C::C.callers
 |f::g::rest=>f.top::below C (g::rest)
def bP(C:Ctx)(f:Fr):List Fr->Goroutine
 | []=>G (f.base C) C.callers
 |g::rest=>G f.top (below C (g::rest))
section
variable {P:Program} {main:Bool} {C:Ctx} {f:Fr} {fs:List Fr} {w:World}
def cur(C:Ctx)(f:Fr):List Fr->Frame
 | []=>f.base C
 |_::_=>f.top
theorem bX(C:Ctx)(f:Fr)(fs:List Fr):bP C f fs=G (cur C f fs) (below C fs):=by cases fs<;>rfl
theorem oN(C:Ctx)(f:Fr)(fs:List Fr):below C (f::fs)=cur C f fs::below C fs:=by cases fs<;>rfl
def tail(C:Ctx):List Fr->List Item
 | []=>C.k
 |_::_=> []
def fT(C:Ctx):List Fr->CallKind
 | []=>C.kind
 |_::_=>.normal
def dh(C:Ctx):List Fr->List Deferred
 | []=>C.defers
 |_::_=> []
theorem bO(C:Ctx)(f:Fr)(fs:List Fr):cur C f fs= {fn:=f.fn,tmps:=f.tmps,todo:=f.todo++tail C fs,defers:=dh C fs,mode:=f.mode,kind:=fT C fs}:=by
 cases fs<;>simp[cur,Fr.base,Fr.top,tail,fT,dh]
theorem mH{id:Nat}:∀{k k':List Item} (r:List Item),exitTo id k=some k'->exitTo id (k++r)=some (k'++r)
 | [],_,_,h=>by cases h
 |x::k,k',r,h=>by
  cases x<;>simp only[exitTo,List.cons_append]at h⊢<;>first
   |exact mH r h
   |(split at h
     ·rename_i hc;obtain rfl:=Option.some.inj h;simp[hc]
     ·rename_i hc;simp only[hc];exact mH r h)
theorem qV(f:Fr)(fs:List Fr)(v:Value){ops:Array Oper}{i:Nat}{rest:List Nat}{k:List Item}(h:f.todo= .inRegion ops (i::rest)::k):(cur C f fs).finish v=cur C (f.finish v) fs:=by
 rw[bO,bO];simp only[Frame.finish,Fr.finish,h,List.cons_append];rfl
theorem OM(P:Program)(g:FuncId)(args:Array Value)(C:Ctx)(f:Fr)(fs:List Fr):Frame.enter P g args .normal=cur C (kU P g args) (f::fs):=by
 simp[cur,Fr.top,kU,Frame.enter,Fr.mode]
def Pm(f:Fr):Prop:=∃ops i rest k,f.todo= .inRegion ops (i::rest)::k
def Wf(fs:List Fr):Prop:=∀c∈fs,Pm c/\c.ret=false
theorem iX(h:f.ret=false):f.mode= .run:=by simp[Fr.mode,h]
theorem oh(h:f.ret=true):f.mode= .returning:=by simp[Fr.mode,h]
theorem oV(b:Frame)(h:b.tmps=f.tmps):b.eval=f.act.eval:=by
 funext x;cases x<;>simp[Frame.eval,Act.eval,Fr.act,h]
theorem rJ(hk:C.kind≠.early)(hwf:Wf fs){f':Fr}{fs':List Fr}{w':World}{es:Array Event}(h:aG P f fs w= .go f' fs' w' es):stepG P main (bP C f fs) w= .go (bP C f' fs') w' es:=by
 have hkk:(fT C fs==CallKind.early)=false:=by
  cases fs
  ·simpa[fT]using hk
  ·rfl
 unfold aG at h;cases hr:f.ret with
 |true=>
  simp only[hr,if_true]at h;unfold jY at h;cases fs with
  |nil=>cases h
  |cons c rest=>
   simp only at h;cases hf:P.funcs[f.fn]? with
   |none=>rw[hf]at h;cases h
   |some fn=>
    rw[hf]at h;simp only at h;cases hres:(results fn f.tmps).run P w with
    |halt x w1=>rw[hres]at h;cases h
    |ok v w1=>
     rw[hres]at h;simp only[FO.go.injEq]at h;obtain⟨rfl,rfl,rfl,rfl⟩:=h;obtain⟨⟨ops,i,rs,k,htd⟩,_⟩:=hwf c (by simp);rw[bX,bX,oN,<-qV (C:=C) c rest v htd];simp[G,stepG,unwind,doReturn,cur,Fr.top,oh hr,hf,hres,GStep.after]
 |false=>
  simp only[hr,Bool.false_eq_true,if_false]at h;unfold aJ at h;have hm:=iX hr;rw[bX,bO];split at h
  ·rename_i htd;cases fs with
   |nil=>cases h
   |cons c rest=>
    simp only[FO.go.injEq]at h;obtain⟨rfl,rfl,rfl,rfl⟩:=h;rw[bX,bO];simp[G,stepG,stepG.exec,htd,tail,Fr.mode,hr]
  iterate 5 (·rename_i htd;simp only[FO.go.injEq]at h;obtain⟨rfl,rfl,rfl,rfl⟩:=h;rw[bX,bO];simp[G,stepG,stepG.exec,htd,Fr.mode,hr])
  ·rename_i c thn els k htd;have he:({fn:=f.fn,tmps:=f.tmps,todo:=f.todo++tail C fs,defers:=dh C fs,mode:=f.mode,kind:=fT C fs}:Frame).eval c=f.act.eval c:=by
    rw[oV];rfl
   split at h
   ·rename_i b hb;simp only[FO.go.injEq]at h;obtain⟨rfl,rfl,rfl,rfl⟩:=h;rw[bX,bO];rw[hb]at he;simp only[hm,htd,List.cons_append]at he;simp[G,stepG,stepG.exec,htd,Fr.mode,hr,he]
   ·cases h
  iterate 3 (·rename_i htd;simp only[FO.go.injEq]at h;obtain⟨rfl,rfl,rfl,rfl⟩:=h;rw[bX,bO];simp[G,stepG,stepG.exec,htd,Fr.mode,hr])
  ·rename_i id k htd;split at h
   ·rename_i k' hk';simp only[FO.go.injEq]at h;obtain⟨rfl,rfl,rfl,rfl⟩:=h;rw[bX,bO];have:=mH (tail C fs) hk';simp[G,stepG,stepG.exec,htd,Fr.mode,hr,this]
   ·cases h
  ·rename_i id ops draw k htd;cases draw with
   |true=>
    simp only[if_true,FO.go.injEq]at h;obtain⟨rfl,rfl,rfl,rfl⟩:=h;rw[bX,bO];simp[G,stepG,stepG.exec,htd,Fr.mode,hr,choose,Sem.run,Question.forced,Question.cut]
   |false=>
    simp only[Bool.false_eq_true,if_false,FO.go.injEq]at h;obtain⟨rfl,rfl,rfl,rfl⟩:=h;rw[bX,bO];simp[G,stepG,stepG.exec,htd,Fr.mode,hr]
  ·rename_i htd;simp only[FO.go.injEq]at h;obtain⟨rfl,rfl,rfl,rfl⟩:=h;rw[bX,bO];simp[G,stepG,stepG.exec,htd,Fr.mode,hr]
  ·rename_i ops i rest k htd;have hfin:∀v,(cur C f fs).finish v=cur C (f.finish v) fs:=fun v=>qV f fs v htd;have hcur:=bO C f fs;have he:(cur C f fs).eval=f.act.eval:=by rw[hcur];exact oV _ rfl
   have WJ:((ops[i]?).map (Region.wanted · (yielded ops f.tmps))).getD false=false->stepG P main (G (cur C f fs) (below C fs)) w= .go (G ((cur C f fs).finish undef) (below C fs)) w:=by
    intro hw;rw[hcur];simp[G,stepG,stepG.exec,hm,htd,hw]
   have hgo:∀o,ops[i]? =some o->Region.wanted o (yielded ops f.tmps)=true->stepG P main (G (cur C f fs) (below C fs)) w=stepG.apply P true (cur C f fs) (below C fs) none (execOp f.act.eval o) w:=by
    intro o ho hw;rw[<-he];have e2:(cur C f fs).oper? =some o:=by rw[hcur];simp[Frame.oper?,htd,ho]
    have e3:(cur C f fs).roundOf=none:=by rw[hcur]
    have e1:(cur C f fs).todo= .inRegion ops (i::rest)::(k++tail C fs):=by rw[hcur,htd];rfl
    have e4:(cur C f fs).mode= .run:=by rw[hcur];exact hm
    have e5:(cur C f fs).tmps=f.tmps:=by rw[hcur]
    simp[G,stepG,stepG.exec,stepG.oper,e4,e1,e2,e3,e5,ho,hw]
   rw[<-hcur];cases ho:ops[i]? with
   |none=>
    rw[ho]at h;simp only[FO.go.injEq]at h;obtain⟨rfl,rfl,rfl,rfl⟩:=h;rw[WJ (by simp[ho]),hfin,bX]
   |some o=>
    rw[ho]at h;simp only at h;by_cases hw:Region.wanted o (yielded ops f.tmps)=true
    ·simp only[hw,if_true]at h;rw[hgo o ho hw];unfold bU at h;have hkc:((cur C f fs).kind==CallKind.early)=false:=by rw[hcur];exact hkk
     have hfn:(cur C f fs).fn=f.fn:=by rw[hcur]
     have dK:(cur C f fs).todo= .inRegion ops (i::rest)::(k++tail C fs):=by rw[hcur,htd];rfl
     split at h
     ·rename_i v w1 hrun;simp only[FO.go.injEq]at h;obtain⟨rfl,rfl,rfl,rfl⟩:=h;rw[bX,<-hfin];simp[stepG.apply,hrun,hkc,hfn,GStep.after,G]
     ·rename_i w1 hrun;simp only[FO.go.injEq]at h;obtain⟨rfl,rfl,rfl,rfl⟩:=h;rw[bX,<-hfin];simp[stepG.apply,hrun,hkc,hfn,GStep.after,G]
     ·rename_i g args w1 hrun;simp only[FO.go.injEq]at h;obtain⟨rfl,rfl,rfl,rfl⟩:=h;rw[bX,oN,<-OM];simp[stepG.apply,hrun,hkc,hfn,dK,GStep.after,G]
     iterate 2 (·cases h)
    ·simp only[hw,Bool.false_eq_true,if_false,FO.go.injEq]at h;obtain⟨rfl,rfl,rfl,rfl⟩:=h;rw[WJ (by simp[ho];simpa using hw),hfin,bX]
  ·cases h
theorem S_(hwf:Wf fs){f':Fr}{fs':List Fr}{w':World}{es:Array Event}(h:aG P f fs w= .go f' fs' w' es):Wf fs':=by
 unfold aG at h;cases hr:f.ret with
 |true=>
  simp only[hr,if_true]at h;unfold jY at h;cases fs with
  |nil=>cases h
  |cons c rest=>
   simp only at h
   (repeat' split at h)<;>first|(simp only[FO.go.injEq]at h;obtain⟨_,rfl,_,_⟩:=h;exact fun x hx=>hwf x (by simp[hx]))|cases h
 |false=>
  simp only[hr,Bool.false_eq_true,if_false]at h;unfold aJ at h;split at h;all_goals try (simp only[FO.go.injEq]at h;obtain⟨_,rfl,_,_⟩:=h;exact hwf)
  ·split at h
   ·cases h
   ·simp only[FO.go.injEq]at h;obtain⟨_,rfl,_,_⟩:=h;exact hwf
  ·split at h
   ·simp only[FO.go.injEq]at h;obtain⟨_,rfl,_,_⟩:=h;exact hwf
   ·cases h
  ·split at h
   ·simp only[FO.go.injEq]at h;obtain⟨_,rfl,_,_⟩:=h;exact hwf
   ·cases h
  ·split at h
   iterate 2 (·simp only[FO.go.injEq]at h;obtain⟨_,rfl,_,_⟩:=h;exact hwf)
  ·rename_i ops i rest k htd;split at h
   ·simp only[FO.go.injEq]at h;obtain⟨_,rfl,_,_⟩:=h;exact hwf
   ·split at h
    ·unfold bU at h;split at h
     iterate 2 (·simp only[FO.go.injEq]at h;obtain⟨_,rfl,_,_⟩:=h;exact hwf)
     ·simp only[FO.go.injEq]at h;obtain⟨_,rfl,_,_⟩:=h;intro x hx;rcases List.mem_cons.1 hx with rfl|hx
      ·exact⟨⟨ops,i,rest,k,htd⟩,hr⟩
      ·exact hwf x hx
     iterate 2 (·cases h)
    ·simp only[FO.go.injEq]at h;obtain⟨_,rfl,_,_⟩:=h;exact hwf
  ·cases h
end
end Go.bB
