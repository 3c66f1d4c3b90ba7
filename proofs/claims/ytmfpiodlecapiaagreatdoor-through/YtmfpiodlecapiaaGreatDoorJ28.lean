import Derived.Test.YtmfpiodlecapiaaGreatDoorJ27
set_option linter.unusedSimpArgs false
set_option maxHeartbeats 8000000
set_option maxRecDepth 100000
namespace Go.Proofs.YtmfpiodlecapiaaGreatDoor
open Go.Proofs.Tryz
open Go.RowKit Go.Deep
variable{k z n:Nat}{d:List Nat}
namespace Oj
def qg(s:Oj)(k:Nat):gy:=⟨s.len,s.sz,s.ms,s.V,fun z n=>if z<s.N/\n<s.K z+s.V/\s.off z+n<k then some (s.pc z n)else none⟩
def rQ(s:Oj)(id k:Nat):bC.St:=if k=0 then []else [(id,s.qg k)]
theorem Jo(s:Oj)(hz:z<s.N)(hn:n<s.K z+s.V)(hk:k=s.off z+n):(s.qg k).put z n (s.pc z n)=s.qg (k+1):=by
 unfold qg gy.put;congr 1
 funext z' n';by_cases e:z'=z/\n'=n
 .obtain⟨rfl,rfl⟩:=e;simp only[if_pos (And.intro hz (And.intro hn (show s.off z'+n'<k+1 by omega))),and_self,if_true]
 .simp only[if_neg e];by_cases e2:z'<s.N/\n'<s.K z'+s.V/\s.off z'+n'<k
  .rw[if_pos e2,if_pos ⟨e2.1,e2.2.1,by omega⟩]
  .rw[if_neg e2,if_neg];rintro⟨h1,h2,h3⟩;have h4:s.off z'+n'=s.off z+n:=by
    by_cases h5:s.off z'+n'<k
    .exact absurd ⟨h1,h2,h5⟩ e2
    .omega
   exact e (s.XI h1 h2 hz hn h4)
theorem Ok.DJ{s:Oj}(h:s.Ok){id:Nat}(hz:z<s.N)(hn:n<s.K z+s.V)(hk:k=s.off z+n):bC.dY (s.rQ id k) (s.pkt id z n)=(s.rQ id (k+1),1,0):=by
 have e1:bC.jg (s.pkt id z n)=id:=Nat.div_add_mod id 256;have e3:bC.lenOf (s.pkt id z n)=s.len:=Nat.div_add_mod s.len 256;have e5:(s.pkt id z n)[5]?.getD 0=s.sz:=rfl;have e6:(s.pkt id z n)[6]?.getD 0=s.ms:=rfl;have e7:(s.pkt id z n)[7]?.getD 0=s.V:=rfl;have e8:(s.pkt id z n)[8]?.getD 0=z:=rfl;have e9:(s.pkt id z n)[9]?.getD 0=n:=rfl;have ed:(s.pkt id z n).drop 10=s.pc z n:=rfl;unfold bC.dY;rw[if_pos (h.pX hz hn),e1,e3,e5,e6,e7,e8,e9,ed];by_cases h0:k=0
 .have hg:bC.get (s.rQ id k) id=none:=by rw[h0];rfl
  have hl:(s.rQ id k).length<8:=by rw[h0];exact(by decide:(0:Nat)<8)
  have hb:gy.bare s.len s.sz s.ms s.V=s.qg k:=by
   unfold gy.bare qg;congr 1
   funext z' n';rw[if_neg];rintro⟨_,_,h3⟩;omega
  rw[hg];simp only[if_pos hl];rw[hb,s.Jo hz hn hk,h0];rfl
 .have cg:s.rQ id k= [(id,s.qg k)]:=if_neg h0;have me:s.rQ id (k+1)= [(id,s.qg (k+1))]:=if_neg (by omega);have hg:bC.get (s.rQ id k) id=some (s.qg k):=by rw[cg];simp[bC.get]
  rw[hg];have hc:(s.qg k).ct z n=none:=by
   show(if _ then _ else _)=_;rw[if_neg];rintro⟨_,_,h3⟩;omega
  simp only[hc];rw[if_pos ⟨rfl,rfl,rfl,rfl⟩,s.Jo hz hn hk,cg,me];simp[bC.set]
end Oj
def lV(d:List Nat):List UInt8:=32::((Tx.dh d).map UInt8.ofNat++ [32])
theorem toNat_ofNat{l:List Nat}(h:∀x∈l,x<256):(l.map UInt8.ofNat).map UInt8.toNat=l:=by
 rw[List.map_map];conv=>rhs;rw[<-List.map_id l]
 refine List.map_congr_left fun x hx=>?_;have:=h x hx;simp only[Function.comp,id];rw[UInt8.toNat_ofNat'];omega
theorem QA:(lV d).map UInt8.toNat=32::(Tx.dh d++ [32]):=by
 unfold lV;rw[List.map_cons,List.map_append,toNat_ofNat (l:=Tx.dh d) (Tx.zx d _)];rfl
theorem qX(hd:∀x∈d,x<256)(hp:Tx.bT d){ps:List (List Nat×Nat)}{tail:List Nat}(hb:∀p∈ps,Tx.Blank p.1)(hs:ps.map Prod.snd=Tx.dX d)(ht:Tx.Blank tail):Tx.dV (Tx.spread ps tail)=(d,0):=by
 unfold Tx.dV;rw[Tx.wZ hd hb hs ht];simp only[if_pos hp]
theorem Ih(hp:Tx.bT d):∃x xs,Tx.dX d=x::xs:=by
 have h1:=Tx.kF d;have h2:=hp.1;cases hs:Tx.dX d with
 |nil=>rw[hs]at h1;simp at h1;omega
 |cons x xs=>exact⟨x,xs,rfl⟩
theorem Gy(hd:∀x∈d,x<256)(hp:Tx.bT d):Tx.dV (32::(Tx.dh d++ [32]))=(d,0):=by
 obtain⟨x,xs,hx⟩:=Ih hp;have e:32::(Tx.dh d++ [32])=Tx.spread (([32],x)::xs.map fun y=>([],y)) [32]:=by
  rw[Tx.iL,hx];unfold Tx.spread;simp[List.flatMap_map]
 rw[e];refine qX hd hp (fun p Q6=>?_) (by rw[hx];simp[Function.comp_def]) (fun y hy=>.inl (by simpa using hy));rcases List.mem_cons.1 Q6 with rfl|h
 .exact fun y hy=>.inl (by simpa using hy)
 .obtain⟨y,_,rfl⟩:=List.mem_map.1 h;exact fun y hy=>by simp at hy
theorem X4(hn:n<64):∀x∈Tx.dM n,65<=x:=by
 unfold Tx.dM;intro x hx;split at hx
 .simp at hx;omega
 .split at hx
  iterate 2 (·simp at hx;omega)
theorem NI(d:List Nat):∀x∈Tx.dh d,65<=x:=fun x hx=>by
 rw[Tx.iL]at hx;obtain⟨n,hn,hx⟩:=List.mem_flatMap.1 hx;exact X4 (Tx.zf d n hn) x hx
theorem QB{b:UInt8}(h:b∈lV d):b=32\/65<=b.toNat:=by
 unfold lV at h;rcases List.mem_cons.1 h with h|h
 .exact .inl h
 .rcases List.mem_append.1 h with h|h
  .obtain⟨x,hx,rfl⟩:=List.mem_map.1 h;have h1:=NI d x hx;have h2:=Tx.zx d _ x hx;right;rw[UInt8.toNat_ofNat'];omega
  .exact .inl (by simpa using h)
theorem Ut:(10:UInt8)∉lV d:=fun h=>by
 rcases QB h with h|h
 .cases h
 .revert h;decide
theorem Qz(hp:Tx.bT d):(lV d).all (· ==32)=false:=by
 obtain⟨x,xs,hx⟩:=Ih hp;rw[List.all_eq_false];have hl:∃y ys,Tx.dM x=y::ys:=by
  unfold Tx.dM;split
  .exact⟨_,_,rfl⟩
  .split<;>exact⟨_,_,rfl⟩
 obtain⟨y,ys,hy⟩:=hl;have hm:y∈Tx.dh d:=by rw[Tx.iL,hx];simp[hy]
 refine⟨UInt8.ofNat y,?_,?_⟩
 .unfold lV;simp only[List.mem_cons,List.mem_append];exact .inr (.inl (List.mem_map.2 ⟨y,hm,rfl⟩))
 .have h1:=NI d y hm;have h2:=Tx.zx d _ y hm;intro h;have h3:UInt8.ofNat y=32:=by simpa using h
  have h4:=congrArg UInt8.toNat h3;rw[UInt8.toNat_ofNat']at h4;have:(32:UInt8).toNat=32:=rfl;omega
def A_(ds:List (List Nat)):List UInt8:=ds.flatMap fun d=>lV d++ [10]
theorem RJ(ds:List (List Nat))(d:List Nat):A_ (ds++ [d])=A_ ds++(lV d++ [10]):=by simp[A_]
theorem Dv:∀ds:List (List Nat),dB (A_ ds)=ds.map lV++ [[]]
 | []=>rfl
 |d::ds=>by
  have e:A_ (d::ds)=lV d++10::A_ ds:=by simp[A_]
  rw[e,sw _ _ Ut,Dv ds];rfl
theorem Oj.Ok.Ip{s:Oj}(h:s.Ok){id:Nat}(hid:id<65536):∀(m k c:Nat),k+m<=s.T->bC.read (s.rQ id k) c ((((Pk.packets id s.obj s.sz s.ms s.V).drop k).take m).map lV++ [[]])=(s.rQ id (k+m),m,0,0)
 |0,k,c,_=>by
  simp[bC.read]
 |m+1,k,c,hk=>by
  have hl:=h.zy id;obtain⟨z,n,hz,hn,e⟩:=s.split (show k<s.T by omega);have ha:=h.r_ (id:=id) hz hn;rw[<-e]at ha;have wb:((Pk.packets id s.obj s.sz s.ms s.V).drop k).take (m+1)=s.pkt id z n::((Pk.packets id s.obj s.sz s.ms s.V).drop (k+1)).take m:=by
   have uc:k<(Pk.packets id s.obj s.sz s.ms s.V).length:=by rw[hl];omega
   rw[List.drop_eq_getElem_cons uc,List.take_succ_cons];rw[List.getElem?_eq_getElem uc]at ha;rw[Option.some.inj ha]
  have hp:=h.pX (id:=id) hz hn;have hd:=h.LK (id:=id) hid hz hn;have LN:bC.line (s.rQ id k) ((lV (s.pkt id z n)).map UInt8.toNat)=(s.rQ id (k+1),1,0):=by
   unfold bC.line;rw[QA,Gy hd hp];simp only[if_true];rw[bC.uI];exact h.DJ hz hn e
  have ih:=h.Ip hid m (k+1) (c+1) (by omega);rw[wb,List.map_cons,List.cons_append,bC.read,if_neg (by rw[Qz hp];decide),LN];simp only[if_true];rw[ih];simp only[Prod.mk.injEq,and_true];exact⟨by rw[show k+1+m=k+(m+1) by omega],by omega⟩
end Go.Proofs.YtmfpiodlecapiaaGreatDoor
namespace Go.fE
open Go.Ren Go.bn Go.Conc
variable {P:Program} {Sh:Nat->Prop} {Post:(Nat->Prop)->Goroutine->World->Prop}
theorem aj.opU{b:Frame}{a:Act}{k:List Item}{cs:List Frame}{ops:Array Oper}{i:Nat}{rest:List Nat}{o:Oper}{p:World}(ho:ops[i]? =some o)(hw:Region.wanted o (yielded ops a.tmps)=true)(hk:b.kind≠.early){v:Value}
  (h:∀u:World,PS Sh (p.re u.tape u.drawn) u->(execOp a.eval o).run P u= .ok (.value v) u/\(execOp a.eval o).events P u #[]=#[])
  (hn:aj P Sh (G (b.at (a.put o.dst v) (.inRegion ops rest::k)) cs) p Post):aj P Sh (G (b.at a (.inRegion ops (i::rest)::k)) cs) p Post:=by
 refine .step rfl fun u cL=>?_;obtain⟨h1,h2⟩:=h u cL;refine⟨_,p,u,_,stepG_value ho hw hk h1,cL,Nat.le_refl _,fun e he=>?_,hn⟩;have:=mem_listed he;rw[h2]at this;simp at this
end Go.fE
namespace Go.Proofs.YtmfpiodlecapiaaGreatDoor
open Go.Proofs.Tryz
open Go.Conc Go.ConcN Go.RowKit Go.bn Go.Ren Go.fE Go.Deep
attribute [local go_sem↓] Go.wp_at_zero Go.wp_at_succ
variable{B b n gd od cd:Nat}{p q w:World}{Sh:Nat->Prop}{Post:(Nat->Prop)->Goroutine->World->Prop}{cfn:FuncId}{ca:Act}{bA:Array Oper}{aT d:List Nat}{ck ks:List Item}{o:Oper}{v:Value}{cc:Code}
structure Bl(B:Nat)(p q:World):Prop where
 size:p.heap.size<=q.heap.size
 block:∀k,k<B->q.heap[k]? =p.heap[k]?
 os:q.os=p.os
 output:q.output=p.output
theorem Bl.refl(B:Nat)(p:World):Bl B p p:=⟨Nat.le_refl _,fun _ _=>rfl,rfl,rfl⟩
theorem Bl.trans{r:World}(h:Bl B p q)(h':Bl B q r):Bl B p r:=⟨Nat.le_trans h.size h'.size,fun k hk=>(h'.block k hk).trans (h.block k hk),h'.os.trans h.os,h'.output.trans h.output⟩
theorem Bl.of_below{τ d}(h:Below B (p.re τ d) q):Bl B p q:=⟨h.size,h.block,h.os,h.output⟩
theorem Bl.below(h:Below B p q):Bl B p q:=⟨h.size,h.block,h.os,h.output⟩
theorem LH{u:World}(h:PS Sh (p.re u.tape u.drawn) u){t:TypeId}{L:List Value}(hr:aB p b t L)(hL:L≠ []):aB u b t L:=by
 have hn:¬Sh b:=fun hs=>by
  obtain⟨e,fz,xD,c,h1,_⟩:=h.rows b hs;have h2:p.heap[b]? =some (.cells #[] e fz):=h1;rw[hr]at h2;simp at h2;exact hL h2.1
 exact hr.of_block (h.same b hn)
theorem M5{L:List Value}(h:aB w b 122 L)(hL:L.length=2):(convert 120 205 (.pointer (some ⟨b,0,none⟩))).events prog w #[]=#[]:=by
 obtain⟨j,hj,_⟩:=Option.map_eq_some_iff.1 ji;have gm:=h.shape;rw[hL]at gm;have hs:=run_underlying (P:=prog) underlying120;have hd:=run_underlying (P:=prog) underlying205;simp only[convert,Sem.events_bind,hs,hd,Result.evThen_ok,events_underlying];refine Eq.trans (b:=Sem.events prog (bind (underlying 120) _) w #[]) rfl ?_;simp[hs,hd,Conv.seenAt,viewAt,gm,cellsIn,sizeOf,typeInfo,hj]
theorem M6{L:List Value}(h:aB w b 122 L)(hL:L.length=2):(convert 205 120 (.pointer (some ⟨b,0,none⟩))).events prog w #[]=#[]:=by
 obtain⟨j,hj,_⟩:=Option.map_eq_some_iff.1 ji;have gm:=h.shape;rw[hL]at gm;have hs:=run_underlying (P:=prog) underlying205;have hd:=run_underlying (P:=prog) underlying120;have hl:liesAt prog prog.depth 122 (2/prog.cellsOf 122) 0 122 1=true:=by kernel_rfl
 simp only[convert,Sem.events_bind,hs,hd,Result.evThen_ok,events_underlying];refine Eq.trans (b:=Sem.events prog (bind (underlying 205) _) w #[]) rfl ?_;simp[hs,hd,Conv.seenAt,viewAt,gm,variablesAt,hl,sizeOf,typeInfo,hj]
theorem vS{ci:Nat}{cs:List Frame}(ho:bA[ci]? =some o)(h:aB p b 122 [.pointer none,v])
  (bc:aj prog Sh (G ((base cfn).at (ca.put o.dst (.tuple #[])) (.inRegion bA aT::ck)) cs) (p.setCell ⟨b,0,none⟩ (.pointer (some ⟨b,0,none⟩))) Post):
  aj prog Sh (G ((base 119).at ⟨#[.pointer (some ⟨b,0,none⟩),undef,undef,undef,undef,undef,undef,undef,undef,undef,undef,undef,undef,undef,undef,undef,undef,undef,undef,undef],[]⟩ [.code (f119.body.getD .skip)]) ((base cfn).at ca (.inRegion bA (ci::aT)::ck)::cs)) p Post:=by
 have HE:=hide bc;clear bc;have h0:=h.cell 0 _ rfl;have gC:=h.frozen 0;conv=>arg 3;simp only[f119,Option.getD_some]
 refine aj.seq (aj.bW ak fun τ d=>?_);have h1:(p.re τ d).cell? ⟨b,0,none⟩=some (.pointer none):=h0;go_wp2;refine aj.re ?_ _ _;clear h1 τ d;refine aj.yes rfl ?_;refine aj.reg (todo:= [0,1,2,3,4,5,6,7]) rfl ?_;refine aj.pv ak fun τ d K hK=>?_;go_simp;refine hK _ ?_;clear hK;try walk_nrm
 refine aj.pv ak fun τ d K hK=>?_;go_simp;refine hK _ ?_;clear hK;try walk_nrm
 refine aj.opU (v:=.pointer (some ⟨b,0,none⟩)) rfl rfl (by decide) (fun u cL=>?_) ?_
 .have hr:=LH cL h (by simp);have h2:=Xc hr rfl;have h3:=M5 hr rfl;constructor
  .go_simp
  .unfold execOp;simp[Act.eval,Sem.events_bind,h2,h3]
 try walk_nrm
 refine aj.ow ak fun τ d K hK=>?_;go_simp;rw[run_callFunc_extern func172 (by kernel_rfl) (by kernel_rfl) (by kernel_rfl) (e:=Extern.AbiNoEscape.same) (by kernel_rfl)];rw[Lib.run_noEscape];refine hK _ _ ?_;clear hK;refine aj.re ?_ _ _;try walk_nrm
 refine aj.opU (v:=.pointer (some ⟨b,0,none⟩)) rfl rfl (by decide) (fun u cL=>?_) ?_
 .have hr:=LH cL h (by simp);have h2:=XJ hr rfl;have h3:=M6 hr rfl;constructor
  .go_simp
  .unfold execOp;simp[Act.eval,Sem.events_bind,h2,h3]
 try walk_nrm
 iterate 2 (refine aj.pv ak fun τ d K hK=>?_;go_simp;refine hK _ ?_;clear hK;try walk_nrm)
 refine aj.ow ak fun τ d K hK=>?_;have h1:(p.re τ d).cell? ⟨b,0,none⟩=some (.pointer none):=h0;have h2:(p.re τ d).frozen? ⟨b,0,none⟩=false:=gC;go_simp;refine hK _ _ ?_;clear hK;refine aj.re (p:=p.setCell ⟨b,0,none⟩ (.pointer (some ⟨b,0,none⟩))) ?_ τ d;try walk_nrm
 refine aj.aJ (aj.done ?_);exact aj.back ho func119 (v:=.tuple #[]) (by simp[results,f119,go_sem]) (by simp[results,f119]) HE.out
theorem M7{j:TypeInfo}(a:Addr)(hj:prog.info? 122=some j):(binOp .neq 120 (.pointer (some a)) (.pointer (some a))).events prog w #[]=#[]:=by
 have hs:=run_underlying (P:=prog) underlying120;have h:∀d:Nat,(Op.equalIn (d+1) 120 (.pointer (some a)) (.pointer (some a))).events prog w #[]=#[]:=fun d=>by
  simp[Op.equalIn,hs,sizeOf,typeInfo,hj,sameAddr,events_underlying]
 simp only[binOp];simp[Op.equal,Op.maxDepth,h 9999]
theorem Q0(x y:Operand)(a:Addr):eqGuard .neq 120 x y (.pointer (some a)) (.pointer (some a))=Pure.pure ():=by
 simp[eqGuard]
theorem xY{ci:Nat}{cs:List Frame}(ho:bA[ci]? =some o)(h:aB p b 122 [.pointer (some ⟨b,0,none⟩),v])
  (bc:aj prog Sh (G ((base cfn).at (ca.put o.dst (.tuple #[])) (.inRegion bA aT::ck)) cs) p Post):
  aj prog Sh (G ((base 119).at ⟨#[.pointer (some ⟨b,0,none⟩),undef,undef,undef,undef,undef,undef,undef,undef,undef,undef,undef,undef,undef,undef,undef,undef,undef,undef,undef],[]⟩ [.code (f119.body.getD .skip)]) ((base cfn).at ca (.inRegion bA (ci::aT)::ck)::cs)) p Post:=by
 obtain⟨j,hj,_⟩:=Option.map_eq_some_iff.1 ji;have HE:=hide bc;clear bc;have h0:=h.cell 0 _ rfl;conv=>arg 3;simp only[f119,Option.getD_some]
 refine aj.seq (aj.bW ak fun τ d=>?_);have h1:(p.re τ d).cell? ⟨b,0,none⟩=some (.pointer (some ⟨b,0,none⟩)):=h0;go_wp2;refine aj.re ?_ _ _;clear h1 τ d;refine aj.no rfl (aj.seq ?_);refine aj.reg (todo:= [0,1,2,3,4,5]) rfl ?_;refine aj.pv ak fun τ d K hK=>?_;go_simp;refine hK _ ?_;clear hK;try walk_nrm
 iterate 2 (refine aj.pv ak fun τ d K hK=>?_;go_simp;refine hK _ ?_;clear hK;try walk_nrm)
 refine aj.ow ak fun τ d K hK=>?_;have h1:(p.re τ d).cell? ⟨b,0,none⟩=some (.pointer (some ⟨b,0,none⟩)):=h0;go_simp;refine hK _ _ ?_;clear hK;refine aj.re ?_ _ _;try walk_nrm
 refine aj.pv ak fun τ d K hK=>?_;go_simp;refine hK _ ?_;clear hK;try walk_nrm
 refine aj.opU (v:=.bool false) rfl rfl (by decide) (fun u cL=>?_) ?_
 .have hr:=LH cL h (by simp);constructor
  .have h2:=Lib.run_neq_ptr_same u (⟨b,0,none⟩:Addr) underlying120 hj;go_simp;done
  .have h2:=M7 (w:=u) (⟨b,0,none⟩:Addr) hj;unfold execOp;simp[Act.eval,Sem.events_bind,Q0,h2]
 try walk_nrm
 refine aj.aJ (aj.no rfl (aj.skip (aj.done ?_)));exact aj.back ho func119 (v:=.tuple #[]) (by simp[results,f119,go_sem]) (by simp[results,f119]) HE.out
theorem yH{ci:Nat}{cs:List Frame}(ho:bA[ci]? =some o){N:Nat}(hn:n<64){bs:List Value}(hN:Hid (bs.length=N))(Aa:N<=1000000000)(h:Nr p b bs)
  (bc:∀(m:Int) w',Nr w' b (bs++bO (Tx.dM n))->Bl b p w'->aj prog Sh (G ((base cfn).at (ca.put o.dst (.tuple #[.int .i64 m,.nilIface])) (.inRegion bA aT::ck)) cs) w' Post):
  aj prog Sh (G ((base 70).at ⟨#[.pointer (some ⟨b,0,none⟩),.int .i32 (Tx.rn n:Nat),undef,undef,undef,undef,undef,undef,undef,undef,undef,undef,undef,undef,undef,undef,undef,undef,undef,undef,undef,undef,undef,undef,undef,undef,undef,undef,undef,undef],[]⟩ [.code (f70.body.getD .skip)]) ((base cfn).at ca (.inRegion bA (ci::aT)::ck)::cs)) p Post:=by
 obtain⟨pp,v,hr,hp,hw,hk⟩:=h;obtain⟨a1,k1,gm⟩:=hw.shape;rw[hN.out]at gm;subst gm;have tail:∀w,aB w b 122 [.pointer (some ⟨b,0,none⟩),.slice a1 N k1]->bK w 5 (.slice a1 N k1) bs->Bl b p w->aj prog Sh (G ((base 70).at ⟨#[.pointer (some ⟨b,0,none⟩),.int .i32 (Tx.rn n:Nat),undef,undef,.int .i64 0,.nilIface,undef,.pointer (some ⟨b,0,none⟩),.tuple #[],undef,undef,undef,undef,undef,undef,undef,undef,undef,undef,undef,undef,undef,undef,undef,undef,undef,undef,undef,undef,undef],[]⟩ [.code (eO [1,1] (f70.body.getD .skip))]) ((base cfn).at ca (.inRegion bA (ci::aT)::ck)::cs)) w Post:=by
  intro w V0 Cn Cq;have HE:=hide bc;have HR:=hide V0;have HO:=hide Cn;have HB:=hide Cq;have HK:=hide hk
  clear bc hr hw hp;conv=>arg 3;simp only[f70,Option.getD_some,eO]
  refine aj.bW ak fun τ d=>?_;have c1:(w.re τ d).cell? ⟨b,1,none⟩=some (.slice a1 N k1):=V0.cell 1 _ rfl;have AR:=hide (xZ n N hn (.slice a1 N k1) bs hN Aa (w.re τ d) (show bK (w.re τ d) 5 (.slice a1 N k1) bs from Cn));generalize (Tx.rn n:Nat)=r at AR⊢;clear V0 Cn Cq hk;go_wp2_with fail
  go_at_call 120
  refine AR.out.mono ?_;rintro _ w1 ⟨v',oo,rfl,bt⟩;obtain⟨a2,k2,eM⟩:=bt.own.shape;obtain⟨M,hM⟩:∃M,M=(bs++bO (Tx.dM n)).length:=⟨_,rfl⟩;have On:M<=1000000002:=by
   have:=Tx.xB n;rw[hM,List.length_append,aP,hN.out];omega
  rw[<-hM]at eM;subst eM;have By:aB (w.re τ d) b 122 [.pointer (some ⟨b,0,none⟩),.slice a1 N k1]:=HR.out;have hOt:bK (w.re τ d) 5 (.slice a1 N k1) bs:=HO.out;have YV:=hOt.alloc oo;have rF:=bt.other (By.alloc oo) (YV.lU (By.alloc oo) (by decide));have d1:=rF.cell 1 _ rfl;have f1:=rF.frozen 1;have rj:=rF.set 1 (.slice a2 M k2);have e1:=rj.cell 1 _ rfl;have nf:Nr (w1.setCell ⟨b,1,none⟩ (.slice a2 M k2)) b (bs++bO (Tx.dM n)):=by
   refine⟨_,_,rj,Or.inr rfl,bt.own.setCell (i:=1) rF (by decide) _,?_⟩;intro k hk;have hB:b+1<=((w.re τ d).alloc oo).heap.size:=by have:=By.lt;simp;omega
   exact bt.from hB (fun k hk=>HK.out k hk) k hk
  have K0:Bl b p (w1.setCell ⟨b,1,none⟩ (.slice a2 M k2)):=by
   refine HB.out.trans (Bl.of_below (τ:=τ) (d:=d) ?_);have h1:Below b (w.re τ d) ((w.re τ d).alloc oo):=(Below.refl b _).alloc (Nat.le_of_lt By.lt) oo;exact(bt.below h1 (by have:=By.lt;simp;omega) (fun k hk=>Nat.le_of_lt (HK.out k hk))).setCell (Nat.le_refl _) _
  have HL:=hide nf;have Bh:=hide K0
  clear nf K0 rF rj YV bt hM c1 By hOt;go_wp2;intro todo;refine aj.back (v:=.tuple #[.int .i64 ((M:Int)-(N:Int)),.nilIface]) ho func70 (by simp[results,f70,go_sem]) (by simp[results,f70]) ?_;exact HE.out _ _ HL.out Bh.out
 clear bc;have HT:=hide tail;clear tail;conv=>arg 3;simp only[f70,Option.getD_some]
 refine aj.seq (aj.bW ak fun τ d=>?_);go_wp2;refine aj.re ?_ _ _;clear τ d;refine aj.seq (aj.reg (todo:= [0,1]) rfl ?_);refine aj.pv ak fun τ d K hK=>?_;go_simp;refine hK _ ?_;clear hK;try walk_nrm
 refine aj.fB rfl rfl (by decide) rfl func119 rfl rfl (T':=#[.pointer (some ⟨b,0,none⟩),undef,undef,undef,undef,undef,undef,undef,undef,undef,undef,undef,undef,undef,undef,undef,undef,undef,undef,undef]) (by simp[Act.eval,f119]) ?_;rcases hp with rfl|rfl
 .refine vS (o:=?oo) ?sb hr ?_
  case sb=>rfl
  try walk_nrm
  refine aj.aJ ?_;exact HT.out _ (hr.set 0 (.pointer (some ⟨b,0,none⟩))) (hw.setCell (i:=0) hr (by decide) _) (Bl.below ((Below.refl b p).setCell (Nat.le_refl _) _))
 .refine xY (o:=?oo) ?sb hr ?_
  case sb=>rfl
  try walk_nrm
  refine aj.aJ ?_;exact HT.out _ hr hw (Bl.refl b p)
theorem Alpha.bl(h:Alpha p)(hb:Bl B p q)(hB:0<B):Alpha q:=fun i hi=>by
 rw[<-h i hi];exact World.cell?_of_block (hb.block 0 hB)
theorem Bl.cell(h:Bl B p q){g i:Nat}(hg:g<B)(hc:p.cell? ⟨g,i,none⟩=some v):q.cell? ⟨g,i,none⟩=some v:=by
 rw[<-hc];exact World.cell?_of_block (h.block g hg)
theorem R6{cs:List Frame}{m:Nat}(hn:n<=100000000)(hm:m<n)(du:0<b)(ha:Alpha p)(hc:Hid (cc=eO [1,1,1,0,1,0,0,1,1,0,0,1,1,0,0] (f36.body.getD .skip)))
  (bc:∀e c X q t1 t6 t7 a8 b6 d6 d3 b0 c7 b8 c0 c5 c6 d2 a3 d0 a6 a7 b3 b7 a4 d7 c4 b9 b2 c8 d5 b4 d4 b1 d8 a9 c9 d9 a5 e0 b5,c<6->6*e+c=8*(m+1)->X=Tx.val (Tx.lJ d) (6*e) c->Nr q b (bO (Tx.pre d e))->Bl b p q->aj prog Sh (G ((base 36).at ⟨#[.slice (some ⟨gd,od,none⟩) n cd,t1,.string ⟨#[]⟩,.pointer (some ⟨b,0,none⟩),.int .i64 (X:Nat),.int .i64 (c:Nat),t6,t7,.slice (some ⟨gd,od,none⟩) n cd,.int .i64 (n:Nat),.int .i64 (m:Nat),a8,b6,d6,d3,b0,c7,b8,c0,c5,c6,d2,a3,d0,a6,a7,b3,b7,a4,d7,c4,b9,b2,c8,d5,b4,d4,b1,d8,a9,c9,d9,a5,e0,b5],[]⟩ ks) cs) q Post):
  ∀(r e c X:Nat) (q:World) (t1 t6 t7 a8 b6 d6 d3 b0 c7 b8 c0 c5 c6 d2 a3 d0 a6 a7 b3 b7 a4 d7 c4 b9 b2 c8 d5 b4 d4 b1 d8 a9 c9 d9 a5 e0 b5:Value),c<=13->c<6*r+6->6*e+c=8*(m+1)->X=Tx.val (Tx.lJ d) (6*e) c->Nr q b (bO (Tx.pre d e))->Bl b p q->
   aj prog Sh (G ((base 36).at ⟨#[.slice (some ⟨gd,od,none⟩) n cd,t1,.string ⟨#[]⟩,.pointer (some ⟨b,0,none⟩),.int .i64 (X:Nat),.int .i64 (c:Nat),t6,t7,.slice (some ⟨gd,od,none⟩) n cd,.int .i64 (n:Nat),.int .i64 (m:Nat),a8,b6,d6,d3,b0,c7,b8,c0,c5,c6,d2,a3,d0,a6,a7,b3,b7,a4,d7,c4,b9,b2,c8,d5,b4,d4,b1,d8,a9,c9,d9,a5,e0,b5],[]⟩ (.code cc:: .inLoop cc:: .inBlock 2::ks)) cs) q Post:=by
 have HE:=hide bc;have HA:=hide ha
 clear bc ha;intro r;induction r with
 |zero=>
  intro e c X q t1 t6 t7 a8 b6 d6 d3 b0 c7 b8 c0 c5 c6 d2 a3 d0 a6 a7 b3 b7 a4 d7 c4 b9 b2 c8 d5 b4 d4 b1 d8 a9 c9 d9 a5 e0 b5 hc13 Ft Y3 hX cN cX;refine aj.YI hc.out ?_;conv=>arg 3;simp only[f36,Option.getD_some,eO]
  have c1:¬(6:Int)<=(c:Int):=by omega
  have Bh:=hide cN;have Np:=hide cX;have HX:=hide hX
  clear cN cX hX;refine aj.seq (aj.seq ?_);refine aj.bB fun kk ae=>?_;replace ae:=hide ae;refine aj.bW ak fun τ d=>?_;go_wp2
  first|(refine Or.inl ⟨rfl,?_⟩;dsimp only;refine aj.re ?_ _ _)|refine aj.re ?_ _ _
  rw[ae.out];clear ae kk τ d;refine aj.no rfl ?_;refine aj.exit rfl ?_;exact HE.out e c X q _ _ _ _ _ _ _ _ _ _ _ _ _ _ _ _ _ _ _ _ _ _ _ _ _ _ _ _ _ _ _ _ _ _ _ _ _ (by omega) Y3 HX.out Bh.out Np.out
 |succ r ih=>
  intro e c X q t1 t6 t7 a8 b6 d6 d3 b0 c7 b8 c0 c5 c6 d2 a3 d0 a6 a7 b3 b7 a4 d7 c4 b9 b2 c8 d5 b4 d4 b1 d8 a9 c9 d9 a5 e0 b5 hc13 Ft Y3 hX cN cX;have Bh:=hide cN;have Np:=hide cX
  clear cN cX;by_cases h6:6<=c
  .refine aj.YI hc.out ?_;conv=>arg 3;simp only[f36,Option.getD_some,eO]
   have c1:(6:Int)<=(c:Int):=by omega
   obtain⟨s,rfl⟩:∃s,c=s+6:=⟨c-6,by omega⟩;have Th:X/2^s=Tx.val (Tx.lJ d) (6*e) 6:=by rw[hX,Nat.add_comm s 6,Tx.Ep (Tx.kJ d)]
   have hXm:X%2^s=Tx.val (Tx.lJ d) (6*e+6) s:=by rw[hX,Nat.add_comm s 6,Tx.val_mod (Tx.kJ d)]
   have Te:X<1048576:=by rw[hX];exact Nat.lt_of_lt_of_le (Tx.kQ (Tx.kJ d) _ _) (Nat.pow_le_pow_right (by decide) (by omega:s+6<=20))
   have xe:Tx.val (Tx.lJ d) (6*e) 6<64:=Tx.kQ (Tx.kJ d) _ 6;obtain⟨V,hV⟩:∃V,V=Tx.val (Tx.lJ d) (6*e) 6:=⟨_,rfl⟩;rw[<-hV]at Th xe;have p_:(0:Int)<=(s:Int):=by omega
   have mc:((s:Int)+6)-6=(s:Int):=by omega
   have hdiv:(X:Int)/2^s=(V:Int):=by rw[<-Th];simp
   have v0:(0:Int)<=(V:Int):=by omega
   have v1:(V:Int)<64:=by omega
   have S7:=(HA.out.bl Np.out du) V xe;have eI:=Tx.lu d e;have c2:(6:Int)<=(s:Int)+6:=by omega
   have HXm:=hide hXm;have HV:=hide hV
   clear hXm hV hX Th;have LW:=hide (xu X s Te (by omega));obtain⟨X',F_⟩:∃X',X'=X%2^s:=⟨_,rfl⟩;rw[<-F_]at LW HXm;clear F_;refine aj.seq (aj.seq ?_);refine aj.bB fun kk ae=>?_;replace ae:=hide ae;refine aj.bW ak fun τ d=>?_;go_wp2
   first|(refine Or.inl ⟨rfl,?_⟩;dsimp only;refine aj.re ?_ _ _)|refine aj.re ?_ _ _
   rw[ae.out];clear ae kk τ d;refine aj.yes (by first|rfl|(simp[Act.eval];done)|(simp[Act.eval];omega)) (aj.skip ?_);refine aj.block (aj.seq ?_);refine aj.bB fun kk ae=>?_;replace ae:=hide ae;refine aj.bW ak fun τ d=>?_;go_wp2
   first|(refine Or.inl ⟨rfl,?_⟩;dsimp only;refine aj.re ?_ _ _)|refine aj.re ?_ _ _
   rw[ae.out];clear ae kk τ d;refine aj.seq ?_;refine aj.bB fun kk ae=>?_;replace ae:=hide ae;refine aj.reg (todo:= [0,1,2,3,4,5]) rfl ?_;refine aj.pv ak fun τ d K hK=>?_;go_simp;refine hK _ ?_;clear hK;try walk_nrm
   iterate 3 (refine aj.pv ak fun τ d K hK=>?_;go_simp;refine hK _ ?_;clear hK;try walk_nrm)
   refine aj.ow ak fun τ d K hK=>?_;have a0:(q.re τ d).cell? ⟨0,V,none⟩=some (.int .i32 (Tx.rn V:Nat)):=S7;go_simp;refine hK _ _ ?_;clear hK a0;refine aj.re ?_ _ _;try walk_nrm
   refine aj.fB rfl rfl (by decide) rfl func70 rfl rfl (T':=#[.pointer (some ⟨b,0,none⟩),.int .i32 (Tx.rn V:Nat),undef,undef,undef,undef,undef,undef,undef,undef,undef,undef,undef,undef,undef,undef,undef,undef,undef,undef,undef,undef,undef,undef,undef,undef,undef,undef,undef,undef]) (by simp[Act.eval,f70]) ?_;refine yH (o:=?o) ?ho xe (hide (aP _)) (by omega) Bh.out (fun mm w1 QO U9=>?bc)
   case ho=>rfl
   case bc=>
   have zE:=hide QO;have zt:=hide U9
   clear QO U9;try walk_nrm
   refine aj.aJ ?_;rw[ae.out];clear ae kk;refine aj.bB fun kk ae=>?_;replace ae:=hide ae;refine aj.bW ak fun τ d=>?_;go_wp2_with (go_at_call 71;refine(LW.out _).mono ?_;rintro _ _ ⟨rfl,rfl⟩)
   first|(refine Or.inl ⟨rfl,?_⟩;dsimp only;refine aj.re ?_ _ _)|refine aj.re ?_ _ _
   rw[ae.out];clear ae kk τ d;refine aj.inBlock (aj.inLoop ?_);refine ih (e+1) s X' w1 _ _ _ _ _ _ _ _ _ _ _ _ _ _ _ _ _ _ _ _ _ _ _ _ _ _ _ _ _ _ _ _ _ _ _ _ _ (by omega) (by omega) (by omega) HXm.out ?_ (Np.out.trans zt.out);have h:=zE.out;rw[Tx.zw,<-HV.out];unfold bO at h⊢;rw[List.map_append];exact h
  .exact ih e c X q _ _ _ _ _ _ _ _ _ _ _ _ _ _ _ _ _ _ _ _ _ _ _ _ _ _ _ _ _ _ _ _ _ _ _ _ _ (by omega) (by omega) Y3 hX Bh.out Np.out
theorem OL{cs:List Frame}(hn:n<=100000000)(hd:Hid (d.length=n))(AT:Hid (∀x∈d,x<256))(du:0<b)(ha:Alpha p)(cF:Hid (∀j,j<n->gd<b/\p.cell? ⟨gd,od+j,none⟩=some (.int .u8 ((d[j]?.getD 0:Nat):Int))))(hc:Hid (cc=eO [1,1,1,0,1,0,0] (f36.body.getD .skip)))
  (bc:∀e c X q m t1 t6 t7 a8 b6 d6 d3 b0 c7 b8 c0 c5 c6 d2 a3 d0 a6 a7 b3 b7 a4 d7 c4 b9 b2 c8 d5 b4 d4 b1 d8 a9 c9 d9 a5 e0 b5,m=n->c<6->6*e+c=8*m->X=Tx.val (Tx.lJ d) (6*e) c->Nr q b (bO (Tx.pre d e))->Bl b p q->aj prog Sh (G ((base 36).at ⟨#[.slice (some ⟨gd,od,none⟩) n cd,t1,.string ⟨#[]⟩,.pointer (some ⟨b,0,none⟩),.int .i64 (X:Nat),.int .i64 (c:Nat),t6,t7,.slice (some ⟨gd,od,none⟩) n cd,.int .i64 (n:Nat),.int .i64 (m:Nat),a8,b6,d6,d3,b0,c7,b8,c0,c5,c6,d2,a3,d0,a6,a7,b3,b7,a4,d7,c4,b9,b2,c8,d5,b4,d4,b1,d8,a9,c9,d9,a5,e0,b5],[]⟩ ks) cs) q Post):
  ∀(r m e c X:Nat) (q:World) (t1 t6 t7 a8 b6 d6 d3 b0 c7 b8 c0 c5 c6 d2 a3 d0 a6 a7 b3 b7 a4 d7 c4 b9 b2 c8 d5 b4 d4 b1 d8 a9 c9 d9 a5 e0 b5:Value),m+r=n->c<6->6*e+c=8*m->X=Tx.val (Tx.lJ d) (6*e) c->Nr q b (bO (Tx.pre d e))->Bl b p q->
   aj prog Sh (G ((base 36).at ⟨#[.slice (some ⟨gd,od,none⟩) n cd,t1,.string ⟨#[]⟩,.pointer (some ⟨b,0,none⟩),.int .i64 (X:Nat),.int .i64 (c:Nat),t6,t7,.slice (some ⟨gd,od,none⟩) n cd,.int .i64 (n:Nat),.int .i64 (m:Nat),a8,b6,d6,d3,b0,c7,b8,c0,c5,c6,d2,a3,d0,a6,a7,b3,b7,a4,d7,c4,b9,b2,c8,d5,b4,d4,b1,d8,a9,c9,d9,a5,e0,b5],[]⟩ (.code cc:: .inLoop cc:: .inBlock 0::ks)) cs) q Post:=by
 have HE:=hide bc;have HA:=hide ha
 clear bc ha;intro r;induction r with
 |zero=>
  intro m e c X q t1 t6 t7 a8 b6 d6 d3 b0 c7 b8 c0 c5 c6 d2 a3 d0 a6 a7 b3 b7 a4 d7 c4 b9 b2 c8 d5 b4 d4 b1 d8 a9 c9 d9 a5 e0 b5 pA Sx Y3 hX cN cX;refine aj.YI hc.out ?_;conv=>arg 3;simp only[f36,Option.getD_some,eO]
  have c1:¬(m:Int)<(n:Int):=by omega
  have Bh:=hide cN;have Np:=hide cX;have HX:=hide hX
  clear cN cX hX;refine aj.seq ?_;refine aj.bB fun kk ae=>?_;replace ae:=hide ae;refine aj.bW ak fun τ d=>?_;go_wp2
  first|(refine Or.inl ⟨rfl,?_⟩;dsimp only;refine aj.re ?_ _ _)|refine aj.re ?_ _ _
  rw[ae.out];clear ae kk τ d;refine aj.seq (aj.no rfl ?_);refine aj.exit rfl ?_;exact HE.out e c X q m _ _ _ _ _ _ _ _ _ _ _ _ _ _ _ _ _ _ _ _ _ _ _ _ _ _ _ _ _ _ _ _ _ _ _ _ _ (by omega) Sx Y3 HX.out Bh.out Np.out
 |succ r ih=>
  intro m e c X q t1 t6 t7 a8 b6 d6 d3 b0 c7 b8 c0 c5 c6 d2 a3 d0 a6 a7 b3 b7 a4 d7 c4 b9 b2 c8 d5 b4 d4 b1 d8 a9 c9 d9 a5 e0 b5 pA Sx Y3 hX cN cX;have Eg:m<n:=by omega
  have Bh:=hide cN;have Np:=hide cX
  obtain⟨M3,la⟩:=cF.out m Eg;have gh:q.cell? ⟨gd,od+m,none⟩=some (.int .u8 ((d[m]?.getD 0:Nat):Int)):=cX.cell M3 la;clear cN cX la;have m0:(0:Int)<=(m:Int):=by omega
  have m1:(m:Int)<(n:Int):=by omega
  have hD:d[m]?.getD 0<256:=getD_lt AT.out (by rw[hd.out];exact Eg);have P3:=Tx.Gw d m hD;obtain⟨D,hDD⟩:∃D,D=d[m]?.getD 0:=⟨_,rfl⟩;rw[<-hDD]at gh hD P3;have Te:X<64:=by rw[hX];exact Nat.lt_of_lt_of_le (Tx.kQ (Tx.kJ d) _ c) (Nat.pow_le_pow_right (by decide) (by omega:c<=6))
  have hY:X*256+D=Tx.val (Tx.lJ d) (6*e) (c+8):=by
   rw[Tx.val_add,<-hX,Y3,P3]
  have Ds:bits .or .i64 ((X:Int)*256) (D:Int)=((X*256+D:Nat):Int):=by
   have h1:=MJ (X*256) D (by omega) (by omega);rw[LX X (k:=8) hD]at h1;rw[show((X*256:Nat):Int)=(X:Int)*256 by omega]at h1;exact h1
  obtain⟨Y,hYY⟩:∃Y,Y=X*256+D:=⟨_,rfl⟩;rw[<-hYY]at hY Ds;have hYl:Y<16640:=by omega
  have HY:=hide hY;clear hYY hDD P3 hY hX;refine aj.YI hc.out ?_;conv=>arg 3;simp only[f36,Option.getD_some,eO]
  refine aj.seq ?_;refine aj.bB fun kk ae=>?_;replace ae:=hide ae;refine aj.bW ak fun τ d=>?_;go_wp2
  first|(refine Or.inl ⟨rfl,?_⟩;dsimp only;refine aj.re ?_ _ _)|refine aj.re ?_ _ _
  rw[ae.out];clear ae kk τ d;refine aj.seq (aj.yes (by first|rfl|(simp[Act.eval];done)|(simp[Act.eval];omega)) (aj.skip ?_));refine aj.seq (aj.block (aj.seq ?_));refine aj.bB fun kk ae=>?_;replace ae:=hide ae;refine aj.bW ak fun τ d=>?_;have a0:(q.re τ d).cell? ⟨gd,od+m,none⟩=some (.int .u8 (D:Int)):=gh;go_wp2
  first|(refine Or.inl ⟨rfl,?_⟩;dsimp only;refine aj.re ?_ _ _)|refine aj.re ?_ _ _
  rw[ae.out];clear ae kk a0 τ d;refine aj.seq ?_;refine aj.bB fun kk ae=>?_;replace ae:=hide ae;refine aj.bW ak fun τ d=>?_;go_wp2
  first|(refine Or.inl ⟨rfl,?_⟩;dsimp only;refine aj.re ?_ _ _)|refine aj.re ?_ _ _
  rw[ae.out];clear ae kk τ d;refine aj.block (aj.loop ?_);rw[show((c:Int)+8)=((c+8:Nat):Int) by omega];refine R6 (m:=m) (d:=d) hn Eg du HA.out (hide rfl) ?_ 2 e (c+8) Y q _ _ _ _ _ _ _ _ _ _ _ _ _ _ _ _ _ _ _ _ _ _ _ _ _ _ _ _ _ _ _ _ _ _ _ _ _ (by omega) (by omega) (by omega) HY.out Bh.out Np.out;intro e2 c2 X2 q2 t1 t6 t7 a8 b6 d6 d3 b0 c7 b8 c0 c5 c6 d2 a3 d0 a6 a7 b3 b7 a4 d7 c4 b9 b2 c8 d5 b4 d4 b1 d8 a9 c9 d9 a5 e0 b5 hc26 hec2 hX2 KB Ks;have HBL2:=hide KB;have HBW2:=hide Ks;have Pb:=hide hX2
  clear KB Ks hX2;refine aj.inBlock ?_;have m2:(m:Int)<9223372036854775807:=by omega
  refine aj.bB fun kk ae=>?_;replace ae:=hide ae;refine aj.bW ak fun τ d=>?_;go_wp2
  first|(refine Or.inl ⟨rfl,?_⟩;dsimp only;refine aj.re ?_ _ _)|refine aj.re ?_ _ _
  rw[ae.out];clear ae kk τ d;refine aj.inLoop ?_;refine ih (m+1) e2 c2 X2 q2 _ _ _ _ _ _ _ _ _ _ _ _ _ _ _ _ _ _ _ _ _ _ _ _ _ _ _ _ _ _ _ _ _ _ _ _ _ (by omega) hc26 hec2 Pb.out HBL2.out HBW2.out
theorem OM{ci:Nat}{cs:List Frame}(ho:bA[ci]? =some o)(hd:Hid (d.length=n))(hn:n<=100000000)(AT:Hid (∀x∈d,x<256))(ha:Alpha p)(cF:Hid (∀j,j<n->p.cell? ⟨gd,od+j,none⟩=some (.int .u8 ((d[j]?.getD 0:Nat):Int))))
  (bc:∀p',dO p p'->aj prog Sh (G ((base cfn).at (ca.put o.dst (.string (strOf (Tx.dh d)))) (.inRegion bA aT::ck)) cs) p' Post):
  aj prog Sh (G ((base 36).at ⟨#[.slice (some ⟨gd,od,none⟩) n cd,undef,undef,undef,undef,undef,undef,undef,undef,undef,undef,undef,undef,undef,undef,undef,undef,undef,undef,undef,undef,undef,undef,undef,undef,undef,undef,undef,undef,undef,undef,undef,undef,undef,undef,undef,undef,undef,undef,undef,undef,undef,undef,undef,undef],[]⟩ [.code (f36.body.getD .skip)]) ((base cfn).at ca (.inRegion bA (ci::aT)::ck)::cs)) p Post:=by
 have HE:=hide bc;have HA:=hide ha;have HS:=hide ha.size
 clear bc ha;conv=>arg 3;simp only[f36,Option.getD_some]
 refine aj.seq (aj.bW ak fun τ d=>?_);go_wp2;refine aj.re ?_ _ _;clear τ d;refine aj.seq (aj.bW ak fun τ d=>?_);go_wp2;rw[show(p.re τ d).heap.size=p.heap.size from rfl];refine aj.re (p:=p.alloc (.cells #[.pointer none,.slice none 0 0] 122)) ?_ τ d;clear τ d;have oY:=Yy p;have Bs:Bl p.heap.size p (p.alloc (.cells #[.pointer none,.slice none 0 0] 122)):=Bl.below ((Below.refl p.heap.size p).alloc (Nat.le_refl _) _);generalize p.alloc (.cells #[.pointer none,.slice none 0 0] 122)=p1 at oY Bs⊢;have cy:=hide oY;have HW0:=hide Bs
 clear oY Bs;refine aj.seq ?_;refine aj.bB fun kk ae=>?_;replace ae:=hide ae;refine aj.bW ak fun τ d=>?_;go_wp2
 first|(refine Or.inl ⟨rfl,?_⟩;dsimp only;refine aj.re ?_ _ _)|refine aj.re ?_ _ _
 rw[ae.out];clear ae kk τ d;refine aj.seq (aj.seq ?_);refine aj.bB fun kk ae=>?_;replace ae:=hide ae;refine aj.bW ak fun τ d=>?_;go_wp2
 first|(refine Or.inl ⟨rfl,?_⟩;dsimp only;refine aj.re ?_ _ _)|refine aj.re ?_ _ _
 rw[ae.out];clear ae kk τ d;refine aj.block (aj.loop ?_);refine OL (p:=p) (b:=p.heap.size) (d:=d) hn hd AT HS.out HA.out (hide fun j hj=>?_) (hide (by kernel_rfl)) ?_ n 0 0 0 0 p1 _ _ _ _ _ _ _ _ _ _ _ _ _ _ _ _ _ _ _ _ _ _ _ _ _ _ _ _ _ _ _ _ _ _ _ _ _ (by omega) (by omega) (by omega) rfl cy.out HW0.out
 .exact⟨bR (cF.out j hj),cF.out j hj⟩
 intro e c X q m t1 t6 t7 a8 b6 d6 d3 b0 c7 b8 c0 c5 c6 d2 a3 d0 a6 a7 b3 b7 a4 d7 c4 b9 b2 c8 d5 b4 d4 b1 d8 a9 c9 d9 a5 e0 b5 Eg Sx Y3 hX cN cX;subst m;have Bh:=hide cN;have Np:=hide cX
 clear cN cX cy HW0;have fin:∀(w:World) (X c:Nat) t1 t6 t7 a8 b6 d6 d3 b0 c7 b8 c0 c5 c6 d2 a3 d0 a6 a7 b3 b7 a4 d7 c4 b9 b2 c8 d5 b4 d4 b1 d8 a9 c9 d9 a5 e0 b5,Nr w p.heap.size (bO (Tx.dh d))->Bl p.heap.size p w->aj prog Sh (G ((base 36).at ⟨#[.slice (some ⟨gd,od,none⟩) n cd,t1,.string ⟨#[]⟩,.pointer (some ⟨p.heap.size,0,none⟩),.int .i64 (X:Nat),.int .i64 (c:Nat),t6,t7,.slice (some ⟨gd,od,none⟩) n cd,.int .i64 (n:Nat),.int .i64 (n:Nat),a8,b6,d6,d3,b0,c7,b8,c0,c5,c6,d2,a3,d0,a6,a7,b3,b7,a4,d7,c4,b9,b2,c8,d5,b4,d4,b1,d8,a9,c9,d9,a5,e0,b5],[]⟩ [.code (eO [1,1,1,1,1] (f36.body.getD .skip))]) ((base cfn).at ca (.inRegion bA (ci::aT)::ck)::cs)) w Post:=by
  intro w X c t1 t6 t7 a8 b6 d6 d3 b0 c7 b8 c0 c5 c6 d2 a3 d0 a6 a7 b3 b7 a4 d7 c4 b9 b2 c8 d5 b4 d4 b1 d8 a9 c9 d9 a5 e0 b5 cN cX;have Bh:=hide cN;have Np:=hide cX
  clear cN cX;have hbT:∀x∈Tx.dh d,x<256:=Tx.zx d _;conv=>arg 3;simp only[f36,Option.getD_some,eO]
  refine aj.bW ak fun τ d'=>?_;have KV:Nr (w.re τ d') p.heap.size (bO (Tx.dh d)):=Bh.out;have BS:=hide (FP p.heap.size (Tx.dh d) hbT (w.re τ d') KV);clear KV;go_wp2_with (go_at_call 72;refine BS.out.mono ?_;rintro _ w2 ⟨rfl,cq⟩;replace cq:=hide cq)
  intro todo;refine aj.back (v:=.string (strOf (Tx.dh d))) ho func36 (by simp[results,f36,go_sem]) (by simp[results,f36]) ?_;have h2:=Np.out.trans (Bl.of_below cq.out);exact HE.out _ ⟨h2.size,h2.block,h2.os,h2.output⟩
 have HF:=hide fin;clear fin;refine aj.seq (aj.seq ?_);by_cases h0:0<c
 .have c1:(0:Int)<(c:Int):=by omega
  obtain⟨s,hq⟩:∃s,c+s=6:=⟨6-c,by omega⟩;have hv:X*2^s=Tx.val (Tx.lJ d) (6*e) 6:=by
   have h:=Tx.val_add (Tx.lJ d) (6*e) c s;rw[hq,<-hX,Tx.val_zero (a:=6*e+c) (fun i _=>Tx.xI (by rw[hd.out];omega)),Nat.add_zero]at h;exact h.symm
  have xe:Tx.val (Tx.lJ d) (6*e) 6<64:=Tx.kQ (Tx.kJ d) _ 6;obtain⟨V,hV⟩:∃V,V=Tx.val (Tx.lJ d) (6*e) 6:=⟨_,rfl⟩;rw[<-hV]at hv xe;have p_:(0:Int)<=(s:Int):=by omega
  have mc:(6:Int)-(c:Int)=(s:Int):=by omega
  have vl:IntKind.i64.wrap (s:Int)=(s:Int):=aH _ (by omega) (by omega);have hwv:IntKind.i64.wrap (V:Int)=(V:Int):=aH _ (by omega) (by omega);have hmul:(X:Int)*2^s=(V:Int):=by rw[<-hv];simp
  have v0:(0:Int)<=(V:Int):=by omega
  have v1:(V:Int)<64:=by omega
  have S7:=(HA.out.bl Np.out HS.out) V xe;have eI:=Tx.lu d e;have hT:Tx.pre d e++Tx.dM V=Tx.dh d:=by
   unfold Tx.dh;rw[hd.out,show(8*n+5)/6=e+1 by omega,Tx.zw,<-hV]
  have HT:=hide hT;clear hV hv hT hX;refine aj.bB fun kk ae=>?_;replace ae:=hide ae;refine aj.bW ak fun τ d=>?_;go_wp2
  first|(refine Or.inl ⟨rfl,?_⟩;dsimp only;refine aj.re ?_ _ _)|refine aj.re ?_ _ _
  rw[ae.out];clear ae kk τ d;refine aj.yes (by first|rfl|(simp[Act.eval];done)|(simp[Act.eval];omega)) ?_;refine aj.bB fun kk ae=>?_;replace ae:=hide ae;refine aj.reg (todo:= [0,1,2,3,4,5,6]) rfl ?_;refine aj.pv ak fun τ d K hK=>?_;go_simp;refine hK _ ?_;clear hK;try walk_nrm
  iterate 4 (refine aj.pv ak fun τ d K hK=>?_;go_simp;refine hK _ ?_;clear hK;try walk_nrm)
  refine aj.ow ak fun τ d K hK=>?_;have a0:(q.re τ d).cell? ⟨0,V,none⟩=some (.int .i32 (Tx.rn V:Nat)):=S7;go_simp;refine hK _ _ ?_;clear hK a0;refine aj.re ?_ _ _;try walk_nrm
  refine aj.fB rfl rfl (by decide) rfl func70 rfl rfl (T':=#[.pointer (some ⟨p.heap.size,0,none⟩),.int .i32 (Tx.rn V:Nat),undef,undef,undef,undef,undef,undef,undef,undef,undef,undef,undef,undef,undef,undef,undef,undef,undef,undef,undef,undef,undef,undef,undef,undef,undef,undef,undef,undef]) (by simp[Act.eval,f70]) ?_;refine yH (o:=?o) ?ho xe (hide (aP _)) (by omega) Bh.out (fun mm w1 QO U9=>?bc)
  case ho=>rfl
  case bc=>
  rw[<-yL,HT.out]at QO;have zE:=hide QO;have zt:=hide U9
  clear QO U9;try walk_nrm
  refine aj.aJ ?_;rw[ae.out];clear ae kk;exact HF.out w1 X c _ _ _ _ _ _ _ _ _ _ _ _ _ _ _ _ _ _ _ _ _ _ _ _ _ _ _ _ _ _ _ _ _ _ _ _ _ zE.out (Np.out.trans zt.out)
 .have c1:¬(0:Int)<(c:Int):=by omega
  have hT:Tx.pre d e=Tx.dh d:=by
   unfold Tx.dh;rw[hd.out,show(8*n+5)/6=e by omega]
  rw[hT]at Bh;clear hT hX;refine aj.bB fun kk ae=>?_;replace ae:=hide ae;refine aj.bW ak fun τ d=>?_;go_wp2
  first|(refine Or.inl ⟨rfl,?_⟩;dsimp only;refine aj.re ?_ _ _)|refine aj.re ?_ _ _
  rw[ae.out];clear ae kk τ d;refine aj.no rfl (aj.skip ?_);exact HF.out q X c _ _ _ _ _ _ _ _ _ _ _ _ _ _ _ _ _ _ _ _ _ _ _ _ _ _ _ _ _ _ _ _ _ _ _ _ _ Bh.out Np.out
end Go.Proofs.YtmfpiodlecapiaaGreatDoor
namespace Go.Conc
variable {P:Program} {main:Bool} {b:Frame} {a:Act} {k:List Item} {cs:List Frame} {w:World}
theorem EI{ops:Array Oper}{i:Nat}{rest:List Nat}{o:Oper}{f:FuncId}{x y:Operand}(ho:ops[i]? =some o)(hw:Region.wanted o (yielded ops a.tmps)=true)(hk:b.kind≠.early)(a_:o.op= .makeFunc (.func f) #[] #[x,y]):
  stepG P main (G (b.at a (.inRegion ops (i::rest)::k)) cs) w= .go (G (b.at (a.put o.dst (.func (.func f) #[] #[a.eval x,a.eval y])) (.inRegion ops rest::k)) cs) w #[]:=by
 have hr:(execOp a.eval o).run P w= .ok (.value (.func (.func f) #[] #[a.eval x,a.eval y])) w:=by
  unfold execOp;simp[a_,Instr.makeFunc]
 have he:(execOp a.eval o).events P w #[]=#[]:=by
  unfold execOp;simp[a_,Instr.makeFunc]
 have cY:(b.at a (.inRegion ops (i::rest)::k)).finish (.func (.func f) #[] #[a.eval x,a.eval y])=b.at (a.put o.dst (.func (.func f) #[] #[a.eval x,a.eval y])) (.inRegion ops rest::k):=by rw[Frame.finish_at,ho];rfl
 have dq:(b.kind==CallKind.early)=false:=by simpa using hk
 rw[stepG_oper ho hw,<-cY];simp[stepG.apply,hr,he,G,Frame.at,dq,GStep.after,seen_none]
end Go.Conc
namespace Go.Proofs.YtmfpiodlecapiaaGreatDoor
open Go.Proofs.Tryz
open Go.Conc Go.ConcN Go.RowKit Go.bn Go.Ren Go.fE Go.Deep
attribute [local go_sem↓] Go.wp_at_zero Go.wp_at_succ
theorem EO{w:World}{T:Array Value}{g g':Nat}{s:ByteArray}{e:Int}(h2:T.getD 2 undef= .pointer (some ⟨g,0,none⟩))(h3:T.getD 3 undef= .pointer (some ⟨g',0,none⟩))(hc:w.cell? ⟨g,0,none⟩=some (.string s))(lA:w.cell? ⟨g',0,none⟩=some (.int .i64 e)):(results f18 T).run prog w= .ok (.tuple #[.string s,.int .i64 e]) w:=by
 have hr:f18.results=#[.cell 2 9,.cell 3 39]:=rfl;have VC:T[2]?.getD undef= .pointer (some ⟨g,0,none⟩):=by simpa using h2
 have h3':T[3]?.getD undef= .pointer (some ⟨g',0,none⟩):=by simpa using h3
 simp only[results,hr];simp[Sem.run_bind,Result.andThen,VC,h3',asAddr];go_simp
theorem Hf{Sh:Nat->Prop}{Post:(Nat->Prop)->Goroutine->World->Prop}{p:World}{cfn:FuncId}{ca:Act}{bA:Array Oper}{ci:Nat}{aT:List Nat}{ck:List Item}{cs:List Frame}{o:Oper}(ho:bA[ci]? =some o){gd n cd:Nat}{dl:List Nat}{So:Value}(hd:dl.length=n)(hn:n<=100000000)(AT:∀x∈dl,x<256)(ha:Alpha p)(cF:∀j,j<n->p.cell? ⟨gd,0+j,none⟩=some (.int .u8 ((dl[j]?.getD 0:Nat):Int)))
  (tE:∀w1,(∀k,k<p.heap.size->w1.heap[k]? =p.heap[k]?)->Calls prog 35 #[.slice (some ⟨gd,0,none⟩) n cd] w1 fun r w'=>r= .returned (.tuple #[So,.slice (some ⟨gd,0+10,none⟩) (n-10) (cd-10)])/\Below w1.heap.size w1 w')
  (bc:∀p',dO p p'->aj prog Sh (G ((base cfn).at (ca.put o.dst (.tuple #[.string (strOf (Tx.dh dl)),.int .i64 0])) (.inRegion bA aT::ck)) cs) p' Post):
  aj prog Sh (G ((base 18).at ⟨#[.slice (some ⟨gd,0,none⟩) n cd,undef,undef,undef,undef,undef,undef,undef,undef],[]⟩ [.code (f18.body.getD .skip)]) ((base cfn).at ca (.inRegion bA (ci::aT)::ck)::cs)) p Post:=by
 have HU:=hide tE;have HE:=hide bc;have HA:=hide ha;have HC:=hide cF;have HD:=hide hd;have HDB:=hide AT
 clear tE bc ha cF hd AT;conv=>arg 3;simp only[f18,Option.getD_some]
 refine aj.seq (aj.bW ak fun τ d=>?_);go_wp2;refine aj.world (fun q=>dO p q/\q.heap.size=p.heap.size+2/\aB q p.heap.size 9 [.string ⟨#[]⟩]/\aB q (p.heap.size+1) 39 [.int .i64 0]) ⟨((dO.refl p).re τ d |>.alloc _ |>.alloc _),?s1,?s2,?s3⟩ fun p1 iu=>?_
 case s1=>simp;rfl
 case s2=>exact(aK (p.re τ d) _ _).alloc _
 case s3=>
  have h:=aK ((p.re τ d).alloc (.cells #[.string ⟨#[]⟩] 9)) #[.int .i64 0] 39;rw[show((p.re τ d).alloc (.cells #[.string ⟨#[]⟩] 9)).heap.size=p.heap.size+1 by simp;rfl]at h;exact h
 rw[show(p.re τ d).heap.size=p.heap.size from rfl];try rw[show((p.re τ d).alloc (.cells #[.string ⟨#[]⟩] 9)).heap.size=p.heap.size+1 by simp;rfl]
 clear τ d;refine aj.seq (aj.reg (todo:= [0,1]) rfl ?_);refine aj.ctl rfl (fun _=>EI rfl rfl (by decide) rfl) ?_;try walk_nrm
 refine aj.ctl rfl (fun _=>EJ (f:=33) (caps:=#[.pointer (some ⟨p.heap.size,0,none⟩),.pointer (some ⟨p.heap.size+1,0,none⟩)]) rfl rfl (by decide) rfl rfl) ?_;try walk_nrm
 refine aj.aJ ?_;try simp only[Act.eval]
 obtain⟨c_,dC,dE,ib⟩:=iu;have WO:=hide c_;have Cl:=hide dE;have iS:=hide ib
 clear c_ dE ib;refine aj.seq (aj.bW ak fun τ d=>?_);have UW:=hide (HU.out (p1.re τ d) WO.out.row);go_wp2_with (go_at_call 35;refine UW.out.mono ?_;rintro _ p2 ⟨rfl,cq⟩;replace cq:=hide cq)
 have eQ:dO p1 p2:=dO.below cq.out;have ld:=hide eQ;clear eQ UW cq τ d;refine aj.seq ?_;refine aj.bB fun kk ae=>?_;replace ae:=hide ae;refine aj.reg (todo:= [0,1,2,3]) rfl ?_;refine aj.pv ak fun τ d K hK=>?_;go_simp;refine hK _ ?_;clear hK;try walk_nrm
 refine aj.fB rfl rfl (by decide) rfl func36 rfl rfl (T':=#[.slice (some ⟨gd,0,none⟩) n cd,undef,undef,undef,undef,undef,undef,undef,undef,undef,undef,undef,undef,undef,undef,undef,undef,undef,undef,undef,undef,undef,undef,undef,undef,undef,undef,undef,undef,undef,undef,undef,undef,undef,undef,undef,undef,undef,undef,undef,undef,undef,undef,undef,undef]) (by simp[Act.eval,f36]) ?_;refine OM (o:=?o) ?sb HD hn HDB (HA.out.bl (B:=p.heap.size) ⟨(WO.out.trans ld.out).size,(WO.out.trans ld.out).row,(WO.out.trans ld.out).os,(WO.out.trans ld.out).output⟩ HA.out.size) (hide fun j hj=>(WO.out.trans ld.out).cell (HC.out j hj)) (fun p3 ky=>?bc)
 case sb=>rfl
 case bc=>
 have yq:=ld.out.trans ky;have dE:=Cl.out.of_block (yq.row _ Cl.out.lt);have ib:=iS.out.of_block (yq.row _ iS.out.lt);have hg:=(WO.out.trans ld.out).trans ky;have Ix:=hide hg;clear hg ky yq;generalize strOf (Tx.dh dl)=st at HE⊢;try walk_nrm
 refine aj.ow ak fun τ d K hK=>?_;have a0:(p3.re τ d).cell? ⟨p.heap.size,0,none⟩=some (.string ⟨#[]⟩):=dE.cell 0 _ rfl;have a1:(p3.re τ d).frozen? ⟨p.heap.size,0,none⟩=false:=dE.frozen 0;go_simp;refine hK _ _ ?_;clear hK a0 a1;refine aj.re (p:=p3.setCell ⟨p.heap.size,0,none⟩ (.string st)) ?_ τ d;try walk_nrm
 have I2:=dE.set 0 (.string st);have Yd:=ib.other (a:=⟨p.heap.size,0,none⟩) (show p.heap.size+1≠p.heap.size by omega) (.string st);refine aj.ow ak fun τ d K hK=>?_;have a0:((p3.setCell ⟨p.heap.size,0,none⟩ (.string st)).re τ d).cell? ⟨p.heap.size+1,0,none⟩=some (.int .i64 0):=Yd.cell 0 _ rfl;have a1:((p3.setCell ⟨p.heap.size,0,none⟩ (.string st)).re τ d).frozen? ⟨p.heap.size+1,0,none⟩=false:=Yd.frozen 0;go_simp;refine hK _ _ ?_;clear hK a0 a1;refine aj.re (p:=(p3.setCell ⟨p.heap.size,0,none⟩ (.string st)).setCell ⟨p.heap.size+1,0,none⟩ (.int .i64 0)) ?_ τ d;try walk_nrm
 refine aj.aJ ?_;rw[ae.out];clear ae kk τ d;have c3:=(Yd.set 0 (.int .i64 0)).cell 0 _ rfl;have c2:=(I2.other (a:=⟨p.heap.size+1,0,none⟩) (show p.heap.size≠p.heap.size+1 by omega) (.int .i64 0)).cell 0 _ rfl;have hq:dO p ((p3.setCell ⟨p.heap.size,0,none⟩ (.string st)).setCell ⟨p.heap.size+1,0,none⟩ (.int .i64 0)):=by
  refine⟨by have:=Ix.out.size;simpa[World.setCell]using this,fun k hk=>?_,Ix.out.os,Ix.out.output⟩;rw[<-Ix.out.row k hk];have h1:p.heap.size+1≠k:=by omega
  have h2:p.heap.size≠k:=by omega
  simp[World.setCell,Array.getElem?_modify,h1,h2]
 have HEn:=hide (HE.out _ hq);clear dE ib I2 Yd hq HE Ix;generalize (p3.setCell ⟨p.heap.size,0,none⟩ (.string st)).setCell ⟨p.heap.size+1,0,none⟩ (.int .i64 0)=q at HEn c2 c3⊢;refine aj.ctl rfl (fun _=>stepG_ret') ?_;refine aj.ctl rfl (fun _=>BG rfl func33 rfl rfl) ?_;simp only[f33,List.size_toArray,List.length_cons,List.length_nil,Nat.reduceAdd,Nat.reduceSub,Array.replicate_succ,Array.replicate_zero,List.push_toArray,List.append_toArray,List.nil_append,List.cons_append];refine aj.seq (aj.reg (todo:= [0,1]) rfl ?_);refine aj.ctl rfl (fun _=>yX rfl rfl rfl rfl) ?_;try walk_nrm
 refine aj.op (mH ak (by kernel_rfl)) rfl rfl (by decide) (fun τ d K hK=>?_);go_simp;refine hK _ _ ?_;clear hK;refine aj.re ?_ _ _;try walk_nrm
 refine aj.aJ ?_;refine aj.seq (aj.reg (todo:= [0,1]) rfl ?_);refine aj.op (mH ak (by kernel_rfl)) rfl rfl (by decide) (fun τ d K hK=>?_);go_simp;refine hK _ _ ?_;clear hK;refine aj.re ?_ _ _;try walk_nrm
 refine aj.op (mH ak (by kernel_rfl)) rfl rfl (by decide) (fun τ d K hK=>?_);go_simp;refine hK _ _ ?_;clear hK;refine aj.re ?_ _ _;try walk_nrm
 refine aj.aJ ?_;refine aj.no rfl (aj.skip (aj.finish ?_));refine aj.ctl rfl (fun _=>stepG_leave_deferred rfl rfl func33 (v:=.tuple #[]) (results_none rfl _ _ _) (by simp[results,f33]) rfl) ?_;refine aj.backR ho func18 (fun τ d=>EO (g:=p.heap.size) (g':=p.heap.size+1) (s:=st) (e:=0) rfl rfl (show(q.re τ d).cell? _=_ from c2) (show(q.re τ d).cell? _=_ from c3)) ?_;exact HEn.out
