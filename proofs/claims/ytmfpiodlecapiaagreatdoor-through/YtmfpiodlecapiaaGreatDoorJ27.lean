import Derived.Test.YtmfpiodlecapiaaGreatDoorJ26
set_option linter.unusedSimpArgs false
set_option maxHeartbeats 16000000
set_option maxRecDepth 100000
namespace Go.fE
open Go.Ren Go.bn Go.Conc
variable {P:Program}
theorem GK(it:Value)(t:TypeId):Tm P (Instr.next it false t):=by
 unfold Instr.next;dsimp only;split
 .refine au (dD _) fun o=>?_;split;all_goals first|exact aA|exact ay _|skip
  all_goals first|(rename_i h1;cases h1;done)|(rename_i h1 _;cases h1;done)|skip
  refine au (dD _) fun o=>?_;split;all_goals first|exact aA|skip
  split
  .exact iK (by simp)
  .refine au (bZ _) fun n=>?_;split
   .exact au (gG trivial) fun _=>ay _
   .exact ay _
   .exact aA
 .exact aA
theorem O_(it:Value):Tm P (Instr.entry it):=by
 unfold Instr.entry;split
 .refine au (dD _) fun o=>?_;split;all_goals first|exact aA|skip
  split;all_goals first|exact aA|skip
  refine au (dD _) fun o=>?_;split;all_goals first|exact aA|skip
  dsimp only;repeat' (first|exact aA|exact ay _|exact iK (fun g h=>by cases h)|exact aV (fun g h=>by cases h)|split)
 .exact aA
theorem yP{a:Act}{o:Oper}{s:Sem Value}(h:execOp a.eval o=(s >>= fun v=>pure (.value v)))(hs:Tm P s):Tm P (execOp a.eval o):=by
 rw[h];exact au hs fun _=>ay _
end Go.fE
namespace Go.Proofs.YtmfpiodlecapiaaGreatDoor
open Go.Proofs.Tryz
section
open Go.Conc Go.ConcN Go.RowKit Go.bn Go.Ren Go.fE Go.Deep
attribute [local go_sem↓] Go.wp_at_zero Go.wp_at_succ
variable{Sh F vX:Nat->Prop}{Post:(Nat->Prop)->Goroutine->World->Prop}{mr bx:Nat}{p pe:World}{cfn:FuncId}{ca:Act}{bA:Array Oper}{aT:List Nat}{ck:List Item}{o:Oper}
theorem QG{es:Array MapEntry}{seen:Array Nat}{e:MapEntry}(hn:(es.toList.map (·.born)).Nodup)(he:e∈(Go.leftOf es seen).toList):(Go.leftOf es seen).toList.Perm (e::(Go.leftOf es (seen.push e.born)).toList):=by
 obtain⟨h1,h2⟩:=mem_left he;unfold Go.leftOf at*;rw[Array.toList_filter]at he⊢;rw[Array.toList_filter];clear he;generalize es.toList=l at*;induction l with
 |nil=>simp at h1
 |cons x l ih=>
  simp only[List.map_cons,List.nodup_cons]at hn;by_cases hx:x=e
  .subst hx;have e1:(!seen.contains x.born)=true:=by simpa using h2
   have e2:(!(seen.push x.born).contains x.born)=false:=by simp
   simp only[List.filter_cons,e1,e2,if_true];refine List.Perm.cons _ (List.Perm.of_eq ?_);simp only[Bool.false_eq_true,if_false];refine List.filter_congr fun y hy=>?_;have:¬y.born=x.born:=fun h=>hn.1 (List.mem_map.2 ⟨y,hy,h⟩);simp[this]
  .have Im:e∈l:=by simpa[Ne.symm hx]using h1
   have hb:¬x.born=e.born:=fun h=>hn.1 (List.mem_map.2 ⟨e,Im,h.symm⟩);have ih':=ih hn.2 Im;have e3:(seen.push e.born).contains x.born=seen.contains x.born:=by simp[hb]
   simp only[List.filter_cons,e3];split
   .exact(List.Perm.cons x ih').trans (List.Perm.swap ..)
   .exact ih'
theorem QI{cs:List Frame}{ks:List Item}{L s0 d0 base it clock:Nat}{fv:Value}{es:Array MapEntry}{cc:Code}(hc:Hid (cc=eO [1,0,0] (f133.body.getD .skip)))
  (gv:s0<base)(xd:L<base)(hit:it<base)(pA:mr<base)(hd1:it≠s0)(NB:it≠L)(hd3:mr≠s0)(hd4:mr≠L)(hd5:mr≠it)(mL:es.size<=1000)(Fp:es.toList.map (·.born)=List.range clock)(fe:∀e∈es.toList,∃x:Int,e.key= .int .i64 x):
  ∀(m:Nat) (p:World) (v:Value) (n:Nat) (xs:List Value) (seen:Array Nat) (c0:Nat),(Go.leftOf es seen).size=m->clock<=c0->n+m=es.size->(xs++(Go.leftOf es seen).toList.map (·.key)).Perm (es.toList.map (·.key))->
  p.heap[L]? =some (.loop (kX s0 d0 fv))->aB p s0 33 [v]->p.ownsRow base 3 1 v n xs->base<=p.heap.size->p.heap[mr]? =some (.map es clock)->p.heap[it]? =some (.mapIter (some mr) clock seen c0)->
  (∀p' v' xs' t3 t6 t7 t8 t9 a3 a1 a2 a0,xs'.Perm (es.toList.map (·.key))->p'.heap[L]? =some (.loop (kX s0 d0 fv))->aB p' s0 33 [v']->p'.ownsRow base 3 1 v' es.size xs'->(∀b,b<base->b≠s0->b≠L->b≠it->p'.heap[b]? =p.heap[b]?)->p.heap.size<=p'.heap.size->p'.os=p.os->p'.output=p.output->
   aj prog Sh (G ((Go.Conc.base 133).at ⟨#[.func (.yield L) #[] #[],.pointer (some ⟨bx,0,none⟩),undef,t3,.map (some mr),.pointer (some ⟨it,0,none⟩),t6,t7,t8,t9,a3,a1,a2,a0],[]⟩ ks) cs) p' Post)->
  ∀t3 t6 t7 t8 t9 a3 a1 a2 a0,aj prog Sh (G ((Go.Conc.base 133).at ⟨#[.func (.yield L) #[] #[],.pointer (some ⟨bx,0,none⟩),undef,t3,.map (some mr),.pointer (some ⟨it,0,none⟩),t6,t7,t8,t9,a3,a1,a2,a0],[]⟩ (.code cc:: .inLoop cc:: .inBlock 0::ks)) cs) p Post:=by
 intro m;induction m with
 |zero=>
  intro p v n xs seen c0 hm ey Rg lh hL gJ br hb cA ym bc t3 t6 t7 t8 t9 a3 a1 a2 a0;have HE:=hide bc;clear bc;refine aj.YI hc.out ?_;conv=>arg 3;simp only[f133,Option.getD_some,eO]
  refine aj.seq (aj.reg (todo:= [0,1]) rfl ?_);refine aj.op (yP rfl (GK _ _)) rfl rfl (by decide) (fun τ d K hK=>?_);have hold:∀x∈es.toList,x.born<clock:=fun x hx=>by
   have:x.born∈es.toList.map (·.born):=List.mem_map.2 ⟨x,hx,rfl⟩;rw[Fp]at this;exact List.mem_range.1 this
  rcases run_next_at (P:=prog) (p.re τ d) 0 it mr clock c0 seen es clock ym cA hold ey with⟨_,hr⟩|⟨e,he,_⟩
  .go_simp;refine hK _ _ (aj.re ?_ _ _);clear hK hr τ d;refine aj.ow ak fun τ d K hK=>?_;go_simp;refine hK _ _ (aj.re ?_ _ _);clear hK τ d;refine aj.aJ (aj.seq (aj.no rfl (aj.exit rfl ?_)));have hl:(Go.leftOf es seen).toList= []:=by
    have:(Go.leftOf es seen)=#[]:=Array.eq_empty_of_size_eq_zero hm;rw[this]
   rw[hl,List.map_nil,List.append_nil]at lh;obtain rfl:n=es.size:=by omega
   exact HE.out p v xs _ _ _ _ _ _ _ _ _ lh hL gJ br (fun b _ _ _ _=>rfl) (Nat.le_refl _) rfl rfl
  .exfalso;have:0<(Go.leftOf es seen).toList.length:=List.length_pos_of_mem he;rw[Array.length_toList,hm]at this;omega
 |succ m ih=>
  intro p v n xs seen c0 hm ey Rg lh hL gJ br hb cA ym bc t3 t6 t7 t8 t9 a3 a1 a2 a0;have HE:=hide bc;have HP:=hide lh;have Wl:=hide ih;clear bc lh ih;have vx:(es.toList.map (·.born)).Nodup:=by rw[Fp];exact List.nodup_range
  have hold:∀x∈es.toList,x.born<clock:=fun x hx=>by
   have:x.born∈es.toList.map (·.born):=List.mem_map.2 ⟨x,hx,rfl⟩;rw[Fp]at this;exact List.mem_range.1 this
  refine aj.YI hc.out ?_;conv=>arg 3;simp only[f133,Option.getD_some,eO]
  refine aj.seq ?_;refine aj.bB fun kk ae=>?_;replace ae:=hide ae;refine aj.reg (todo:= [0,1]) rfl ?_;refine aj.op (yP rfl (GK _ _)) rfl rfl (by decide) (fun τ d K hK=>?_);rcases run_next_at (P:=prog) (p.re τ d) 0 it mr clock c0 seen es clock ym cA hold ey with⟨h0,_⟩|⟨e,he,w1,dm,hr⟩
  .rw[hm]at h0;cases h0
  have ss:∀a',aj prog Sh (G ((Go.Conc.base 133).at a' (.inRegion _ [1]::kk)) cs) (setRow p it (.mapIter (some mr) clock (seen.push e.born) clock)) Post->K a' (Go.ChangeMaps.setBlock w1 it (.mapIter (some mr) clock (seen.push e.born) clock)):=fun a' h=>by
   refine hK a' _ ?_;rcases dm with rfl|rfl
   .exact h.re τ d
   .exact h.re τ (d+1)
  clear hK;go_simp;refine ss _ ?_;clear ss hr dm w1 τ d;have tI:∀b,b≠it->(setRow p it (.mapIter (some mr) clock (seen.push e.born) clock)).heap[b]? =p.heap[b]? :=fun b h=>by
   simp[setRow,Array.getElem?_setIfInBounds,Ne.symm h]
  have T3:(setRow p it (.mapIter (some mr) clock (seen.push e.born) clock)).heap[it]? =some (.mapIter (some mr) clock (seen.push e.born) clock):=by
   have:it<p.heap.size:=by omega
   simp[setRow,Array.getElem?_setIfInBounds,this]
  have cC:(setRow p it (.mapIter (some mr) clock (seen.push e.born) clock)).heap.size=p.heap.size:=by simp[setRow]
  have sY:(setRow p it (.mapIter (some mr) clock (seen.push e.born) clock)).os=p.os:=rfl;have kj:(setRow p it (.mapIter (some mr) clock (seen.push e.born) clock)).output=p.output:=rfl;generalize setRow p it (.mapIter (some mr) clock (seen.push e.born) clock)=p1 at tI T3 cC sY kj⊢;obtain⟨Nx,he2⟩:=mem_left he;obtain⟨x,hx⟩:=fe e Nx;have Mr:=QG vx he;have Oo:p1.heap[mr]? =some (.map es clock):=by rw[tI mr hd5];exact cA
  have mb:p1.heap[L]? =some (.loop (kX s0 d0 fv)):=by rw[tI L (Ne.symm NB)];exact hL
  have z_:=gJ.of_block (tI s0 (Ne.symm hd1));have ft:p1.ownsRow base 3 1 v n xs:=by
   refine⟨br.1,br.2.imp id ?_⟩;rintro⟨g,cap,cur,h1,h2,h3,h4⟩;exact⟨g,cap,cur,h1,h2,by rw[tI g (by omega)];exact h3,h4⟩
  replace tI:=hide tI;replace Mr:=hide Mr;replace ft:=hide ft;replace z_:=hide z_;replace mb:=hide mb;replace vx:=hide vx;replace hold:=hide hold;replace he:=hide he;replace Fp:=hide Fp;replace fe:=hide fe;replace hL:=hide hL;replace gJ:=hide gJ;replace br:=hide br;refine aj.ow ak fun τ d K hK=>?_;go_simp;refine hK _ _ (aj.re ?_ _ _);clear hK τ d;refine aj.aJ ?_;rw[ae.out];clear ae kk;refine aj.seq (aj.yes rfl (aj.skip (aj.block (aj.seq ?_))));refine aj.bB fun kk ae=>?_;replace ae:=hide ae;refine aj.reg (todo:= [0,1,2]) rfl ?_;refine aj.op (yP rfl (O_ _)) rfl rfl (by decide) (fun τ d K hK=>?_);have hent:=run_entry_at (P:=prog) (p1.re τ d) it mr clock seen es clock e T3 Oo Nx vx.out;go_simp;refine hK _ _ (aj.re ?_ _ _);clear hK hent τ d;refine aj.ow ak fun τ d K hK=>?_;go_simp;refine hK _ _ (aj.re ?_ _ _);clear hK τ d;refine aj.ow ak fun τ d K hK=>?_;go_simp;refine hK _ _ (aj.re ?_ _ _);clear hK τ d;refine aj.aJ ?_;rw[ae.out];clear ae kk;refine aj.seq ?_;refine aj.bB fun kk ae=>?_;replace ae:=hide ae;refine aj.reg (todo:= [0,1,2,3]) rfl ?_;refine aj.ow ak fun τ d K hK=>?_;go_simp;refine hK _ _ (aj.re ?_ _ _);clear hK τ d;refine aj.ow ak fun τ d K hK=>?_;go_simp;refine hK _ _ (aj.re ?_ _ _);clear hK τ d;refine aj.Zp (x:=.tmp 10) (y:=.tmp 11) (t:=7) rfl rfl rfl rfl mb.out rfl ?_;refine PV (o:=?o1) (base:=base) (n:=n) (v:=v) (xs:=xs) (x:=x) ?gx mb.out z_.out ft.out (by omega) gv xd (by omega) (fun p2 v2 ki Va jb qd hsz2 Yf na=>?_)
  case gx=>rfl
  replace ki:=hide ki;replace Va:=hide Va;replace jb:=hide jb;replace qd:=hide qd;simp only[Act.put,List.setIfInBounds_toArray,List.set_cons_zero,List.set_cons_succ];refine aj.ow ak fun τ d K hK=>?_;go_simp;refine hK _ _ (aj.re ?_ _ _);clear hK τ d;refine aj.aJ ?_;rw[ae.out];clear ae kk;refine aj.no rfl (aj.skip (aj.inBlock (aj.inLoop ?_)));have hsm:(Go.leftOf es (seen.push e.born)).size=m:=by
   have h1:=Mr.out.length_eq;simp only[Array.length_toList,List.length_cons]at h1;omega
  refine Wl.out p2 v2 (n+1) (xs++ [.int .i64 x]) (seen.push e.born) clock hsm (Nat.le_refl _) (by omega) ?_ ki.out Va.out jb.out (by omega) (by rw[qd.out mr pA hd3 hd4];exact Oo) (by rw[qd.out it hit hd1 NB];exact T3) (fun p' v' xs' t3 t6 t7 t8 t9 a3 a1 a2 a0 h1 h2 h3 h4 h5 h6 h7 h8=>?_) _ _ _ _ _ _ _ _ _
  .have h1:=(Mr.out.map (·.key)).symm;have h2:=(List.Perm.append_left xs h1).trans HP.out;rw[List.map_cons,hx]at h2;rw[List.append_assoc];exact h2
  .exact HE.out p' v' xs' t3 t6 t7 t8 t9 a3 a1 a2 a0 h1 h2 h3 h4 (fun b k1 k2 k3 k4=>by rw[h5 b k1 k2 k3 k4,qd.out b k1 k2 k3,tI.out b k4]) (by omega) (h7.trans (Yf.trans sY)) (h8.trans (na.trans kj))
def jf(bx:Nat):Value:=.func (.func 133) #[] #[.pointer (some ⟨bx,0,none⟩)]
theorem CG{ci:Nat}{cs:List Frame}(ho:bA[ci]? =some o){clock:Nat}{es:Array MapEntry}
  (oA:p.cell? ⟨bx,0,none⟩=some (.map (some mr)))(cA:p.heap[mr]? =some (.map es clock))(mL:es.size<=1000)(Fp:es.toList.map (·.born)=List.range clock)(fe:∀e∈es.toList,∃x:Int,e.key= .int .i64 x)
  (bc:∀p' v xs,xs.Perm (es.toList.map (·.key))->p'.ownsRow p.heap.size 3 1 v es.size xs->dO p p'->aj prog Sh (G ((base cfn).at (ca.put o.dst v) (.inRegion bA aT::ck)) cs) p' Post):
  aj prog Sh (G ((base 180).at ⟨#[.slice none 0 0,jf bx,undef,undef,undef,undef,undef,undef,undef,undef,undef,undef,undef],[]⟩ [.code (f180.body.getD .skip)]) ((base cfn).at ca (.inRegion bA (ci::aT)::ck)::cs)) p Post:=by
 have HE:=hide bc;clear bc;have pA:mr<p.heap.size:=(Array.getElem?_eq_some_iff.1 cA).1;conv=>arg 3;simp only[f180,Option.getD_some]
 refine aj.seq ?_;refine aj.bB fun kk ae=>?_;replace ae:=hide ae;refine aj.reg (todo:= [0,1]) rfl ?_;refine aj.ow ak fun τ d K hK=>?_;go_simp;refine hK _ _ ?_;clear hK;rw[show(p.re τ d).heap.size=p.heap.size from rfl];refine aj.re (p:=p.alloc (.cells #[.slice none 0 0] 33)) ?_ τ d;clear τ d;have rF:=aK p #[.slice none 0 0] 33;have dC:(p.alloc (.cells #[.slice none 0 0] 33)).heap.size=p.heap.size+1:=by simp
 have c_:dO p (p.alloc (.cells #[.slice none 0 0] 33)):=(dO.refl p).alloc _;generalize p.alloc (.cells #[.slice none 0 0] 33)=p1 at rF dC c_⊢;replace dC:=hide dC;refine aj.ow ak fun τ d K hK=>?_;go_simp;refine hK _ _ (aj.re ?_ _ _);clear hK τ d;refine aj.aJ ?_;rw[ae.out];clear ae kk;refine aj.seq (aj.seq ?_);refine aj.bB fun kk ae=>?_;replace ae:=hide ae;refine aj.reg (todo:= [0]) rfl ?_;refine aj.ow ak fun τ d K hK=>?_;go_simp;refine hK _ _ (aj.re ?_ _ _);clear hK τ d;refine aj.aJ ?_;rw[ae.out];clear ae kk;refine aj.block ?_;refine aj.rangeFunc (f:=133) (caps:=#[.pointer (some ⟨bx,0,none⟩)]) rfl func133 rfl rfl ?_;have hT:(#[Value.func (.yield (p1.heap.size+1)) #[] #[]]++ #[Value.pointer (some ⟨bx,0,none⟩)])++Array.replicate (f133.ntmps-(#[Value.func (.yield (p1.heap.size+1)) #[] #[]]++ #[Value.pointer (some ⟨bx,0,none⟩)]).size) undef=#[.func (.yield (p1.heap.size+1)) #[] #[],.pointer (some ⟨bx,0,none⟩),undef,undef,undef,undef,undef,undef,undef,undef,undef,undef,undef,undef]:=rfl;rw[hT];clear hT;have eM:(p1.alloc (.deferred (some []))).heap.size=p1.heap.size+1:=by simp
 have O3:(p1.alloc (.deferred (some []))).heap[p1.heap.size]? =some (.deferred (some [])):=blk_alloc_new _ _;have eQ:dO p1 (p1.alloc (.deferred (some []))):=(dO.refl p1).alloc _;generalize p1.alloc (.deferred (some []))=p2 at eM O3 eQ⊢;refine aj.world (fun q=>dO p2 q/\q.heap.size=p2.heap.size+1/\q.heap[p2.heap.size]? =some (.loop (kX p.heap.size p1.heap.size (jf bx)))) ⟨(dO.refl p2).alloc _,by simp,blk_alloc_new _ _⟩ fun p3 h3=>?_;obtain⟨ky,ij,tt⟩:=h3;rw[eM]at tt ij;replace eM:=hide eM;replace ij:=hide ij;replace tt:=hide tt;replace O3:=hide O3;replace rF:=hide rF;have yr:dO p p3:=c_.trans (eQ.trans ky);refine aj.seq ?_;refine aj.bB fun kk ae=>?_;replace ae:=hide ae;refine aj.reg (todo:= [0,1]) rfl ?_;refine aj.ow ak fun τ d K hK=>?_;have q1:(p3.re τ d).cell? ⟨bx,0,none⟩=some (.map (some mr)):=yr.cell oA;go_simp;refine hK _ _ (aj.re ?_ _ _);clear hK q1 τ d;have UO:p3.heap[mr]? =some (.map es clock):=by rw[yr.row mr pA];exact cA
 have tmr:Tm prog (Instr.range 80 (.map (some mr))):=by
  unfold Instr.range;refine eB underlying80 ?_;dsimp only;refine au (dD _) fun o=>?_;split
  .exact(au (jw (by trivial)) fun _=>ay _:Tm prog (newObj (.mapIter _ _ #[] _) >>= fun n=>Pure.pure (Value.pointer (some ⟨n,0,none⟩))))
  .exact aA
 refine aj.op (yP rfl tmr) rfl rfl (by decide) (fun τ d K hK=>?_);have q1:=run_range_map (P:=prog) (p3.re τ d) 80 _ _ mr es clock underlying80 UO;go_simp;refine hK _ _ ?_;clear hK;rw[show(p3.re τ d).heap.size=p3.heap.size from rfl];refine aj.re (p:=p3.alloc (.mapIter (some mr) clock #[] clock)) ?_ τ d;clear q1 τ d;have tM:(p3.alloc (.mapIter (some mr) clock #[] clock)).heap.size=p3.heap.size+1:=by simp
 have T4:(p3.alloc (.mapIter (some mr) clock #[] clock)).heap[p3.heap.size]? =some (.mapIter (some mr) clock #[] clock):=blk_alloc_new _ _;have mC:dO p3 (p3.alloc (.mapIter (some mr) clock #[] clock)):=(dO.refl p3).alloc _;generalize p3.alloc (.mapIter (some mr) clock #[] clock)=p4 at tM T4 mC⊢;refine aj.aJ ?_;rw[ae.out];clear ae kk;refine aj.block (aj.loop ?_);have e1:=dC.out;have e2:=eM.out;have e3:=ij.out;have yv:dO p p4:=yr.trans mC;refine QI (cc:=_) (L:=p1.heap.size+1) (s0:=p.heap.size) (d0:=p1.heap.size) (base:=p4.heap.size) (mr:=mr) (it:=p3.heap.size) (bx:=bx) (clock:=clock) (fv:=jf bx) (es:=es) rfl (by omega) (by omega) (by omega) (by omega) (by omega) (by omega) (by omega) (by omega) (by omega) mL Fp fe es.size p4 (.slice none 0 0) 0 [] #[] clock ?_ (Nat.le_refl _) (by omega) ?_ ?_ ?_ ?_ (Nat.le_refl _) ?_ T4 (fun p5 v5 xs t3 t6 t7 t8 t9 a3 a1 a2 a0 hp5 qt Mg uC Y1 hsz5 hos5 Lw=>?_) _ _ _ _ _ _ _ _ _
 .simp[Go.leftOf]
 .have e:Go.leftOf es #[]=es:=by simp[Go.leftOf]
  rw[e];exact List.Perm.refl _
 .rw[mC.row _ (by omega)];exact tt.out
 .exact rF.out.of_block ((eQ.trans (ky.trans mC)).row _ (by omega))
 .exact⟨rfl,.inl ⟨rfl,rfl⟩⟩
 .rw[mC.row _ (by omega)];exact UO
 clear tt T4 UO tmr;have uB:=hide uC;have Y0:=hide Y1;have hp6:=hide hp5
 clear uC Y1 hp5;dsimp only;refine aj.done (aj.backI func133 (v:=.tuple #[]) (fun w=>by simp[results,f133]) (fun w=>by simp[results,f133]) ?_);refine aj.endLoop qt rfl rfl ?_;have lP:∀b,b≠p1.heap.size+1->(setRow p5 (p1.heap.size+1) (.loop {kX p.heap.size p1.heap.size (jf bx)with state:=.exhausted})).heap[b]? =p5.heap[b]? :=fun b h=>by
  simp[setRow,Array.getElem?_setIfInBounds,Ne.symm h]
 have hsz6:(setRow p5 (p1.heap.size+1) (.loop {kX p.heap.size p1.heap.size (jf bx)with state:=.exhausted})).heap.size=p5.heap.size:=by simp[setRow]
 have I':(setRow p5 (p1.heap.size+1) (.loop {kX p.heap.size p1.heap.size (jf bx)with state:=.exhausted})).os=p5.os:=rfl;have YW:(setRow p5 (p1.heap.size+1) (.loop {kX p.heap.size p1.heap.size (jf bx)with state:=.exhausted})).output=p5.output:=rfl;generalize setRow p5 (p1.heap.size+1) (.loop {kX p.heap.size p1.heap.size (jf bx)with state:=.exhausted})=p6 at lP hsz6 I' YW⊢;have Mf:=Mg.of_block (lP _ (by omega));replace lP:=hide lP;clear e1 e2 e3;refine aj.inBlock (aj.seq (aj.reg (todo:= [0,1]) rfl ?_));refine aj.ow ak fun τ d K hK=>?_;have q1:(p6.re τ d).cell? ⟨p.heap.size,0,none⟩=some v5:=Mf.cell 0 _ rfl;go_simp;refine hK _ _ (aj.re ?_ _ _);clear hK q1 τ d;refine aj.ow ak fun τ d K hK=>?_;go_simp;refine hK _ _ (aj.re ?_ _ _);clear hK τ d;refine aj.aJ ?_;have e1:=dC.out;have e2:=eM.out;have e3:=ij.out;refine aj.ctl (g':=G {(base 180).at ⟨#[.slice none 0 0,jf bx,.pointer (some ⟨p.heap.size,0,none⟩),undef,v5,undef,jf bx,undef,undef,undef,undef,undef,v5],[{target:=.collected p1.heap.size,args:=#[]}]⟩ [.code .ret]with mode:=.returning} ((base cfn).at ca (.inRegion bA (ci::aT)::ck)::cs)) rfl (fun _=>rfl) ?_;refine aj.taken (by
  rw[lP.out _ (by omega),Y0.out _ (by omega) (by omega) (by omega) (by omega),(ky.trans mC).row _ (by omega)];exact O3.out) ?_
 have QR:∀b,b≠p1.heap.size->(setRow p6 p1.heap.size (.deferred none)).heap[b]? =p6.heap[b]? :=fun b h=>by
  simp[setRow,Array.getElem?_setIfInBounds,Ne.symm h]
 have hsz7:(setRow p6 p1.heap.size (.deferred none)).heap.size=p6.heap.size:=by simp[setRow]
 refine aj.back ho func180 (v:=v5) (fun _=>by simp[results,f180]) (fun _=>by simp[results,f180]) ?_;refine HE.out _ v5 xs hp6.out ?_ ⟨by omega,fun b hb=>?_,?_,?_⟩
 .refine⟨uB.out.1,uB.out.2.imp id ?_⟩;rintro⟨g,cap,cur,h1,h2,h3,h4⟩;exact⟨g,cap,cur,h1,by omega,by rw[QR g (by omega),lP.out g (by omega)];exact h3,h4⟩
 .rw[QR b (by omega),lP.out b (by omega),Y0.out b (by omega) (by omega) (by omega) (by omega),yv.row b hb]
 .exact(I'.trans hos5).trans yv.os
 .exact(YW.trans Lw).trans yv.output
open Go.RowKit Go.Deep
theorem QL(a:Option Addr)(cap:Nat)(w:World):Calls prog 204 #[.slice a 1 cap,.int .i64 0,.int .i64 1] w fun e w'=>e= .returned (.tuple #[])/\w'=w:=by
 go_enter func204,ntmps204;go_wp2_with fail
 go_loopw [6] (fun iv wr=>iv= .int .i64 1/\wr=w) (fun _ _=>0)
 case atStart=>exact⟨rfl,rfl⟩
 case round=>
  obtain⟨rfl,rfl⟩:=hrel;go_wp2;exact⟨rfl,.tuple #[],by simp[results,f204],rfl,rfl⟩
theorem MH(w:World):Calls prog 214 #[.int .u64 1] w fun e w'=>e= .returned (.int .i64 1)/\w'=w:=by
 go_enter func214,ntmps214;go_wp2;go_ret;exact⟨by kernel_rfl,rfl⟩
theorem QF(w:World):Calls prog 182 #[.int .u64 1] w fun e w'=>e= .returned (.int .i64 1)/\w'=w:=by
 have H:=hide (MH w);go_enter func182,ntmps182;go_wp2_with (go_at_call 214;refine H.out.mono ?_;rintro _ _ ⟨rfl,rfl⟩)
 go_ret;exact⟨rfl,rfl⟩
theorem Qc(a:Option Addr)(cap:Nat)(lim:Int)(w:World):Calls prog 181 #[.slice a 1 cap,.int .i64 0,.int .i64 1,.int .i64 lim] w fun e w'=>e= .returned (.tuple #[])/\w'=w:=by
 have HI:=hide (QL a cap w);go_enter func181,ntmps181;go_wp2_with fail
 go_loopw [1,2] (fun av bv wr=>av= .int .i64 0/\bv= .int .i64 1/\wr=w) (fun _ _ _=>0)
 case atStart=>exact⟨rfl,rfl,rfl⟩
 case round=>
  obtain⟨rfl,rfl,rfl⟩:=hrel;go_wp2_with (go_at_call 204;refine HI.out.mono ?_;rintro _ _ ⟨rfl,rfl⟩)
  exact⟨rfl,.tuple #[],by simp[results,f181],rfl,rfl⟩
theorem Lj(a:Option Addr)(cap:Nat)(w:World):Calls prog 132 #[.slice a 1 cap] w fun e w'=>e= .returned (.tuple #[])/\w'=w:=by
 have HP:=hide (fun lim=>Qc a cap lim w);have HL:=hide (QF w);go_enter func132,ntmps132;go_wp2_with (first|(go_at_call 182;refine HL.out.mono ?_;rintro _ _ ⟨rfl,rfl⟩)|(go_at_call 181;refine(HP.out _).mono ?_;rintro _ _ ⟨rfl,rfl⟩))
 exact⟨rfl,.tuple #[],by simp[results,f132],rfl,rfl⟩
theorem Xy{b:Nat}{v:Value}{id:Int}(h:p.ownsRow b 3 1 v 1 [.int .i64 id]):∃g cap,v= .slice (some ⟨g,0,none⟩) 1 cap/\1<=cap/\p.cell? ⟨g,0,none⟩=some (.int .i64 id):=by
 obtain⟨_,h|⟨g,cap,cur,h1,h2,h3,h4,h5,h6,h7⟩⟩:=h
 .omega
 .refine⟨g,cap,h1,h4,?_⟩;have h8:cur.toList[0]? =some (.int .i64 id):=by
   have:=congrArg (fun l=>l[0]?) h7;simpa[List.getElem?_take]using this
  simp only[World.cell?,h3];simpa using h8
theorem FJ{ci:Nat}{cs:List Frame}(ho:bA[ci]? =some o){clock:Nat}{es:Array MapEntry}(oA:p.cell? ⟨bx,0,none⟩=some (.map (some mr)))(cA:p.heap[mr]? =some (.map es clock))(Fp:es.toList.map (·.born)=List.range clock){id:Int}(fe:es.toList.map (·.key)= [.int .i64 id])
  (bc:∀p' v g cap,v= .slice (some ⟨g,0,none⟩) 1 cap->1<=cap->p'.cell? ⟨g,0,none⟩=some (.int .i64 id)->dO p p'->aj prog Sh (G ((base cfn).at (ca.put o.dst v) (.inRegion bA aT::ck)) cs) p' Post):
  aj prog Sh (G ((base 131).at ⟨#[jf bx,undef,undef,undef,undef],[]⟩ [.code (f131.body.getD .skip)]) ((base cfn).at ca (.inRegion bA (ci::aT)::ck)::cs)) p Post:=by
 have HE:=hide bc;clear bc;have mL:es.size=1:=by
  have:=congrArg List.length fe;simpa using this
 conv=>arg 3;simp only[f131,Option.getD_some]
 refine aj.seq (aj.reg (todo:= [0]) rfl ?_);refine aj.ow ak fun τ d K hK=>?_;go_simp;refine hK _ _ (aj.re ?_ _ _);clear hK τ d;refine aj.aJ ?_;refine aj.seq (aj.reg (todo:= [0,1,2]) rfl ?_);refine aj.ow ak fun τ d K hK=>?_;go_simp;refine hK _ _ (aj.re ?_ _ _);clear hK τ d;refine aj.fB rfl rfl (by decide) rfl func180 rfl rfl (T':=#[.slice none 0 0,jf bx,undef,undef,undef,undef,undef,undef,undef,undef,undef,undef,undef]) (by simp[Act.eval,f180]) ?_;refine CG (o:=?o1) ?gx oA cA (by omega) Fp (fun e he=>?_) (fun p' v xs hp br hg=>?_)
 case gx=>rfl
 .have:e.key∈es.toList.map (·.key):=List.mem_map.2 ⟨e,he,rfl⟩;rw[fe]at this;exact⟨id,by simpa using this⟩
 rw[fe]at hp;obtain rfl:=List.perm_singleton.1 hp;rw[mL]at br;obtain⟨g,cap,rfl,dj,hc⟩:=Xy br;have HC:=hide hc;have HG:=hide hg
 clear hc hg br hp;try walk_nrm
 refine aj.ow ak fun τ d K hK=>?_;go_simp;refine hK _ _ (aj.re ?_ _ _);clear hK τ d;refine aj.aJ ?_;exact aj.ret (aj.back ho func131 (v:=.slice (some ⟨g,0,none⟩) 1 cap) (fun _=>by simp[results,f131]) (fun _=>by simp[results,f131]) (HE.out p' _ g cap rfl dj HC.out HG.out))
theorem Ib{ci:Nat}{cs:List Frame}(ho:bA[ci]? =some o){clock:Nat}{es:Array MapEntry}(oA:p.cell? ⟨bx,0,none⟩=some (.map (some mr)))(cA:p.heap[mr]? =some (.map es clock))(Fp:es.toList.map (·.born)=List.range clock){id:Int}(fe:es.toList.map (·.key)= [.int .i64 id])
  (bc:∀p' v g cap,v= .slice (some ⟨g,0,none⟩) 1 cap->1<=cap->p'.cell? ⟨g,0,none⟩=some (.int .i64 id)->dO p p'->aj prog Sh (G ((base cfn).at (ca.put o.dst v) (.inRegion bA aT::ck)) cs) p' Post):
  aj prog Sh (G ((base 86).at ⟨#[jf bx,undef,undef,undef,undef,undef,undef,undef,undef],[]⟩ [.code (f86.body.getD .skip)]) ((base cfn).at ca (.inRegion bA (ci::aT)::ck)::cs)) p Post:=by
 have HE:=hide bc;clear bc;conv=>arg 3;simp only[f86,Option.getD_some]
 refine aj.seq (aj.reg (todo:= [0]) rfl ?_);refine aj.ow ak fun τ d K hK=>?_;go_simp;refine hK _ _ (aj.re ?_ _ _);clear hK τ d;refine aj.aJ ?_;refine aj.seq (aj.reg (todo:= [0,1,2]) rfl ?_);refine aj.ow ak fun τ d K hK=>?_;go_simp;refine hK _ _ (aj.re ?_ _ _);clear hK τ d;refine aj.fB rfl rfl (by decide) rfl func131 rfl rfl (T':=#[jf bx,undef,undef,undef,undef]) (by simp[Act.eval,f131]) ?_;refine FJ (o:=?o1) ?gx oA cA Fp fe (fun p' v g cap hv dj hc hg=>?_)
 case gx=>rfl
 subst hv;have HC:=hide hc;have HG:=hide hg
 clear hc hg;try walk_nrm
 refine aj.ow ak fun τ d K hK=>?_;go_simp;refine hK _ _ (aj.re ?_ _ _);clear hK τ d;refine aj.aJ ?_;refine aj.seq (aj.reg (todo:= [0,1]) rfl ?_);refine aj.ow ak fun τ d K hK=>?_;go_simp;refine hK _ _ (aj.re ?_ _ _);clear hK τ d;refine aj.j_ ak (by kernel_rfl) rfl rfl rfl func132 rfl rfl (xs:=#[.slice (some ⟨g,0,none⟩) 1 cap]) (by simp[Act.eval]) fun τ d=>?_;refine(Lj _ cap _).mono ?_;rintro _ _ ⟨rfl,rfl⟩;refine⟨_,rfl,aj.re ?_ _ _⟩;clear τ d;try walk_nrm
 refine aj.aJ ?_;refine aj.seq (aj.reg (todo:= [0,1]) rfl ?_);refine aj.ow ak fun τ d K hK=>?_;go_simp;refine hK _ _ (aj.re ?_ _ _);clear hK τ d;refine aj.ow ak fun τ d K hK=>?_;go_simp;refine hK _ _ (aj.re ?_ _ _);clear hK τ d;refine aj.aJ ?_;exact aj.ret (aj.back ho func86 (v:=.slice (some ⟨g,0,none⟩) 1 cap) (fun _=>by simp[results,f86]) (fun _=>by simp[results,f86]) (HE.out p' _ g cap rfl dj HC.out HG.out))
theorem tm_mk{P:Program}(f:Fn)(a b:Array Value):Tm P (Instr.makeFunc f a b):=ay _
theorem MI{ci:Nat}{cs:List Frame}(ho:bA[ci]? =some o)
  (bc:∀p' bx,p'.cell? ⟨bx,0,none⟩=some (.map (some mr))->dO p p'->aj prog Sh (G ((base cfn).at (ca.put o.dst (jf bx)) (.inRegion bA aT::ck)) cs) p' Post):
  aj prog Sh (G ((base 87).at ⟨#[.map (some mr),undef,undef,undef],[]⟩ [.code (f87.body.getD .skip)]) ((base cfn).at ca (.inRegion bA (ci::aT)::ck)::cs)) p Post:=by
 have HE:=hide bc;clear bc;conv=>arg 3;simp only[f87,Option.getD_some]
 refine aj.seq (aj.reg (todo:= [0,1]) rfl ?_);refine aj.ow ak fun τ d K hK=>?_;go_simp;refine hK _ _ ?_;clear hK;rw[show(p.re τ d).heap.size=p.heap.size from rfl];refine aj.re (p:=p.alloc (.cells #[.map (some mr)] 80)) ?_ τ d;clear τ d;have dr:(p.alloc (.cells #[.map (some mr)] 80)).cell? ⟨p.heap.size,0,none⟩=some (.map (some mr)):=bU _ _ _ _ _ _ rfl;have c_:dO p (p.alloc (.cells #[.map (some mr)] 80)):=(dO.refl p).alloc _;generalize p.alloc (.cells #[.map (some mr)] 80)=p1 at dr c_⊢;replace dr:=hide dr;refine aj.ow ak fun τ d K hK=>?_;go_simp;refine hK _ _ (aj.re ?_ _ _);clear hK τ d;refine aj.aJ ?_;refine aj.seq (aj.reg (todo:= [0,1]) rfl ?_);refine aj.op (yP rfl (tm_mk _ _ _)) rfl rfl (by decide) (fun τ d K hK=>?_);have Rp:∀(fn:Fn) (first cap:Array Value) (w:World),(Instr.makeFunc fn first cap).run prog w= .ok (.func fn first cap) w:=fun _ _ _ _=>rfl;go_simp;refine hK _ _ (aj.re ?_ _ _);clear hK Rp τ d;refine aj.ow ak fun τ d K hK=>?_;go_simp;refine hK _ _ (aj.re ?_ _ _);clear hK τ d;refine aj.aJ ?_;exact aj.ret (aj.back ho func87 (v:=jf p.heap.size) (fun _=>by simp[results,jf,f87]) (fun _=>by simp[results,jf,f87]) (HE.out p1 p.heap.size dr.out c_))
theorem Qp{ci:Nat}{cs:List Frame}(ho:bA[ci]? =some o){clock:Nat}{es:Array MapEntry}(cA:p.heap[mr]? =some (.map es clock))(Fp:es.toList.map (·.born)=List.range clock){id:Int}(fe:es.toList.map (·.key)= [.int .i64 id])
  (bc:∀p' v g cap,v= .slice (some ⟨g,0,none⟩) 1 cap->1<=cap->p'.cell? ⟨g,0,none⟩=some (.int .i64 id)->dO p p'->aj prog Sh (G ((base cfn).at (ca.put o.dst v) (.inRegion bA aT::ck)) cs) p' Post):
  aj prog Sh (G ((base 45).at ⟨#[.map (some mr),undef,undef,undef,undef,undef],[]⟩ [.code (f45.body.getD .skip)]) ((base cfn).at ca (.inRegion bA (ci::aT)::ck)::cs)) p Post:=by
 have HE:=hide bc;clear bc;conv=>arg 3;simp only[f45,Option.getD_some]
 refine aj.seq (aj.reg (todo:= [0]) rfl ?_);refine aj.ow ak fun τ d K hK=>?_;go_simp;refine hK _ _ (aj.re ?_ _ _);clear hK τ d;refine aj.aJ ?_;refine aj.seq (aj.reg (todo:= [0,1,2,3]) rfl ?_);refine aj.ow ak fun τ d K hK=>?_;go_simp;refine hK _ _ (aj.re ?_ _ _);clear hK τ d;refine aj.fB rfl rfl (by decide) rfl func87 rfl rfl (T':=#[.map (some mr),undef,undef,undef]) (by simp[Act.eval,f87]) ?_;refine MI (o:=?o1) ?gx (fun p1 bx oA c_=>?_)
 case gx=>rfl
 try walk_nrm
 refine aj.fB rfl rfl (by decide) rfl func86 rfl rfl (T':=#[jf bx,undef,undef,undef,undef,undef,undef,undef,undef]) (by simp[Act.eval,f86]) ?_;have Oo:p1.heap[mr]? =some (.map es clock):=by rw[c_.row mr (Array.getElem?_eq_some_iff.1 cA).1];exact cA
 refine Ib (o:=?o2) ?vt oA Oo Fp fe (fun p' v g cap hv dj hc hg=>?_)
 case vt=>rfl
 subst hv;have HC:=hide hc;have HG:=hide (c_.trans hg)
 clear hc hg;try walk_nrm
 refine aj.ow ak fun τ d K hK=>?_;go_simp;refine hK _ _ (aj.re ?_ _ _);clear hK τ d;refine aj.aJ ?_;exact aj.ret (aj.back ho func45 (v:=.slice (some ⟨g,0,none⟩) 1 cap) (fun _=>by simp[results,f45]) (fun _=>by simp[results,f45]) (HE.out p' _ g cap rfl dj HC.out HG.out))
theorem UC{ci:Nat}{cs:List Frame}(ho:bA[ci]? =some o){lb:Nat}{id:Nat}{ob:gy}{l:List (Nat×Nat)}{A:Nat->OD}(h:LG p F lb mr [(id,ob)] l A)
  (bc:∀p' v g cap,v= .slice (some ⟨g,0,none⟩) 1 cap->1<=cap->p'.cell? ⟨g,0,none⟩=some (.int .i64 (id:Int))->dO p p'->aj prog Sh (G ((base cfn).at (ca.put o.dst v) (.inRegion bA aT::ck)) cs) p' Post):
  aj prog Sh (G ((base 23).at ⟨#[.pointer (some ⟨lb,0,none⟩),undef,undef,undef,undef,undef,undef,undef],[]⟩ [.code (f23.body.getD .skip)]) ((base cfn).at ca (.inRegion bA (ci::aT)::ck)::cs)) p Post:=by
 have HE:=hide bc;clear bc;obtain⟨es,clock,cA,hm⟩:=h.map;obtain⟨es',clock',UQ,Fp⟩:=h.born;rw[cA]at UQ;simp only[Option.some.injEq,Obj.map.injEq]at UQ;obtain⟨rfl,rfl⟩:=UQ;have fe:es.toList.map (·.key)= [.int .i64 (id:Int)]:=by
  have h1:=congrArg (fun l=>l.map Prod.fst) hm;simp only[List.map_map]at h1;have h2:l.map (fun x=>Value.int .i64 (x.1:Int))= [.int .i64 (id:Int)]:=by
   have:=congrArg (fun l=>l.map fun n:Nat=>Value.int .i64 (n:Int)) h.ids;simpa[List.map_map,Function.comp_def]using this
  exact h1.trans h2
 have cF:=h.XZ.cell 0 _ rfl;clear h hm;conv=>arg 3;simp only[f23,Option.getD_some]
 refine aj.seq (aj.reg (todo:= [0]) rfl ?_);refine aj.ow ak fun τ d K hK=>?_;go_simp;refine hK _ _ (aj.re ?_ _ _);clear hK τ d;refine aj.aJ ?_;refine aj.seq (aj.reg (todo:= [0,1,2,3,4,5]) rfl ?_);refine aj.ow ak fun τ d K hK=>?_;go_simp;refine hK _ _ (aj.re ?_ _ _);clear hK τ d;refine aj.ow ak fun τ d K hK=>?_;go_simp;refine hK _ _ (aj.re ?_ _ _);clear hK τ d;refine aj.ow ak fun τ d K hK=>?_;go_simp;refine hK _ _ (aj.re ?_ _ _);clear hK τ d;refine aj.ow ak fun τ d K hK=>?_;have q1:(p.re τ d).cell? ⟨lb,0,none⟩=some (.map (some mr)):=cF;go_simp;refine hK _ _ (aj.re ?_ _ _);clear hK q1 τ d;refine aj.fB rfl rfl (by decide) rfl func45 rfl rfl (T':=#[.map (some mr),undef,undef,undef,undef,undef]) (by simp[Act.eval,f45]) ?_;refine Qp (o:=?o1) ?gx cA Fp fe (fun p' v g cap hv dj hc hg=>?_)
 case gx=>rfl
 subst hv;have HC:=hide hc;have HG:=hide hg
 clear hc hg;try walk_nrm
 refine aj.ow ak fun τ d K hK=>?_;go_simp;refine hK _ _ (aj.re ?_ _ _);clear hK τ d;refine aj.aJ ?_;exact aj.ret (aj.back ho func23 (v:=.slice (some ⟨g,0,none⟩) 1 cap) (fun _=>by simp[results,f23]) (fun _=>by simp[results,f23]) (HE.out p' _ g cap rfl dj HC.out HG.out))
def mO(vX:Nat->Prop)(pe:World)(Sh:Nat->Prop)(g:Goroutine)(p:World):Prop:=∃T todo,g=Gr 5 T todo []/\T[14]? =some (.bool true)/\bQ vX Sh pe p
theorem bQ.kp{p':World}{τ d}(hA:bQ vX Sh pe p)(hk:Kp F (p.re τ d) p')(hF:∀b,F b->pe.heap.size<=b):bQ vX Sh pe p':=by
 have hs:p.heap.size<=p'.heap.size:=hk.size;have hb:∀b,b<pe.heap.size->p'.heap[b]? =p.heap[b]? :=fun b h=>hk.block b (show b<p.heap.size by have:=hA.grown;omega) (fun hx=>by have:=hF b hx;omega);exact⟨Nat.le_trans hA.grown hs,fun b o h1 h2=>by rw[hb b (Array.getElem?_eq_some_iff.1 h1).1];exact hA.keep b o h1 h2,fun b h1 h2=>by
  obtain⟨h3,h4⟩:=hA.old b h1 h2;exact⟨h3,by rw[hb b h1];exact h4⟩,hk.os.trans hA.os,hk.output.trans hA.output⟩
theorem D_(w:World):(convert 28 9 (.slice none 0 0)).run prog w= .ok (.string ⟨#[]⟩) w:=by
 simp[convert,run_underlying underlying28,run_underlying underlying9,run_underlying underlying5];rfl
theorem SN{lx mx ly my id n nl cl:Nat}{al:Option Addr}{all:ByteArray}{Fx Fy:Nat->Prop}{o:gy}{lX lY:List (Nat×Nat)}{AX AY:Nat->OD}{m:Int}
  (hX:LG p Fx lx mx [(id,o)] lX AX)(hY:LG p Fy ly my [] lY AY)(Ke:∀b,Fx b->¬Fy b)(ha:Alpha p)(h0:¬Fy 0)(hm:p.cell? ⟨1,0,none⟩=some (.int .i64 m))(cG:all.size<=100000000)
  (uA:bC.read [] 0 (dB all.data.toList)=([(id,o)],n,0,0))(hn:n=min nl 20)(hnl:nl<=20000)(hFy:∀b,Fy b->pe.heap.size<=b)(hA:bQ vX Sh pe p):
  ∀{t0 t1 t2 t3 t4 t5 t6 t7 t8 t9 a3 a1 a2 a0 c2 f2 n8 w9 C9 x8 j9 o5 b1 A4 d1 w2 a5 B1 f3 y9 B3 q9 m2 F5 l6 D0 z0 u4 F8 v6 n1 d3 m1 C4 a8 a9 a4 C6 u6 e6 z3 D1 d4 D9 w3 x1 l0 F4 s1 d5 r1 d8 B9 i0 A0 f8 z6 m6 b2 B4 i5 v8 c6 r5 E7 f4 D8 l8 o0 d6 s9 C2 F7 i1 j8 k7 r9 d9 E8 s5 v1 l2 e5 v9 x4 n5 q0 q6 E3 C0 E4 i6 r2 C1 w0 k6 b6 c5 x2 B5 j3 m3 o9 m4 F2 x3 x9 s3 E1 D7 m5 D2 A9 s4 o6 l3 i2 r0 y3 r3 B8 p0 x5 b7 A8 d2 e0 s6 n4 u5 z1 z2 a7 c7 l7 g5 y5 l9 j5 a6 C3 w4 D5 B2 G0 d7 b0 s2 k8 p9 e8 u8 A2 C7 r4 b3 y1 o8 k0 u3 m7 m8 n6 c9 B6 E9 r8 j6 x6 b5 n9 u9 i8 p8 f0 y0 m9 g6 A6 y7 f9 y2 j0 F9 D3 q7 x0 g9 D6 z4 z7 v7 q2 r6 i4 i3 b9 g2 b4 j2 c1 v0 z9 i9 e7 j1 z5 u7 r7 g7 l5 u2 x7 f1 E0 c8 i7 f6 p7 w7 u0 w8 F0 A3 k5 y4 E5 n3 g1 n2 D4 g8 u1 b8 l4 z8 m0 k9 A7 w5 j7 s7 o7 g0 B0 f7 q5 h9 n0 B7 C5 F3 y8 F6 w6 E2 o4 j4 C8 s8 e9 q8 y6 A5 E6 n7:Value},aj prog Sh (G ((base 5).at ⟨#[t0,t1,t2,t3,t4,t5,t6,t7,t8,t9,a3,a1,a2,a0,.bool false,c2,f2,n8,.slice al nl cl,w9,C9,x8,j9,o5,b1,A4,d1,w2,a5,.pointer (some ⟨lx,0,none⟩),.pointer (some ⟨ly,0,none⟩),.string all,B1,f3,y9,B3,q9,m2,F5,l6,D0,z0,u4,F8,v6,n1,d3,m1,C4,a8,a9,a4,C6,u6,e6,z3,D1,d4,D9,w3,x1,l0,F4,s1,d5,r1,d8,B9,i0,A0,f8,z6,m6,b2,B4,i5,v8,c6,r5,E7,f4,D8,l8,o0,d6,s9,C2,F7,i1,j8,k7,r9,d9,E8,s5,v1,l2,e5,v9,x4,n5,q0,q6,E3,C0,E4,i6,r2,C1,w0,k6,b6,c5,x2,B5,j3,m3,o9,m4,F2,x3,x9,s3,E1,D7,m5,D2,A9,s4,o6,l3,i2,r0,y3,r3,B8,p0,x5,b7,A8,d2,e0,s6,n4,u5,z1,z2,a7,c7,l7,g5,y5,l9,j5,a6,C3,w4,D5,B2,G0,d7,b0,s2,k8,p9,e8,u8,A2,C7,r4,b3,y1,o8,k0,u3,m7,m8,n6,c9,B6,E9,r8,j6,x6,b5,n9,u9,i8,p8,f0,y0,m9,g6,A6,y7,f9,y2,j0,F9,D3,q7,x0,g9,D6,z4,z7,v7,q2,r6,i4,i3,b9,g2,b4,j2,c1,v0,z9,i9,e7,j1,z5,u7,r7,g7,l5,u2,x7,f1,E0,c8,i7,f6,p7,w7,u0,w8,F0,A3,k5,y4,E5,n3,g1,n2,D4,g8,u1,b8,l4,z8,m0,k9,A7,w5,j7,s7,o7,g0,B0,f7,q5,h9,n0,B7,C5,F3,y8,F6,w6,E2,o4,j4,C8,s8,e9,q8,y6,A5,E6,n7],[]⟩ [.code (eO [1,1,1,1,1,1,1,1,1,1,1,1,1,1,1,1,1,1,1,1,1,1] (Tryz.f5.body.getD .skip))]) []) p (mO vX pe):=by
 intros;have RW:=hide (fun τ d=>LB (hY.re τ d) (fun i hi=>ha i hi) h0 (m:=m) (show(p.re τ d).cell? ⟨1,0,none⟩=_ from hm) all cG);rw[uA]at RW;have HX:=hide hX;have HA:=hide hA;have HF:=hide hFy;have HD:=hide Ke
 clear hX hY Ke ha h0 hm cG uA hA hFy;conv=>arg 3;simp only[Tryz.f5,Option.getD_some,eO]
 refine aj.seq ?_;refine aj.bB fun kk ae=>?_;replace ae:=hide ae;refine aj.bW ak fun τ d=>?_;go_wp2_with (go_at_call 19;refine(RW.out τ d).mono ?_;rintro _ p1 ⟨rfl,F1,l1,A1,mb,T7,gi⟩;replace mb:=hide mb;replace T7:=hide T7;replace gi:=hide gi)
 first|(refine Or.inl ⟨rfl,?_⟩;dsimp only)|skip
 have ui:LG p1 Fx lx mx [(id,o)] lX AX:=HX.out.same fun b hb=>gi.out.block b (show b<p.heap.size from HX.out.lt b hb) (HD.out b hb);have GB:=HA.out.kp gi.out HF.out;have Pc:=hide ui;have Cs:=hide GB
 clear ui GB HX HA HF HD T7 gi RW;rw[ae.out];clear ae kk τ d;refine aj.seq ?_;refine aj.bB fun kk ae=>?_;replace ae:=hide ae;refine aj.reg (todo:= [0,1,2]) rfl ?_;refine aj.ow ak fun τ d K hK=>?_;go_simp;refine hK _ _ (aj.re ?_ _ _);clear hK τ d;try walk_nrm
 refine aj.fB rfl rfl (by decide) rfl func23 rfl rfl (T':=#[.pointer (some ⟨lx,0,none⟩),undef,undef,undef,undef,undef,undef,undef]) (by simp[Act.eval,f23]) ?_;refine UC (o:=?o1) ?gx Pc.out (fun p2 v g cap hv dj hc hg=>?_)
 case gx=>rfl
 subst hv;have Pb:=hide (Pc.out.same fun b hb=>hg.row b (Pc.out.lt b hb));have HY2:=hide (mb.out.same fun b hb=>hg.row b (mb.out.lt b hb));have Pr:=hide (Cs.out.trans (bQ.pO hg));have Ww:=hide hc;clear hc hg Pc Cs mb;try walk_nrm
 refine aj.ow ak fun τ d K hK=>?_;go_simp;refine hK _ _ (aj.re ?_ _ _);clear hK τ d;try walk_nrm
 refine aj.aJ ?_;rw[ae.out];clear ae kk;refine aj.seq ?_;refine aj.bB fun kk ae=>?_;replace ae:=hide ae;refine aj.bW ak fun τ d=>?_;go_wp2
 first|(refine Or.inl ⟨rfl,?_⟩;dsimp only)|skip
 refine aj.re ?_ _ _;rw[ae.out];clear ae kk τ d;refine aj.seq ?_;refine aj.bB fun kk ae=>?_;replace ae:=hide ae;refine aj.reg (todo:= [0,1,2,3,4,5,6,7,8,9]) rfl ?_;refine aj.ow ak fun τ d K hK=>?_;go_simp;refine hK _ _ (aj.re ?_ _ _);clear hK τ d;try walk_nrm
 iterate 2 (refine aj.ow ak fun τ d K hK=>?_;go_simp;refine hK _ _ (aj.re ?_ _ _);clear hK τ d;try walk_nrm)
 refine aj.ow ak fun τ d K hK=>?_;have q1:(p2.re τ d).cell? ⟨g,0,none⟩=some (.int .i64 (id:Int)):=Ww.out;go_simp;refine hK _ _ (aj.re ?_ _ _);clear hK q1 τ d;try walk_nrm
 refine aj.fB rfl rfl (by decide) rfl func24 rfl rfl (T':=#[.pointer (some ⟨lx,0,none⟩),.int .i64 (id:Int),undef,undef,undef,undef,undef,undef,undef,undef,undef,undef,undef,undef,undef,undef,undef,undef,undef,undef,undef,undef,undef,undef,undef,undef,undef,undef,undef,undef,undef,undef,undef,undef,undef,undef,undef,undef]) (by simp[Act.eval,f24]) ?_;refine pQ (oo:=?o2) (o:=o) ?vt Pb.out (by simp[bC.get]) (fun S3 p3 v3 e3 Ca J0 YR=>?_)
 case vt=>rfl
 have VM:=hide (HY2.out.afterT Ca);have HA3:=hide (Pr.out.trans Ca);have Cp:Hid (p3.cell? ⟨g,0,none⟩=some (.int .i64 (id:Int))):=by
  have hc:=Ww.out;obtain⟨ob,fH⟩:∃ob,p2.heap[g]? =some ob:=by
   have:=bR hc;exact⟨_,Array.getElem?_eq_getElem this⟩
  refine dz hc ?_;rw[fH];refine Ca.keep g ob fH fun e fz he=>?_;subst he;simp[World.cell?,fH]at hc
 have H3n:=hide J0;have H3y:=hide YR
 clear Ca J0 YR Ww Pb HY2 Pr;try walk_nrm
 iterate 5 (refine aj.ow ak fun τ d K hK=>?_;go_simp;refine hK _ _ (aj.re ?_ _ _);clear hK τ d;try walk_nrm)
 refine aj.aJ ?_;rw[ae.out];clear ae kk;refine aj.seq ?_;refine aj.bB fun kk ae=>?_;replace ae:=hide ae;refine aj.reg (todo:= [0,1,2,3,4,5,6,7,8,9]) rfl ?_;refine aj.ow ak fun τ d K hK=>?_;go_simp;refine hK _ _ (aj.re ?_ _ _);clear hK τ d;try walk_nrm
 iterate 2 (refine aj.ow ak fun τ d K hK=>?_;go_simp;refine hK _ _ (aj.re ?_ _ _);clear hK τ d;try walk_nrm)
 refine aj.ow ak fun τ d K hK=>?_;have q1:(p3.re τ d).cell? ⟨g,0,none⟩=some (.int .i64 (id:Int)):=Cp.out;go_simp;refine hK _ _ (aj.re ?_ _ _);clear hK q1 τ d;try walk_nrm
 refine aj.fB rfl rfl (by decide) rfl func24 rfl rfl (T':=#[.pointer (some ⟨ly,0,none⟩),.int .i64 (id:Int),undef,undef,undef,undef,undef,undef,undef,undef,undef,undef,undef,undef,undef,undef,undef,undef,undef,undef,undef,undef,undef,undef,undef,undef,undef,undef,undef,undef,undef,undef,undef,undef,undef,undef,undef,undef]) (by simp[Act.eval,f24]) ?_;refine pQ (oo:=?o3) (o:=o) ?ho3 VM.out (by simp[bC.get]) (fun S4 p4 v4 e4 U' JS YQ=>?_)
 case ho3=>rfl
 have HA4:=hide (HA3.out.trans U');have mN:∃(s:ByteArray),e3=e4/\(∀τ d,(convert 28 9 v3).run prog (p4.re τ d)= .ok (.string s) (p4.re τ d))/\(∀τ d,(convert 28 9 v4).run prog (p4.re τ d)= .ok (.string s) (p4.re τ d)):=by
  by_cases hw:o.whole
  .obtain⟨rfl,g3,c3,rfl,wi,Ax⟩:=H3y.out hw;obtain⟨rfl,g4,c4,rfl,ue,At⟩:=YQ hw;have hln:o.len<=o.bytes.length:=(VM.out.ok id o (by simp[bC.get])).Ec;have hl:(o.bytes.take o.len).length=o.len:=by rw[List.length_take];omega
   have ht:∀j,j<o.len->(o.bytes.take o.len)[j]?.getD 0=o.bytes[j]?.getD 0:=fun j hj=>by rw[List.getElem?_take,if_pos hj]
   refine⟨strOfNums ((o.bytes.take o.len).map fun n:Nat=>(n:Int)),rfl,fun τ d=>eY hl fun j hj=>?_,fun τ d=>eY hl fun j hj=>?_⟩
   .rw[Nat.zero_add,ht j hj];have hc:=Ax j hj;show p4.cell? _=_;obtain⟨ob,fH⟩:∃ob,p3.heap[g3]? =some ob:=by
     have:=bR hc;exact⟨_,Array.getElem?_eq_getElem this⟩
    refine dz hc ?_;rw[fH];refine U'.keep g3 ob fH fun e fz he=>?_;subst he;simp[World.cell?,fH]at hc
   .rw[Nat.zero_add,ht j hj];exact At j hj
  .obtain⟨rfl,rfl⟩:=H3n.out hw;obtain⟨rfl,rfl⟩:=JS hw;exact⟨⟨#[]⟩,rfl,fun τ d=>D_ _,fun τ d=>D_ _⟩
 obtain⟨sv,rfl,Kg,Kf⟩:=mN;clear U' JS YQ H3n H3y Cp VM HA3;try walk_nrm
 iterate 5 (refine aj.ow ak fun τ d K hK=>?_;go_simp;refine hK _ _ (aj.re ?_ _ _);clear hK τ d;try walk_nrm)
 refine aj.aJ ?_;rw[ae.out];clear ae kk;refine aj.seq ?_;refine aj.bB fun kk ae=>?_;replace ae:=hide ae;refine aj.bW ak fun τ d=>?_;have q3:=Kg τ d;have q4:=Kf τ d;clear Kg Kf;go_wp2
 first|(refine Or.inl ⟨rfl,?_⟩;dsimp only)|skip
 refine aj.re ?_ _ _;rw[ae.out];clear ae kk q3 q4 τ d;exact aj.ret (aj.here ⟨_,_,rfl,rfl,HA4.out⟩)
end
section
variable{bs t d:List Nat}{ps:List (List Nat×Nat)}
namespace Tx
def spread(ps:List (List Nat×Nat))(tail:List Nat):List Nat:=ps.flatMap (fun p=>p.1++dM p.2)++tail
def Blank(l:List Nat):Prop:=∀x∈l,x=32\/x=10
theorem FQ(pre:List Nat)(c:Nat)(rest:List Nat):(pre++c::rest)[pre.length]?.getD 0=c:=by simp
theorem YA(pre:List Nat)(c c':Nat)(rest:List Nat):(pre++c::c'::rest)[pre.length+1]?.getD 0=c':=by
 rw[List.getElem?_append_right (by omega),show pre.length+1-pre.length=1 by omega];rfl
theorem J8{pre rest:List Nat}{c:Nat}(hb:bs=pre++c::rest)(hc:c=32\/c=10)(h:nW bs t pre.length):nW bs t (pre++ [c]).length:=by
 have hi:pre.length<bs.length:=by rw[hb];simp
 have e:=FQ pre c rest;rw[<-hb]at e;have hn:numAt bs pre.length= -1:=by unfold numAt;rw[if_pos (by rw[e];exact hc)]
 have h1:=h.blank hi hn;simpa using h1
theorem oW:∀(l:List Nat) {bs pre rest t:List Nat},bs=pre++(l++rest)->Blank l->nW bs t pre.length->nW bs t (pre++l).length
 | [],bs,pre,rest,t,_,_,h=>by simpa using h
 |c::l,bs,pre,rest,t,hb,hl,h=>by
  have h1:=J8 (rest:=l++rest) hb (hl c (List.mem_cons_self ..)) h;have h2:=oW l (pre:=pre++ [c]) (rest:=rest) (by rw[hb];simp) (fun x hx=>hl x (List.mem_cons_of_mem _ hx)) h1;simpa using h2
theorem OQ{pre rest:List Nat}{n:Nat}(hn:n<64)(hb:bs=pre++(dM n++rest))(h:nW bs t pre.length):nW bs (t++ [n]) (pre++dM n).length:=by
 unfold dM at hb⊢;by_cases h1:n<26
 .rw[if_pos h1]at hb⊢;have hi:pre.length<bs.length:=by rw[hb];simp
  have e:=FQ pre (65+n) rest;rw[show pre++(65+n)::rest=bs by rw[hb];rfl]at e;have hg:¬greek bs pre.length:=fun hg=>by have:=hg.1;omega
  have DD:numAt bs pre.length=(n:Int):=by unfold numAt;rw[if_neg (by omega),if_pos (by omega)];omega
  have h2:=h.letter hi DD;unfold iF at h2;rw[if_neg hg]at h2;simpa using h2
 .rw[if_neg h1]at hb⊢;by_cases h2:n<52
  .rw[if_pos h2]at hb⊢;have hi:pre.length<bs.length:=by rw[hb];simp
   have e:=FQ pre (71+n) rest;rw[show pre++(71+n)::rest=bs by rw[hb];rfl]at e;have hg:¬greek bs pre.length:=fun hg=>by have:=hg.1;omega
   have DD:numAt bs pre.length=(n:Int):=by unfold numAt;rw[if_neg (by omega),if_neg (by omega),if_pos (by omega)];omega
   have h3:=h.letter hi DD;unfold iF at h3;rw[if_neg hg]at h3;simpa using h3
  .rw[if_neg h2]at hb⊢;have hi:pre.length<bs.length:=by rw[hb];simp
   have MU:pre.length+1<bs.length:=by rw[hb];simp
   have e:=FQ pre 206 ((125+n)::rest);have e1:=YA pre 206 (125+n) rest;rw[show pre++206::(125+n)::rest=bs by rw[hb];rfl]at e e1;have hg:greek bs pre.length:=⟨e,MU,by omega,by omega⟩;have DD:numAt bs pre.length=(n:Int):=by unfold numAt;rw[if_neg (by omega),if_neg (by omega),if_neg (by omega),if_pos hg];omega
   have h3:=h.letter hi DD;unfold iF at h3;rw[if_pos hg]at h3;simpa using h3
theorem wE:∀(ps:List (List Nat×Nat)) {bs pre tail t:List Nat},bs=pre++spread ps tail->(∀p∈ps,Blank p.1/\p.2<64)->Blank tail->nW bs t pre.length->iX bs=some (t++ps.map Prod.snd)
 |[],bs,pre,tail,t,hb,_,ht,h=>by
  have cq:bs=pre++(tail++ []):=by rw[hb];simp[spread]
  have h1:=oW tail cq ht h;have h2:=h1.ends (by rw[cq];simp);simpa using h2
 |(l,n)::ps,bs,pre,tail,t,hb,hp,ht,h=>by
  have mz:=hp (l,n) (List.mem_cons_self ..);have bp:bs=pre++(l++(dM n++spread ps tail)):=by rw[hb];simp[spread]
  have h1:=oW l bp mz.1 h;have h2:=OQ (pre:=pre++l) (rest:=spread ps tail) mz.2 (by rw[bp];simp) h1;have h3:=wE ps (pre:=pre++l++dM n) (tail:=tail) (by rw[bp];simp) (fun p Mu=>hp p (List.mem_cons_of_mem _ Mu)) ht h2;simpa using h3
theorem ET{tail:List Nat}(hp:∀p∈ps,Blank p.1/\p.2<64)(ht:Blank tail):iX (spread ps tail)=some (ps.map Prod.snd):=by
 have h:=wE ps (bs:=spread ps tail) (pre:= []) (t:= []) (by simp) hp ht (CU _);simpa using h
def dX(d:List Nat):List Nat:=(List.range ((8*d.length+5)/6)).map (fun j=>val (lJ d) (6*j) 6)
theorem kF(d:List Nat):(dX d).length=(8*d.length+5)/6:=by simp[dX]
theorem zf(d:List Nat):∀n∈dX d,n<64:=fun n hn=>by
 simp only[dX,List.mem_map]at hn;obtain⟨j,_,rfl⟩:=hn;exact kQ (kJ d) _ 6
theorem iL(d:List Nat):dh d=(dX d).flatMap dM:=by
 unfold dh pre dX;rw[List.flatMap_map]
theorem WW{f:Nat->Nat}(hf:∀k,f k<2)(a m n:Nat):val f a (m+1+n)/2^n%2=f (a+m):=by
 rw[Ep hf,val];have:=hf (a+m);omega
theorem AU{k:Nat}(h:k<6*((8*d.length+5)/6)):nV (dX d) k=lJ d k:=by
 unfold nV dX;have hk:k/6<(8*d.length+5)/6:=by omega
 simp only[List.getElem?_map,List.getElem?_range hk,Option.map_some,Option.getD_some];have e:=WW (kJ d) (6*(k/6)) (k%6) (5-k%6);rw[show k%6+1+(5-k%6)=6 by omega,show 6*(k/6)+k%6=k by omega]at e;exact e
theorem EP(d:List Nat):rV (dX d):=by
 refine⟨by rw[kF];omega,val_zero (fun i hi=>?_)⟩;rw[kF]at hi⊢;rw[AU (by omega)];exact xI (by omega)
theorem FL(hd:∀x∈d,x<256):eZ (dX d)=d:=by
 have hl:6*(dX d).length/8=d.length:=by rw[kF];omega
 apply List.ext_getElem?;intro j;by_cases hj:j<d.length
 .have e:d[j]?.getD 0<256:=by rw[List.getElem?_eq_getElem hj];exact hd _ (List.getElem_mem hj)
  have h1:val (nV (dX d)) (8*j) 8=d[j]?.getD 0:=by
   rw[<-Gw d j e];exact val_congr (fun i hi=>AU (by omega))
  unfold eZ;rw[hl];simp only[List.getElem?_map,List.getElem?_range hj,Option.map_some];rw[h1];simp[hj]
 .rw[List.getElem?_eq_none (by rw[mM,hl];omega),List.getElem?_eq_none (by omega)]
theorem wZ(hd:∀x∈d,x<256){tail:List Nat}(hp:∀p∈ps,Blank p.1)(hs:ps.map Prod.snd=dX d)(ht:Blank tail):dI (spread ps tail)=some d:=by
 have h:iX (spread ps tail)=some (dX d):=by
  rw[<-hs];exact ET (fun p Mu=>⟨hp p Mu,zf d _ (by rw[<-hs];exact List.mem_map_of_mem Mu)⟩) ht
 unfold dI;rw[h];show(if rV (dX d)then some (eZ (dX d))else none)=some d;rw[if_pos (EP d),FL hd]
theorem P5(hd:∀x∈d,x<256):dI (dh d)=some d:=by
 have h:=wZ hd (ps:=(dX d).map (fun n=>([],n))) (tail:= []) (fun p hp=>by
  obtain⟨n,_,rfl⟩:=List.mem_map.1 hp;intro x hx;cases hx) (by rw[List.map_map];exact List.map_id' _) (by intro x hx;cases hx)
 rw[iL];have e:spread ((dX d).map (fun n=>(([]:List Nat),n))) []=(dX d).flatMap dM:=by
  unfold spread;rw[List.append_nil,List.flatMap_map];simp
 rwa [e]at h
end Tx
end
