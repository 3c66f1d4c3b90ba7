import Derived.Test.YtmfpiodlecapiaaJ26
import Derived.Conc.WgWords
namespace Go.Proofs.Ytmfpiodlecapiaa
open Go.Conc Go.Conc.Lib Go.Frag
def Idle(P:Program)(main:Bool):Nat->Goroutine->Goroutine->Prop
 |0,g,g'=>g=g'
 |n+1,g,g'=>g.status= .running/\∃g1,(∀w,stepG P main g w= .go g1 w #[])/\Idle P main n g1 g'
def wCall(ps:Array Addr):Deferred:= {target:=.fn (.func wFn) (ps.map fun a=>.pointer (some a)),args:=#[]}
def wCtx(n:Nat)(k:List Item)(g:Addr):Ctx:= {k:=k,defers:= [dcall link.done #[.pointer (some g)]],kind:=.deferred,callers:= [bot n]}
def restOf(f:Func):Code:=sndC (f.body.getD .skip)
theorem w_born(a0 a1 a2 a3 a4 a5:Addr):Idle Try.prog false 5 (born Try.prog (wCall #[a0,a1,a2,a3,a4,a5]))
  (conc (wCtx Try.prog.funcs.size [.code (restOf Try.f83)] a0) ⟨wFn,#[.pointer (some a0),.pointer (some a1),.pointer (some a2),.pointer (some a3),.pointer (some a4),.pointer (some a5)]++Array.replicate 19 undef,[],false⟩ []):=by
 refine⟨rfl,G (wBase.at ⟨#[.pointer (some a0),.pointer (some a1),.pointer (some a2),.pointer (some a3),.pointer (some a4),.pointer (some a5)]++Array.replicate 19 undef,[]⟩ [.code (Try.f83.body.getD .skip)]) [bot Try.prog.funcs.size],fun w=>?_,?_⟩
 ·simp[born,wCall,stepG,unwind,callDeferred,invoke,callFunc,Try.func83,Try.f83,seen,GStep.after,G,Frame.enter,Frame.at,baseD,bot]
 simp only[Try.f83,Option.getD_some,restOf,sndC];refine⟨rfl,_,fun w=>stepG_seq,rfl,_,fun w=>stepG_region,?_⟩;simp only[List.size_toArray,List.length_cons,List.length_nil,Nat.zero_add,List.range,List.range.loop];refine⟨rfl,_,fun w=>stepG_defer rfl rfl (by decide) rfl,rfl,_,fun w=>stepG_region_end,?_⟩;simp[Idle,conc,Fr.base,wCtx,G,Frame.at,Fr.mode,Act.put,Act.eval,baseD]
end Go.Proofs.Ytmfpiodlecapiaa
namespace Go.Proofs.Ytmfpiodlecapiaa
open Go.Conc Go.ConcN Go.RowKit Go.Conc.Lib Go.ConcR.Gen Go.ConcN.Gen Go.Grp
open Go.ConcR (KK wgBlock WgAt stA smA rd wr mk Payload Aside2 DC0)
def qT:Nat->Code->Code
 |0,.seq a _=>a
 |n+1,.seq _ b=>qT n b
 |_,c=>c
def dropC:Nat->Code->Code
 |0,c=>c
 |n+1,.seq _ b=>dropC n b
 |_,c=>c
def unblk:Code->Code
 | .block _ c=>c
 |c=>c
def loopC:Code->Code
 | .block _ (.loop c)=>c
 |c=>c
theorem wrap_in(n:Int)(h0:0<=n)(h1:n<9223372036854775808):IntKind.i64.wrap n=n:=by
 simp[IntKind.wrap,IntKind.bits,IntKind.signed];omega
structure FS(H:Ph)(bb bo N:Nat)(pa:Nat->Option Addr)(pl pc:Nat->Nat)(cR cD:Nat)(w:World):Prop where
 live:WgLive H.ty H.Wg w
 cell:∀z,z<N->w.cell? ⟨bb,bo+z,none⟩=some (.slice (pa z) (pl z) (pc z))
 chR:w.cell? ⟨cR,0,none⟩=some (.chan (some H.R))
 chD:w.cell? ⟨cD,0,none⟩=some (.chan (some H.Dn))
 ob:H.old bb
 oR:H.old cR
 oD:H.old cD
 lo:bb<w.heap.size/\cR<w.heap.size/\cD<w.heap.size/\H.Wg<w.heap.size
 b0:H.B0<=w.heap.size
 bas:∀b,H.old b->b<w.heap.size/\w.heap[b]? =H.row0 b
theorem FS.rely{H:Ph}{bb bo N:Nat}{pa:Nat->Option Addr}{pl pc:Nat->Nat}{cR cD:Nat}{mine:Nat->Prop}{w w₁:World}(h:FS H bb bo N pa pl pc cR cD w)(r:Rly H.ty H.Wg (See0 H mine) w w₁):FS H bb bo N pa pl pc cR cD w₁:=
 ⟨r.live h.live,fun z hz=>(cell_of_block (r.row _ (.inl h.ob)) _).trans (h.cell z hz),(cell_of_block (r.row _ (.inl h.oR)) _).trans h.chR,(cell_of_block (r.row _ (.inl h.oD)) _).trans h.chD,h.ob,h.oR,h.oD,by have:=h.lo;have:=r.size;omega,Nat.le_trans h.b0 r.size,fun b hb=>⟨Nat.lt_of_lt_of_le (h.bas b hb).1 r.size,(r.row b (.inl hb)).trans (h.bas b hb).2⟩⟩
theorem FS.alloc{H:Ph}{bb bo N:Nat}{pa:Nat->Option Addr}{pl pc:Nat->Nat}{cR cD:Nat}{w:World}(h:FS H bb bo N pa pl pc cR cD w)(o:Obj):FS H bb bo N pa pl pc cR cD (w.alloc o):=by
 have e0:(w.alloc o).heap=w.heap.push o:=rfl;have e1:∀b,b<w.heap.size->(w.alloc o).heap[b]? =w.heap[b]? :=fun b hb=>by rw[e0,Array.getElem?_push,if_neg (by omega)]
 obtain⟨l1,l2,l3,l4⟩:=h.lo;exact⟨let⟨st,sm,hl⟩:=h.live;⟨st,sm,(e1 _ l4).trans hl⟩,fun z hz=>(cell_of_block (e1 _ l1) _).trans (h.cell z hz),(cell_of_block (e1 _ l2) _).trans h.chR,(cell_of_block (e1 _ l3) _).trans h.chD,h.ob,h.oR,h.oD,by rw[e0];simp;omega,by have:=h.b0;rw[e0];simp;omega,fun b hb=>⟨by have:=(h.bas b hb).1;rw[e0];simp;omega,(e1 b (h.bas b hb).1).trans (h.bas b hb).2⟩⟩
theorem row_new(w:World)(o:Obj):(w.alloc o).heap[w.heap.size]? =some o:=by
 have e0:(w.alloc o).heap=w.heap.push o:=rfl;rw[e0];simp
theorem row_alloc{w:World}{o x:Obj}{b:Nat}(h:w.heap[b]? =some x):(w.alloc o).heap[b]? =some x:=by
 have e0:(w.alloc o).heap=w.heap.push o:=rfl;have hb:b<w.heap.size:=(Array.getElem?_eq_some_iff.1 h).1;rw[e0,Array.getElem?_push,if_neg (by omega)];exact h
theorem FS.set{H:Ph}{bb bo N:Nat}{pa:Nat->Option Addr}{pl pc:Nat->Nat}{cR cD:Nat}{w:World}(h:FS H bb bo N pa pl pc cR cD w)(a:Addr)(v:Value)(hb:a.block≠bb)(hR:a.block≠cR)(hD:a.block≠cD)(hW:a.block≠H.Wg)(ho:¬H.old a.block):FS H bb bo N pa pl pc cR cD (w.setCell a v):=by
 have e1:∀b,a.block≠b->(w.setCell a v).heap[b]? =w.heap[b]? :=fun b hb=>by simp[World.setCell,Array.getElem?_modify,hb]
 exact⟨let⟨st,sm,hl⟩:=h.live;⟨st,sm,(e1 _ hW).trans hl⟩,fun z hz=>(cell_of_block (e1 _ hb) _).trans (h.cell z hz),(cell_of_block (e1 _ hR) _).trans h.chR,(cell_of_block (e1 _ hD) _).trans h.chD,h.ob,h.oR,h.oD,by simpa[World.setCell]using h.lo,by simpa[World.setCell]using h.b0,fun b hb=>⟨by simpa[World.setCell]using(h.bas b hb).1,(e1 b fun e=>ho (e▸hb)).trans (h.bas b hb).2⟩⟩
theorem row_set{w:World}{b t:Nat}{x v:Value}(h:w.heap[b]? =some (.cells #[x] t)):(w.setCell ⟨b,0,none⟩ v).heap[b]? =some (.cells #[v] t):=by
 simp[World.setCell,Array.getElem?_modify,h]
theorem row_other{w:World}{b c t:Nat}{x v:Value}(hc:c≠b)(h:w.heap[b]? =some (.cells #[x] t)):(w.setCell ⟨c,0,none⟩ v).heap[b]? =some (.cells #[x] t):=by
 simp[World.setCell,Array.getElem?_modify,h,hc]
theorem row_cell{w:World}{b t:Nat}{x:Value}(h:w.heap[b]? =some (.cells #[x] t)):w.cell? ⟨b,0,none⟩=some x/\w.frozen? ⟨b,0,none⟩=false:=by
 simp[World.cell?,World.frozen?,h]
theorem adds'{Wg:Nat}{b₀:Frame}{a₀:Act}{ops₀:Array Oper}{i₀:Nat}{rest₀:List Nat}{k₀:List Item}{cs:List Frame}(w:World)(hF:WgLive link.tWg Wg w){args:Array Operand}(ha:args.map a₀.eval=#[.pointer (some ⟨Wg,0,none⟩),.int .i64 1]):
  Adds Try.prog link.tWg Wg (fun g _=>g=G (b₀.at (a₀.put ((ops₀[i₀]?).bind (·.dst)) (.tuple #[])) (.inRegion ops₀ rest₀::k₀)) cs)
   (G ((base link.add).at {tmps:=args.map a₀.eval++Array.replicate ((addFn link).ntmps-(args.map a₀.eval).size) undef,defers:= []} [.code (body_add link)]) (b₀.at a₀ (.inRegion ops₀ (i₀::rest₀)::k₀)::cs)) w:=by
 have hA:=adds (P:=Try.prog) (L:=link) (b₀:=b₀) (a₀:=a₀) (ops₀:=ops₀) (i₀:=i₀) (rest₀:=rest₀) (k₀:=k₀) (cs:=cs) wgLib w hF;rw[enter_at _ wgLib.f_add rfl]at hA;rw[ha];exact hA
structure FZ(H:Ph)(bb cR cD cz cp z:Nat)(pz:Value)(w:World):Prop where
 z:w.heap[cz]? =some (.cells #[.int .i64 z] 3)
 p:w.heap[cp]? =some (.cells #[pz] 33)
 zp:cz≠cp
 zn:cz≠bb/\cz≠cR/\cz≠cD/\cz≠H.Wg
 pn:cp≠bb/\cp≠cR/\cp≠cD/\cp≠H.Wg
 zo:¬H.old cz/\H.B0<=cz
 po:¬H.old cp/\H.B0<=cp
set_option maxRecDepth 100000 in
set_option maxHeartbeats 4000000 in
theorem round_add{H:Ph}(hP:H.P=Try.prog)(hty:H.ty=link.tWg){Next:(Nat->Prop)->Goroutine->World->Prop}{mine:Nat->Prop}{cs:List Frame}{bb bo N cap cR cD z:Nat}{cS:Addr}{pa:Nat->Option Addr}{pl pc:Nat->Nat}(hz:z<N){v0 j1 j2 j4 j5 j9 j10 j11 j12 j13 j14 j18 j19 j20 j21 j22 j23 j24 j25 j26 j27 j28 j29 j30 j31 j32 j33 j34 j35 j36:Value}(hv0:v0= .slice (some ⟨bb,bo,none⟩) N cap)
  (hNext:∀(cz cp:Nat) (w:World),FS H bb bo N pa pl pc cR cD w->FZ H bb cR cD cz cp z (.slice (pa z) (pl z) (pc z)) w->Next (fun b=>(mine b\/b=cz)\/b=cp) (G ((base 67).at ⟨#[v0,j1,j2,.pointer (some cS),j4,j5,.pointer (some ⟨cR,0,none⟩),.pointer (some ⟨cD,0,none⟩),.pointer (some ⟨H.Wg,0,none⟩),.pointer (some ⟨cz,0,none⟩),.pointer (some ⟨cp,0,none⟩),j11,j12,j13,j14,v0,.int .i64 N,.int .i64 z,.bool true,.int .i64 z,.pointer (some ⟨bb,bo+z,none⟩),.slice (pa z) (pl z) (pc z),.tuple #[],j23,j24,j25,j26,j27,j28,j29,j30,j31,j32,j33,j34,j35,j36],[]⟩ [.inRegion (qV (qT 1 (unblk (qT 2 (loopC (qT 1 (qT 4 (Try.f67.body.getD .skip)))))))) [],.code (dropC 2 (unblk (qT 2 (loopC (qT 1 (qT 4 (Try.f67.body.getD .skip))))))),.inBlock 1,.code (dropC 3 (loopC (qT 1 (qT 4 (Try.f67.body.getD .skip))))),.inLoop (loopC (qT 1 (qT 4 (Try.f67.body.getD .skip)))),.inBlock 0,.code (dropC 5 (Try.f67.body.getD .skip))]) cs) w){w:World}(hF:FS H bb bo N pa pl pc cR cD w):
  ∃n,SGo H (AtCall H Next) n mine (G ((base 67).at ⟨#[v0,j1,j2,.pointer (some cS),j4,j5,.pointer (some ⟨cR,0,none⟩),.pointer (some ⟨cD,0,none⟩),.pointer (some ⟨H.Wg,0,none⟩),j9,j10,j11,j12,j13,j14,v0,.int .i64 N,.int .i64 z,j18,j19,j20,j21,j22,j23,j24,j25,j26,j27,j28,j29,j30,j31,j32,j33,j34,j35,j36],[]⟩ [.code (loopC (qT 1 (qT 4 (Try.f67.body.getD .skip)))),.inLoop (loopC (qT 1 (qT 4 (Try.f67.body.getD .skip)))),.inBlock 0,.code (dropC 5 (Try.f67.body.getD .skip))]) cs) w:=by
 refine⟨40,?_⟩;subst hv0;simp only[Try.f67,Option.getD_some,qT,dropC,loopC,unblk,qV]at hNext⊢;have hzi:(z:Int)<(N:Int):=by omega
 refine SGo.ctl hP rfl (fun _=>stepG_seq) ?_;refine SGo.reg hP (todo:= [0]) rfl ?_;refine SGo.op hP rfl rfl (by decide) (fun w h₁=>⟨mine,fun K hK=>?_⟩);replace hF:=FS.rely hF h₁;clear h₁;go_simp;refine hK _ _ ⟨.nothing (listed_nil (by simp[go_sem])),?_⟩;clear hK;try walk_nrm
 refine SGo.ctl hP rfl (fun _=>stepG_region_end) ?_;refine SGo.ctl hP rfl (fun _=>stepG_seq) ?_;refine SGo.yes hP (by first|rfl|simp[Act.eval]) ?_;refine SGo.ctl hP rfl (fun _=>stepG_skip) ?_;refine SGo.ctl hP rfl (fun _=>stepG_seq) ?_;refine SGo.ctl hP rfl (fun _=>stepG_block) ?_;refine SGo.ctl hP rfl (fun _=>stepG_seq) ?_;refine SGo.reg hP (todo:= [0,1,2,3,4,5,6]) rfl ?_;refine SGo.op hP rfl rfl (by decide) (fun w h₁=>⟨mine,fun K hK=>?_⟩);replace hF:=FS.rely hF h₁;clear h₁;go_simp;refine hK _ _ ⟨.nothing (listed_nil (by simp[go_sem])),?_⟩;clear hK;try walk_nrm
 refine SGo.op hP rfl rfl (by decide) (fun w h₁=>⟨mine,fun K hK=>?_⟩);replace hF:=FS.rely hF h₁;clear h₁;go_simp;refine hK _ _ ⟨.nothing (listed_nil (by simp[go_sem,hzi])),?_⟩;clear hK;try walk_nrm
 refine SGo.op hP rfl rfl (by decide) (fun w h₁=>⟨mine,fun K hK=>?_⟩);replace hF:=FS.rely hF h₁;clear h₁;have hc:=hF.cell z hz;go_simp;refine hK _ _ ⟨.reads (c:=bb) (i:=bo+z) (fun e he=>by have hm:=mem_listed he;simp[go_sem,hc]at hm;exact hm) (.inl hF.ob),?_⟩;clear hK;try walk_nrm
 refine SGo.op hP rfl rfl (by decide) (fun w h₁=>⟨fun b=>mine b\/b=w.heap.size,fun K hK=>?_⟩);replace hF:=FS.rely hF h₁;clear h₁;go_simp;refine hK _ _ ⟨.makes (fun e he=>by have hm:=mem_listed he;simp[go_sem]at hm),?_⟩;clear hK;have hl:=hF.lo;have hbb:=hF.bas;have hB0:=hF.b0;have hZ:=row_new w (.cells #[.int .i64 0] 3);replace hF:=FS.alloc hF (.cells #[.int .i64 0] 3);generalize w.alloc (.cells #[.int .i64 0] 3)=w0 at hF hZ⊢;obtain⟨cz,hcz⟩:∃cz,cz=w.heap.size:=⟨_,rfl⟩;rw[<-hcz]at hZ⊢;have hzn:cz≠bb/\cz≠cR/\cz≠cD/\cz≠H.Wg:=by omega
 have hzo:¬H.old cz/\H.B0<=cz:=⟨fun h=>by have:=(hbb cz h).1;omega,by omega⟩;clear hl hcz hbb hB0;try walk_nrm
 refine SGo.op hP rfl rfl (by decide) (fun w h₁=>⟨fun b=>(mine b\/b=cz)\/b=w.heap.size,fun K hK=>?_⟩);replace hF:=FS.rely hF h₁;replace hZ:=(h₁.row cz (.inr (.inr rfl))).trans hZ;clear h₁;go_simp;refine hK _ _ ⟨.makes (fun e he=>by have hm:=mem_listed he;simp[go_sem]at hm),?_⟩;clear hK;have hl:=hF.lo;have hbb:=hF.bas;have hB0:=hF.b0;have hlz:cz<w.heap.size:=(Array.getElem?_eq_some_iff.1 hZ).1;have hQ:=row_new w (.cells #[.slice none 0 0] 33);replace hZ:=row_alloc (o:=.cells #[.slice none 0 0] 33) hZ;replace hF:=FS.alloc hF (.cells #[.slice none 0 0] 33);generalize w.alloc (.cells #[.slice none 0 0] 33)=w0 at hF hZ hQ⊢;obtain⟨cp,hcp⟩:∃cp,cp=w.heap.size:=⟨_,rfl⟩;rw[<-hcp]at hQ⊢;have hpn:cp≠bb/\cp≠cR/\cp≠cD/\cp≠H.Wg:=by omega
 have hzp:cz≠cp:=by omega
 have hpo:¬H.old cp/\H.B0<=cp:=⟨fun h=>by have:=(hbb cp h).1;omega,by omega⟩;clear hl hlz hcp hbb hB0;try walk_nrm
 refine SGo.op hP rfl rfl (by decide) (fun w h₁=>⟨fun b=>(mine b\/b=cz)\/b=cp,fun K hK=>?_⟩);replace hF:=FS.rely hF h₁;replace hZ:=(h₁.row cz (.inr (.inl (.inr rfl)))).trans hZ;replace hQ:=(h₁.row cp (.inr (.inr rfl))).trans hQ;clear h₁;obtain⟨hc1,hc2⟩:=row_cell hZ;go_simp;try (unfold stored;go_simp)
 refine hK _ _ ⟨.writes (c:=cz) (i:=0) (fun e he=>by have hm:=mem_listed he;simp[go_sem,hc1,hc2]at hm;exact hm) (.inl (.inr rfl)),?_⟩;clear hK hc1 hc2;replace hF:=FS.set hF ⟨cz,0,none⟩ (.int .i64 z) hzn.1 hzn.2.1 hzn.2.2.1 hzn.2.2.2 hzo.1;replace hQ:=row_other (v:=.int .i64 z) hzp hQ;replace hZ:=row_set (v:=.int .i64 z) hZ;generalize w.setCell ⟨cz,0,none⟩ (.int .i64 z)=w0 at hF hZ hQ⊢;try walk_nrm
 refine SGo.op hP rfl rfl (by decide) (fun w h₁=>⟨fun b=>(mine b\/b=cz)\/b=cp,fun K hK=>?_⟩);replace hF:=FS.rely hF h₁;replace hZ:=(h₁.row cz (.inr (.inl (.inr rfl)))).trans hZ;replace hQ:=(h₁.row cp (.inr (.inr rfl))).trans hQ;clear h₁;obtain⟨hc1,hc2⟩:=row_cell hQ;go_simp;try (unfold stored;go_simp)
 refine hK _ _ ⟨.writes (c:=cp) (i:=0) (fun e he=>by have hm:=mem_listed he;simp[go_sem,hc1,hc2]at hm;exact hm) (.inr rfl),?_⟩;clear hK hc1 hc2;replace hF:=FS.set hF ⟨cp,0,none⟩ (.slice (pa z) (pl z) (pc z)) hpn.1 hpn.2.1 hpn.2.2.1 hpn.2.2.2 hpo.1;replace hZ:=row_other (v:=.slice (pa z) (pl z) (pc z)) (Ne.symm hzp) hZ;replace hQ:=row_set (v:=.slice (pa z) (pl z) (pc z)) hQ;generalize w.setCell ⟨cp,0,none⟩ (.slice (pa z) (pl z) (pc z))=w0 at hF hZ hQ⊢;try walk_nrm
 refine SGo.ctl hP rfl (fun _=>stepG_region_end) ?_;refine SGo.ctl hP rfl (fun _=>stepG_seq) ?_;refine SGo.reg hP (todo:= [0]) rfl ?_;refine SGo.call hP rfl rfl (by decide) rfl wgLib.f_add (nm_add link) rfl ?_;refine SGo.stop (fun w h₁=>?_);replace hF:=FS.rely hF h₁;replace hZ:=(h₁.row cz (.inr (.inl (.inr rfl)))).trans hZ;replace hQ:=(h₁.row cp (.inr (.inr rfl))).trans hQ;clear h₁;refine⟨_,by rw[hP,hty];exact adds' w (hty▸hF.live) (by simp[Act.eval]),fun w h₁=>?_⟩;replace hF:=FS.rely hF h₁;replace hZ:=(h₁.row cz (.inr (.inl (.inr rfl)))).trans hZ;replace hQ:=(h₁.row cp (.inr (.inr rfl))).trans hQ;clear h₁;try walk_nrm
 exact hNext cz cp w hF ⟨hZ,hQ,hzp,hzn,hpn,hzo,hpo⟩
theorem spw_pre[Payload]{H:Ph}{r k:Nat}{mine:Nat->Prop}{g1 g2:Goroutine}{w:World}(h:∀Stop n,SGo H Stop n mine g2 w->SGo H Stop (n+k) mine g1 w)(hs:Spw H r mine g2 w):Spw H r mine g1 w:=by
 cases r with
 |zero=>obtain⟨n,hn⟩:=hs;exact⟨n+k,h _ _ hn⟩
 |succ r=>obtain⟨n,hn⟩:=hs;exact⟨n+k,h _ _ hn⟩
def Born[Payload](H:Ph)(cR cD:Nat)(cS:Addr)(z cz cp:Nat)(w:World):Prop:=
 ∃d:WX,d.ws=22/\d.df=0/\d.gu=false/\WS H z d (born H.P (wCall #[⟨H.Wg,0,none⟩,⟨cp,0,none⟩,cS,⟨cD,0,none⟩,⟨cR,0,none⟩,⟨cz,0,none⟩])) w/\(∀c,¬d.ow c)/\(∀c,d.vs c->H.old c\/c=cz\/c=cp)/\d.vs d.C/\d.C=cz
set_option maxRecDepth 100000 in
set_option maxHeartbeats 4000000 in
theorem starts[Payload]{H:Ph}(hP:H.P=Try.prog)(hty:H.ty=link.tWg){cs:List Frame}{bb bo cap cR cD:Nat}{cS:Addr}{pa:Nat->Option Addr}{pl pc:Nat->Nat}(hN:H.N<2147483648){v0:Value}(hv0:v0= .slice (some ⟨bb,bo,none⟩) H.N cap)
  (hborn:∀(z cz cp:Nat) (w:World),z<H.N->FS H bb bo H.N pa pl pc cR cD w->FZ H bb cR cD cz cp z (.slice (pa z) (pl z) (pc z)) w->Born H cR cD cS z cz cp w)
  (hcol:∀(j1 j2 j4 j5 j9 j10 j11 j12 j13 j14 j18 j19 j20 j21 j22 j23 j24 j25 j26 j27 j28 j29 j30 j31 j32 j33 j34 j35 j36:Value) (w:World),FS H bb bo H.N pa pl pc cR cD w->∃n,SGo H (fun m g w=>StopC H H.N (fun _=>none) m g w\/AtClose H (fun _=>none) m g w) n (fun _=>False) (G ((base 67).at ⟨#[v0,j1,j2,.pointer (some cS),j4,j5,.pointer (some ⟨cR,0,none⟩),.pointer (some ⟨cD,0,none⟩),.pointer (some ⟨H.Wg,0,none⟩),j9,j10,j11,j12,j13,j14,v0,.int .i64 H.N,.int .i64 H.N,j18,j19,j20,j21,j22,j23,j24,j25,j26,j27,j28,j29,j30,j31,j32,j33,j34,j35,j36],[]⟩ [.code (loopC (qT 1 (qT 4 (Try.f67.body.getD .skip)))),.inLoop (loopC (qT 1 (qT 4 (Try.f67.body.getD .skip)))),.inBlock 0,.code (dropC 5 (Try.f67.body.getD .skip))]) cs) w):
  ∀(r z:Nat),z+r=H.N->∀(j1 j2 j4 j5 j9 j10 j11 j12 j13 j14 j18 j19 j20 j21 j22 j23 j24 j25 j26 j27 j28 j29 j30 j31 j32 j33 j34 j35 j36:Value) (w:World),FS H bb bo H.N pa pl pc cR cD w->Spw H r (fun _=>False) (G ((base 67).at ⟨#[v0,j1,j2,.pointer (some cS),j4,j5,.pointer (some ⟨cR,0,none⟩),.pointer (some ⟨cD,0,none⟩),.pointer (some ⟨H.Wg,0,none⟩),j9,j10,j11,j12,j13,j14,v0,.int .i64 H.N,.int .i64 z,j18,j19,j20,j21,j22,j23,j24,j25,j26,j27,j28,j29,j30,j31,j32,j33,j34,j35,j36],[]⟩ [.code (loopC (qT 1 (qT 4 (Try.f67.body.getD .skip)))),.inLoop (loopC (qT 1 (qT 4 (Try.f67.body.getD .skip)))),.inBlock 0,.code (dropC 5 (Try.f67.body.getD .skip))]) cs) w:=by
 subst hv0;intro r;induction r with
 |zero=>
  intro z hz j1 j2 j4 j5 j9 j10 j11 j12 j13 j14 j18 j19 j20 j21 j22 j23 j24 j25 j26 j27 j28 j29 j30 j31 j32 j33 j34 j35 j36 w hF;obtain rfl:z=H.N:=by omega
  exact hcol j1 j2 j4 j5 j9 j10 j11 j12 j13 j14 j18 j19 j20 j21 j22 j23 j24 j25 j26 j27 j28 j29 j30 j31 j32 j33 j34 j35 j36 w hF
 |succ r ih=>
  intro z hz j1 j2 j4 j5 j9 j10 j11 j12 j13 j14 j18 j19 j20 j21 j22 j23 j24 j25 j26 j27 j28 j29 j30 j31 j32 j33 j34 j35 j36 w hF;have hzN:z<H.N:=by omega
  refine round_add hP hty hzN rfl (fun cz cp w hF hZ=>?_) hF;have hjz:H.N-(r+1)=z:=by omega
  rw[hjz];simp only[Try.f67,Option.getD_some,qT,dropC,loopC,unblk,qV]at ih⊢;refine⟨5,?_⟩;refine SGo.ctl hP rfl (fun _=>stepG_region_end) ?_;refine SGo.reg hP (todo:= [0,1]) rfl ?_;refine SGo.op hP rfl rfl (by decide) (fun w h₁=>⟨fun b=>(False\/b=cz)\/b=cp,fun K hK=>?_⟩);replace hF:=FS.rely hF h₁;replace hZ:FZ H bb cR cD cz cp z (.slice (pa z) (pl z) (pc z)) w:=⟨(h₁.row cz (.inr (.inl (.inr rfl)))).trans hZ.z,(h₁.row cp (.inr (.inr rfl))).trans hZ.p,hZ.zp,hZ.zn,hZ.pn,hZ.zo,hZ.po⟩;clear h₁;go_simp;refine hK _ _ ⟨.nothing (listed_nil (by simp[go_sem])),?_⟩;clear hK;try walk_nrm
  refine SGo.stop (fun w h₁=>?_);replace hF:=FS.rely hF h₁;replace hZ:FZ H bb cR cD cz cp z (.slice (pa z) (pl z) (pc z)) w:=⟨(h₁.row cz (.inr (.inl (.inr rfl)))).trans hZ.z,(h₁.row cp (.inr (.inr rfl))).trans hZ.p,hZ.zp,hZ.zn,hZ.pn,hZ.zo,hZ.po⟩;clear h₁;obtain⟨d,h1,h2,h3,h4,h5,h6,h7,h8⟩:=hborn z cz cp w hzN hF hZ;rw[hP]at h4;refine⟨rfl,(G ((base 67).at ⟨#[.slice (some ⟨bb,bo,none⟩) H.N cap,j1,j2,.pointer (some cS),j4,j5,.pointer (some ⟨cR,0,none⟩),.pointer (some ⟨cD,0,none⟩),.pointer (some ⟨H.Wg,0,none⟩),.pointer (some ⟨cz,0,none⟩),.pointer (some ⟨cp,0,none⟩),j11,j12,j13,j14,.slice (some ⟨bb,bo,none⟩) H.N cap,.int .i64 H.N,.int .i64 z,.bool true,.int .i64 z,.pointer (some ⟨bb,bo+z,none⟩),.slice (pa z) (pl z) (pc z),.tuple #[],.func (.func 83) #[] #[.pointer (some ⟨H.Wg,0,none⟩),.pointer (some ⟨cp,0,none⟩),.pointer (some cS),.pointer (some ⟨cD,0,none⟩),.pointer (some ⟨cR,0,none⟩),.pointer (some ⟨cz,0,none⟩)],j24,j25,j26,j27,j28,j29,j30,j31,j32,j33,j34,j35,j36],[]⟩ [.inRegion (qV (dropC 2 (unblk (qT 2 (loopC (qT 1 (qT 4 (Try.f67.body.getD .skip)))))))) [],.inBlock 1,.code (dropC 3 (loopC (qT 1 (qT 4 (Try.f67.body.getD .skip))))),.inLoop (loopC (qT 1 (qT 4 (Try.f67.body.getD .skip)))),.inBlock 0,.code (dropC 5 (Try.f67.body.getD .skip))]) cs),born Try.prog (wCall #[⟨H.Wg,0,none⟩,⟨cp,0,none⟩,cS,⟨cD,0,none⟩,⟨cR,0,none⟩,⟨cz,0,none⟩]),d,fun _=>False,?_,h1,h2,h3,h4,h5,fun c hc=>(h6 c hc).imp id fun h=>h.elim (fun h=>.inl (.inr h)) .inr,fun _ _ h=>h,h7,by rw[h8];exact .inl (.inr rfl),fun _ h=>h.elim,?_⟩
  ·rw[hP];refine Eq.trans (stepG_spawn (d:=wCall #[⟨H.Wg,0,none⟩,⟨cp,0,none⟩,cS,⟨cD,0,none⟩,⟨cR,0,none⟩,⟨cz,0,none⟩]) (w':=w) rfl rfl (by decide) (by simp[go_sem,wCall]) rfl) ?_;rw[listed_nil (by simp[go_sem])];rfl
  ·have hw1:IntKind.i64.wrap ((z:Int)+1)=(z:Int)+1:=wrap_in _ (by omega) (by omega);refine spw_pre (k:=7) (fun Stop n hh=>?_) (ih (z+1) (by omega) (j1) (j2) (j4) (j5) (.pointer (some ⟨cz,0,none⟩)) (.pointer (some ⟨cp,0,none⟩)) (j11) (j12) (j13) (j14) (.bool true) (.int .i64 z) (.pointer (some ⟨bb,bo+z,none⟩)) (.slice (pa z) (pl z) (pc z)) (.tuple #[]) (.func (.func 83) #[] #[.pointer (some ⟨H.Wg,0,none⟩),.pointer (some ⟨cp,0,none⟩),.pointer (some cS),.pointer (some ⟨cD,0,none⟩),.pointer (some ⟨cR,0,none⟩),.pointer (some ⟨cz,0,none⟩)]) (.int .i64 ((z:Int)+1)) (j25) (j26) (j27) (j28) (j29) (j30) (j31) (j32) (j33) (j34) (j35) (j36) w hF);refine SGo.ctl hP rfl (fun _=>stepG_region_end) ?_;refine SGo.ctl hP rfl (fun _=>stepG_inBlock) ?_;refine SGo.reg hP (todo:= [0,1]) rfl ?_;refine SGo.op hP rfl rfl (by decide) (fun w h₁=>⟨fun _=>False,fun K hK=>?_⟩);replace hh:=SGo.rely hh h₁;clear h₁;go_simp;refine hK _ _ ⟨.nothing (listed_nil (by simp[go_sem])),?_⟩;clear hK;try walk_nrm
   refine SGo.op hP rfl rfl (by decide) (fun w h₁=>⟨fun _=>False,fun K hK=>?_⟩);replace hh:=SGo.rely hh h₁;clear h₁;go_simp;refine hK _ _ ⟨.nothing (listed_nil (by simp[go_sem])),?_⟩;clear hK;try walk_nrm
   refine SGo.ctl hP rfl (fun _=>stepG_region_end) ?_;refine SGo.ctl hP rfl (fun _=>stepG_inLoop) ?_;exact hh
end Go.Proofs.Ytmfpiodlecapiaa
namespace Go.Proofs.Ytmfpiodlecapiaa
open Go.Ren Go.Frag
def slots:FuncId->List (Nat×Nat)
 |67=> [(30,1),(25,1),(3,2),(6,2),(7,2),(8,2),(9,2),(10,2),(20,2),(23,2),(22,1),(33,1)]
 |83=> [(0,2),(1,2),(2,2),(3,2),(4,2),(5,2),(12,1),(8,1),(19,1),(21,1)]
 |85=> [(45,2),(53,2),(68,2),(74,2),(79,2)]
 |86=> [(16,1),(9,2),(17,2),(22,2),(24,2),(26,2)]
 |88=> [(20,2),(46,2),(66,2),(74,2),(33,3),(53,3)]
 |93=> [(13,2),(19,2),(28,2)]
 |109=> [(13,2)]
 |110=> [(24,2),(42,2),(52,1)]
 |111=> [(14,2),(21,2),(31,2),(40,2),(25,1),(43,1)]
 |122=> [(4,4)]
 |123=> [(11,2),(20,2)]
 |_=> []
def kls(f:FuncId)(s:Nat):Nat:=((slots f).lookup s).getD 0
def inside(f:FuncId):Bool:= [88,93,94,108,109,110,123,33,32,54,55].contains f
def qG(f:FuncId):Bool:=f==117
theorem ok_AddTimes:funB Try.prog qG inside (kls 93) Try.f93=true:=by kernel_rfl
theorem ok_Weight:funB Try.prog qG inside (kls 94) Try.f94=true:=by kernel_rfl
theorem ok_Clone:funB Try.prog qG inside (kls 108) Try.f108=true:=by kernel_rfl
theorem ok_which:funB Try.prog qG inside (kls 109) Try.f109=true:=by kernel_rfl
theorem ok_equation:funB Try.prog qG inside (kls 110) Try.f110=true:=by kernel_rfl
theorem ok_scale:funB Try.prog qG inside (kls 123) Try.f123=true:=by kernel_rfl
theorem ok_Inverse:funB Try.prog qG inside (kls 33) Try.f33=true:=by kernel_rfl
theorem ok_Mul:funB Try.prog qG inside (kls 32) Try.f32=true:=by kernel_rfl
theorem ok_Add:funB Try.prog qG inside (kls 54) Try.f54=true:=by kernel_rfl
theorem ok_double:funB Try.prog qG inside (kls 55) Try.f55=true:=by kernel_rfl
theorem ok_Join:funB Try.prog qG inside (kls 88) Try.f88=true:=by kernel_rfl
theorem digits_all{ρ:Array Nat}:∀(n t:Nat) {acc:Array Value},AllR ρ acc acc->AllR ρ (Extern.BytealgMakeNoZero.digits n t acc) (Extern.BytealgMakeNoZero.digits n t acc)
 |0,_,_,h=>h
 |n+1,t,_,h=>digits_all n (t/256) (h.push (.int _ _))
theorem sr_makeNoZero{P:Program}{ρ:Array Nat}(ps rs:Array TypeId){xs ys:Array Value}(h:AllR ρ xs ys):SR P (CRR 0) ρ (Extern.BytealgMakeNoZero.makeNoZero ps rs xs) (Extern.BytealgMakeNoZero.makeNoZero ps rs ys):=by
 rcases Classical.em (∃n,xs=#[.int .i64 n])with⟨n,rfl⟩|hn
 ·have hs:ys.size=1:=by rw[<-h.1];rfl
  obtain⟨v,hv,hsv⟩:=h.get (i:=0) (v:=.int .i64 n) rfl;obtain rfl:ys=#[v]:=by
   apply Array.ext_getElem?;intro i;cases i with
   |zero=>rw[hv];rfl
   |succ i=>rw[Array.getElem?_eq_none (by omega)];simp
  cases hsv;unfold Extern.BytealgMakeNoZero.makeNoZero;dsimp only;cases rs[0]? with
  |none=>exact qF
  |some t=>
   dsimp only;refine(sr_underlying t).seq fun ρ1 d d' e1 hd=>?_;replace hd:=hd.1;subst hd;cases d<;>first
    |exact qF
    |(refine sr_ite (fun _=>SR.die (sr_rtError _)) (fun _=>?_)
      refine sr_choose fun cap=>?_;refine(sr_askRoom _).seq fun ρ2 _ _ e2 _=>?_;refine sr_choose fun b=>?_;refine(sr_newRow _ (digits_all cap b AllR.empty)).seq fun ρ3 x y e3 hx=>?_;exact SR.ret (SV.sl _ _ hx))
 ·have key:Extern.BytealgMakeNoZero.makeNoZero ps rs xs=stuck "bytealg.MakeNoZero: an int expected" :=by
   obtain⟨l⟩:=xs;match l,hn with
   | [],_=>rfl
   |[x],hn=>
    cases x with
    |int k n=>cases k<;>first|rfl|exact absurd ⟨_,rfl⟩ hn
    |_=>rfl
   |_::_::_,_=>rfl
  rw[key];exact qF
theorem find_none:Extern.findNext Try.f117=none:=by rfl
theorem find_some:Extern.find Try.f117=some (Extern.BytealgMakeNoZero.makeNoZero Try.f117.params Try.f117.resultTypes):=by rfl
theorem closed:Closed Try.prog qG inside kls:=by
 refine⟨fun f hf ρ xs ys ha=>?_,fun f hf fn hfn=>?_,fun f hf=>?_⟩
 ·obtain rfl:f=117:=by simpa[qG]using hf
  unfold callFunc;refine sr_program ?_;rw[Try.func117];have h1:(Try.f117.name== "runtime.NumGoroutine")=false:=by kernel_rfl
  have h2:Try.f117.body.isNone=true:=by kernel_rfl
  simp only[h1,h2,Bool.false_eq_true,if_false,if_true,find_none,find_some];refine SR.mark trivial ?_;exact(sr_makeNoZero _ _ ha).seq fun ρ1 v v' e hv=>SR.ret ⟨v,v',rfl,rfl,hv⟩
 ·simp only[inside,List.contains_eq_mem,List.mem_cons,List.not_mem_nil,or_false,decide_eq_true_eq]at hf;rcases hf with rfl|rfl|rfl|rfl|rfl|rfl|rfl|rfl|rfl|rfl|rfl
  ·rw[Try.func88]at hfn;obtain rfl:=Option.some.inj hfn;exact ok_Join
  ·rw[Try.func93]at hfn;obtain rfl:=Option.some.inj hfn;exact ok_AddTimes
  ·rw[Try.func94]at hfn;obtain rfl:=Option.some.inj hfn;exact ok_Weight
  ·rw[Try.func108]at hfn;obtain rfl:=Option.some.inj hfn;exact ok_Clone
  ·rw[Try.func109]at hfn;obtain rfl:=Option.some.inj hfn;exact ok_which
  ·rw[Try.func110]at hfn;obtain rfl:=Option.some.inj hfn;exact ok_equation
  ·rw[Try.func123]at hfn;obtain rfl:=Option.some.inj hfn;exact ok_scale
  ·rw[Try.func33]at hfn;obtain rfl:=Option.some.inj hfn;exact ok_Inverse
  ·rw[Try.func32]at hfn;obtain rfl:=Option.some.inj hfn;exact ok_Mul
  ·rw[Try.func54]at hfn;obtain rfl:=Option.some.inj hfn;exact ok_Add
  ·rw[Try.func55]at hfn;obtain rfl:=Option.some.inj hfn;exact ok_double
 ·simp only[inside,List.contains_eq_mem,List.mem_cons,List.not_mem_nil,or_false,decide_eq_true_eq]at hf;rcases hf with rfl|rfl|rfl|rfl|rfl|rfl|rfl|rfl|rfl|rfl|rfl
  ·exact⟨_,Try.func88⟩
  ·exact⟨_,Try.func93⟩
  ·exact⟨_,Try.func94⟩
  ·exact⟨_,Try.func108⟩
  ·exact⟨_,Try.func109⟩
  ·exact⟨_,Try.func110⟩
  ·exact⟨_,Try.func123⟩
  ·exact⟨_,Try.func33⟩
  ·exact⟨_,Try.func32⟩
  ·exact⟨_,Try.func54⟩
  ·exact⟨_,Try.func55⟩
def inside2(f:FuncId):Bool:=inside f|| [85,111,122].contains f
def outside2(f:FuncId):Bool:=qG f||f==1000000
theorem ok2_block:funB Try.prog outside2 inside2 (kls 85) Try.f85=true:=by kernel_rfl
theorem ok2_solve:funB Try.prog outside2 inside2 (kls 111) Try.f111=true:=by kernel_rfl
theorem ok2_givenUp:funB Try.prog outside2 inside2 (kls 122) Try.f122=true:=by kernel_rfl
theorem ok2_AddTimes:funB Try.prog outside2 inside2 (kls 93) Try.f93=true:=by kernel_rfl
theorem ok2_Weight:funB Try.prog outside2 inside2 (kls 94) Try.f94=true:=by kernel_rfl
theorem ok2_Clone:funB Try.prog outside2 inside2 (kls 108) Try.f108=true:=by kernel_rfl
theorem ok2_which:funB Try.prog outside2 inside2 (kls 109) Try.f109=true:=by kernel_rfl
theorem ok2_equation:funB Try.prog outside2 inside2 (kls 110) Try.f110=true:=by kernel_rfl
theorem ok2_scale:funB Try.prog outside2 inside2 (kls 123) Try.f123=true:=by kernel_rfl
theorem ok2_Inverse:funB Try.prog outside2 inside2 (kls 33) Try.f33=true:=by kernel_rfl
theorem ok2_Mul:funB Try.prog outside2 inside2 (kls 32) Try.f32=true:=by kernel_rfl
theorem ok2_Add:funB Try.prog outside2 inside2 (kls 54) Try.f54=true:=by kernel_rfl
theorem ok2_double:funB Try.prog outside2 inside2 (kls 55) Try.f55=true:=by kernel_rfl
theorem ok2_Join:funB Try.prog outside2 inside2 (kls 88) Try.f88=true:=by kernel_rfl
theorem plain_out:qG far=false:=rfl
theorem far_none:Try.prog.funcs[(1000000:Nat)]? =none:=by kernel_rfl
theorem closed2:Closed Try.prog outside2 inside2 kls:=by
 refine⟨fun f hf ρ xs ys ha=>?_,fun f hf fn hfn=>?_,fun f hf=>?_⟩
 ·simp only[outside2,Bool.or_eq_true,beq_iff_eq]at hf;rcases hf with hf|rfl
  ·exact closed.ext f hf ρ xs ys ha
  ·unfold callFunc;refine sr_program ?_;rw[far_none];exact qF
 ·simp only[inside2,inside,Bool.or_eq_true,List.contains_eq_mem,List.mem_cons,List.not_mem_nil,or_false,decide_eq_true_eq]at hf;rcases hf with(rfl|rfl|rfl|rfl|rfl|rfl|rfl|rfl|rfl|rfl|rfl)|(rfl|rfl|rfl)
  ·rw[Try.func88]at hfn;obtain rfl:=Option.some.inj hfn;exact ok2_Join
  ·rw[Try.func93]at hfn;obtain rfl:=Option.some.inj hfn;exact ok2_AddTimes
  ·rw[Try.func94]at hfn;obtain rfl:=Option.some.inj hfn;exact ok2_Weight
  ·rw[Try.func108]at hfn;obtain rfl:=Option.some.inj hfn;exact ok2_Clone
  ·rw[Try.func109]at hfn;obtain rfl:=Option.some.inj hfn;exact ok2_which
  ·rw[Try.func110]at hfn;obtain rfl:=Option.some.inj hfn;exact ok2_equation
  ·rw[Try.func123]at hfn;obtain rfl:=Option.some.inj hfn;exact ok2_scale
  ·rw[Try.func33]at hfn;obtain rfl:=Option.some.inj hfn;exact ok2_Inverse
  ·rw[Try.func32]at hfn;obtain rfl:=Option.some.inj hfn;exact ok2_Mul
  ·rw[Try.func54]at hfn;obtain rfl:=Option.some.inj hfn;exact ok2_Add
  ·rw[Try.func55]at hfn;obtain rfl:=Option.some.inj hfn;exact ok2_double
  ·rw[Try.func85]at hfn;obtain rfl:=Option.some.inj hfn;exact ok2_block
  ·rw[Try.func111]at hfn;obtain rfl:=Option.some.inj hfn;exact ok2_solve
  ·rw[Try.func122]at hfn;obtain rfl:=Option.some.inj hfn;exact ok2_givenUp
 ·simp only[inside2,Bool.or_eq_true]at hf;rcases hf with hf|hf
  ·exact closed.has f hf
  ·simp only[List.contains_eq_mem,List.mem_cons,List.not_mem_nil,or_false,decide_eq_true_eq]at hf;rcases hf with rfl|rfl|rfl
   ·exact⟨_,Try.func85⟩
   ·exact⟨_,Try.func111⟩
   ·exact⟨_,Try.func122⟩
end Go.Proofs.Ytmfpiodlecapiaa
namespace Go.Frag
open Go.Ren
def frz:Obj->Obj
 | .cells c e _=>.cells c e (0,c.size)
 |o=>o
def priv(Keep:Nat->Bool)(w:World):World:= {w with heap:=w.heap.mapIdx fun b o=>if Keep b then frz o else .cells #[] 0}
theorem range_get{n b c:Nat}(h:(Array.range n)[b]? =some c):c=b/\b<n:=by
 rcases Nat.lt_or_ge b n with hlt|hge
 ·rw[Array.getElem?_range]at h;simp[hlt]at h;exact⟨h.symm,hlt⟩
 ·rw[Array.getElem?_eq_none (by simpa using hge)]at h;cases h
theorem range_at{n b:Nat}(h:b<n):(Array.range n)[b]? =some b:=by rw[Array.getElem?_range];simp[h]
section
variable {Keep:Nat->Bool} {w:World}
theorem priv_row(b:Nat):(priv Keep w).heap[b]? =(w.heap[b]?).map fun o=>if Keep b then frz o else .cells #[] 0:=by
 simp[priv]
theorem priv_cell{b i:Nat}{v:Value}(h:(priv Keep w).cell? ⟨b,i,none⟩=some v):Keep b=true/\w.cell? ⟨b,i,none⟩=some v/\(priv Keep w).frozen? ⟨b,i,none⟩=true/\b<w.heap.size:=by
 simp only[World.cell?,priv_row]at h;cases ho:w.heap[b]? with
 |none=>rw[ho]at h;simp at h
 |some o=>
  rw[ho]at h;simp only[Option.map_some]at h;cases hk:Keep b with
  |false=>rw[hk]at h;simp at h
  |true=>
   rw[hk]at h;simp only[if_true]at h;cases o with
   |cells c e fz=>
    simp only[frz]at h;have hv:c[i]? =some v:=by simpa using h
    have hi:i<c.size:=(Array.getElem?_eq_some_iff.1 hv).1;refine⟨rfl,by simp[World.cell?,ho,hv],?_,(Array.getElem?_eq_some_iff.1 ho).1⟩;simp[World.frozen?,priv_row,ho,hk,frz,hi]
   |_=>simp[frz]at h
theorem priv_wr(hk:∀b i v,Keep b=true->w.cell? ⟨b,i,none⟩=some v->SV (Array.range w.heap.size) v v)(hrow:∀b,Keep b=true->b<w.heap.size->∃c e fz,w.heap[b]? =some (.cells c e fz)):WR (Array.range w.heap.size) (priv Keep w) w:=by
 have hs:(priv Keep w).heap.size=w.heap.size:=by simp[priv]
 refine⟨by simp[hs],fun b hb=>?_,fun b b' c h h'=>by rw[<-(range_get h).1,<-(range_get h').1],fun b c h=>by rw[(range_get h).1];exact(range_get h).2,fun b i v h=>?_,fun b i c h h' _=>?_,rfl,rfl⟩
 ·rw[hs]at hb;rw[priv_row];cases hkb:Keep b with
  |true=>
   obtain⟨c,e,fz,ho⟩:=hrow b hkb hb;exact⟨c,e,(0,c.size),by rw[ho];simp[frz]⟩
  |false=>exact⟨#[],0,(0,0),by rw[Array.getElem?_eq_getElem hb];simp⟩
 ·obtain⟨h1,h2,_,h4⟩:=priv_cell h;exact⟨b,v,range_at h4,h2,hk b i v h1 h2⟩
 ·obtain⟨v,hv⟩:=Option.isSome_iff_exists.1 h;rw[(priv_cell hv).2.2.1]at h';cases h'
theorem priv_vis{c:Nat}(h:Vis (Array.range w.heap.size) (priv Keep w) c):Keep c=true:=by
 obtain⟨b,i,h1,h2⟩:=h;obtain⟨v,hv⟩:=Option.isSome_iff_exists.1 h2;rw[(range_get h1).1];exact(priv_cell hv).1
theorem priv_own{c:Nat}(h:Own (Array.range w.heap.size) (priv Keep w) c):False:=by
 obtain⟨b,_,i,h2,h3⟩:=h;obtain⟨v,hv⟩:=Option.isSome_iff_exists.1 h2;rw[(priv_cell hv).2.2.1]at h3;cases h3
theorem priv_sees{c:Nat}{v:Value}(hk:Keep c=true)(h:w.cell? ⟨c,0,none⟩=some v):Vis (Array.range w.heap.size) (priv Keep w) c:=by
 have hlt:c<w.heap.size:=by
  simp only[World.cell?]at h;cases ho:w.heap[c]? with
  |none=>rw[ho]at h;cases h
  |some o=>exact(Array.getElem?_eq_some_iff.1 ho).1
 refine⟨c,0,range_at hlt,?_⟩;simp only[World.cell?,priv_row]at h⊢;cases ho:w.heap[c]? with
 |none=>rw[ho]at h;cases h
 |some o=>
  rw[ho]at h;cases o with
  |cells c e fz=>simp[hk,frz]at h⊢;exact(Array.getElem?_eq_some_iff.1 h).1
  |_=>simp at h
end
end Go.Frag
namespace Go.Proofs.Ytmfpiodlecapiaa
open Go.Conc Go.ConcN Go.RowKit Go.Conc.Lib Go.ConcR.Gen Go.ConcN.Gen Go.Grp Go.Frag Go.Ren
open Go.ConcR (KK wgBlock WgAt stA smA rd wr mk Payload Aside2 DC0)
theorem idl_of{P:Program}:∀{n:Nat} {g g':Goroutine},Idle P false n g g'->Idl P n g g'
 |0,_,_,h=>h
 |_+1,_,_,⟨h1,g1,h2,h3⟩=>⟨h1,g1,h2,idl_of h3⟩
def wTmps(a0 a1 a2 a3 a4 a5:Addr):Array Value:=#[.pointer (some a0),.pointer (some a1),.pointer (some a2),.pointer (some a3),.pointer (some a4),.pointer (some a5)]++Array.replicate 19 undef
theorem tr_born{n:Nat}{a0 a1 a2 a3 a4 a5:Addr}(l0:a0.block<n)(l1:a1.block<n)(l2:a2.block<n)(l3:a3.block<n)(l4:a4.block<n)(l5:a5.block<n):TR (Array.range n) (kls wFn) (wTmps a0 a1 a2 a3 a4 a5) (wTmps a0 a1 a2 a3 a4 a5):=by
 have vr:∀a:Addr,a.block<n->VR (Array.range n) (.pointer (some a)) (.pointer (some a)):=fun a h=>.ptr ⟨range_at h,rfl,rfl⟩;refine⟨rfl,fun i v v' h h'=>?_⟩;rw[h]at h';obtain rfl:=Option.some.inj h';clear h';unfold wTmps at h;rcases Nat.lt_or_ge i 6 with hi|hi
 ·rw[Array.getElem?_append_left (by simpa using hi)]at h;match i,h,hi with
  |0,h,_=>obtain rfl:=Option.some.inj h;exact vr _ l0
  |1,h,_=>obtain rfl:=Option.some.inj h;exact vr _ l1
  |2,h,_=>obtain rfl:=Option.some.inj h;exact vr _ l2
  |3,h,_=>obtain rfl:=Option.some.inj h;exact vr _ l3
  |4,h,_=>obtain rfl:=Option.some.inj h;exact vr _ l4
  |5,h,_=>obtain rfl:=Option.some.inj h;exact vr _ l5
 ·rw[Array.getElem?_append_right (by simpa using hi),Array.getElem?_replicate]at h;split at h
  ·obtain rfl:=Option.some.inj h;exact CR.undef _
  ·cases h
theorem born_of[Payload]{H:Ph}(hP:H.P=Try.prog)(hX:H.X=outside2)(hA:H.A=inside2)(hK:H.K=kls)(hCx:H.Cx=wCtx Try.prog.funcs.size [] ⟨H.Wg,0,none⟩)(hety:Payload.ety=3)
  {w:World}{cR cD z cz cp:Nat}{cS:Addr}(Keep:Nat->Bool)(hB:H.B0<=w.heap.size)(hz:w.heap[cz]? =some (.cells #[.int .i64 z] 3))(hKz:Keep cz=true)
  (hlt:H.Wg<w.heap.size/\cp<w.heap.size/\cS.block<w.heap.size/\cD<w.heap.size/\cR<w.heap.size)
  (hk:∀b i v,Keep b=true->w.cell? ⟨b,i,none⟩=some v->SV (Array.range w.heap.size) v v)(hrow:∀b,Keep b=true->b<w.heap.size->∃c e fz,w.heap[b]? =some (.cells c e fz))(hold:∀b,Keep b=true->H.old b\/b=cz\/b=cp)
  (htree:WT Try.prog (H.Node z) (H.Stop z) ⟨0,⟨wFn,wTmps ⟨H.Wg,0,none⟩ ⟨cp,0,none⟩ cS ⟨cD,0,none⟩ ⟨cR,0,none⟩ ⟨cz,0,none⟩,[.code (restOf Try.f83)],false⟩,[],priv Keep w⟩):Born H cR cD cS z cz cp w:=by
 obtain⟨l1,l2,l3,l4,l5⟩:=hlt;have l6:cz<w.heap.size:=(Array.getElem?_eq_some_iff.1 hz).1;obtain⟨rk,hrk⟩:=htree.ranked;have hcz:w.cell? ⟨cz,0,none⟩=some (.int .i64 z):=by simp[World.cell?,hz]
 let d:WX:=⟨22,.ofNat 5,7,0,0,Own (Array.range w.heap.size) (priv Keep w),Vis (Array.range w.heap.size) (priv Keep w),cz,.int .i64 z,false⟩
 have hst:StR H.P H.X H.A H.K (Array.range w.heap.size) ⟨wFn,wTmps ⟨H.Wg,0,none⟩ ⟨cp,0,none⟩ cS ⟨cD,0,none⟩ ⟨cR,0,none⟩ ⟨cz,0,none⟩,[.code (restOf Try.f83)],false⟩ [] ⟨wFn,wTmps ⟨H.Wg,0,none⟩ ⟨cp,0,none⟩ cS ⟨cD,0,none⟩ ⟨cR,0,none⟩ ⟨cz,0,none⟩,[.code (restOf Try.f83)],false⟩ []:=by
  rw[hP,hX,hA,hK];refine .one ⟨rfl,rfl,rfl,?_,?_⟩
  ·exact tr_born l1 l2 l3 l4 l5 l6
  ·intro x hx;simp only[List.mem_singleton]at hx;subst hx;kernel_rfl
 have htr:TreeAt H z d rk (conc H.Cx ⟨wFn,wTmps ⟨H.Wg,0,none⟩ ⟨cp,0,none⟩ cS ⟨cD,0,none⟩ ⟨cR,0,none⟩ ⟨cz,0,none⟩,[.code (restOf Try.f83)],false⟩ []) w:=by
  refine⟨Array.range w.heap.size,priv Keep w,_,[],_,[],rfl,⟨hst,priv_wr hk hrow⟩,by rw[hP];exact hrk,rfl,rfl,fun b c h=>?_⟩;obtain⟨rfl,h2⟩:=range_get h;exact range_at (by omega)
 refine⟨d,rfl,rfl,rfl,?_,fun c hc=>priv_own hc,fun c hc=>hold c (priv_vis hc),priv_sees hKz hcz,rfl⟩;have hpay:PayD d w:=⟨⟨#[.int .i64 z],by rw[hety];exact hz,rfl⟩,hcz⟩;refine .born 5 _ rk rfl rfl rfl rfl ?_ htr hpay;rw[hP,hCx];exact idl_of (w_born _ _ _ _ _ _)
end Go.Proofs.Ytmfpiodlecapiaa
