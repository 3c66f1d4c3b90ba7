import Derived.Test.YtmfpiodlecapiaaGreatDoorJ38
import Derived.Laws.AppendOwn
set_option linter.unusedSimpArgs false
set_option maxHeartbeats 8000000
set_option maxRecDepth 100000
namespace Go.Proofs.YtmfpiodlecapiaaGreatDoor
open Go.Conc Go.ConcN Go.RowKit Go.bB Go.Ren Go.eO Go.Deep Go.iw
attribute [local go_sem↓] Go.wp_at_zero Go.wp_at_succ
structure dZ(p q:World):Prop where
 size:p.heap.size<=q.heap.size
 row:∀b,b<p.heap.size->q.heap[b]? =p.heap[b]?
 os:q.os=p.os
 output:q.output=p.output
theorem dZ.refl(p:World):dZ p p:=⟨Nat.le_refl _,fun _ _=>rfl,rfl,rfl⟩
theorem dZ.trans{p q r:World}(h:dZ p q)(h':dZ q r):dZ p r:=⟨Nat.le_trans h.size h'.size,fun b hb=>(h'.row b (Nat.lt_of_lt_of_le hb h.size)).trans (h.row b hb),h'.os.trans h.os,h'.output.trans h.output⟩
theorem dZ.below{p q:World}{τ d}(h:Below p.heap.size (p.re τ d) q):dZ p q:=⟨h.size,h.block,h.os,h.output⟩
theorem dZ.alloc{p q:World}(h:dZ p q)(o:Obj):dZ p (q.alloc o):=⟨by have:=h.size;simp;omega,fun b hb=>(blk_alloc_lt _ _ _ (Nat.lt_of_lt_of_le hb h.size)).trans (h.row b hb),h.os,h.output⟩
theorem dZ.re{p q:World}(h:dZ p q)(τ d):dZ p (q.re τ d):=⟨h.size,h.row,h.os,h.output⟩
theorem dZ.cell{p q:World}(h:dZ p q){a:Addr}{v:Value}(hc:p.cell? a=some v):q.cell? a=some v:=by
 rw[<-hc];refine World.cell?_of_block (h.row a.block ?_);unfold World.cell? at hc;cases hb:p.heap[a.block]? with
 |none=>rw[hb]at hc;simp at hc
 |some o=>exact(Array.getElem?_eq_some_iff.1 hb).1
theorem dZ.ck{X:Nat->Prop}{p q:World}(h:dZ p q):CK X p q:=fun b _ _ h1 _ _ _=>h1.of_block (h.row b h1.lt)
theorem bR.iG{Sh:Nat->Prop}{p q:World}(h:dZ p q):bR Sh Sh p q:=⟨h.size,fun b _ h1 _=>(h.row b (Array.getElem?_eq_some_iff.1 h1).1).trans h1,fun b h1 h2=>⟨h2,h.row b h1⟩,h.os,h.output⟩
theorem bR.trans{Sh Sh' Sh'':Nat->Prop}{p q r:World}(h:bR Sh Sh' p q)(h':bR Sh' Sh'' q r):bR Sh Sh'' p r:=
 ⟨Nat.le_trans h.grown h'.grown,fun b o h1 h2=>h'.keep b o (h.keep b o h1 h2) h2,fun b h1 h2=>by
  obtain⟨k1,k2⟩:=h.old b h1 h2;obtain⟨k3,k4⟩:=h'.old b (Nat.lt_of_lt_of_le h1 h.grown) k1;exact⟨k3,k4.trans k2⟩,h'.os.trans h.os,h'.output.trans h.output⟩
theorem oZ.start{w:World}{B lb mr:Nat}{D:List Nat}{S:Nat->Oj}(zQ:aB w lb 82 [.map (some mr)])(hmap:w.heap[mr]? =some (.map #[] 0))(A:Nat->OD):oZ w B lb mr D S (fun _ _=>false) [] A:=
 ⟨zQ,⟨_,_,hmap,rfl⟩,by simp,by simp,fun _ _ _ _ _=>rfl,fun _ _ h=>by simp[getM]at h,fun _ _ h=>by simp[getM]at h,fun _ _ _ _ _ h=>by simp[getM]at h⟩
theorem oZ.has{w:World}{B lb mr:Nat}{D:List Nat}{S:Nat->Oj}{hd:Nat->Nat->Bool}{l:List (Nat×Nat)}{A:Nat->OD}(h:oZ w B lb mr D S hd l A){i k:Nat}(hi:i∈D)(hk:k<(S i).T)(hh:hd i k=true):∃ob,getM l i=some ob:=by
 cases hg:getM l i with
 |some ob=>exact⟨ob,rfl⟩
 |none=>have:=h.non i hi hg k hk;rw[hh]at this;cases this
def Je:Oj:=⟨2,2,1,1,[97,98]⟩
theorem Jd:Je.Ok:=⟨by decide,by decide,by decide,by decide,by decide,by decide,by decide+kernel,rfl,by decide⟩
theorem WH:Je.N=1:=by decide+kernel
theorem QS:Je.K 0=1:=by decide+kernel
theorem Vb:Je.off 0=0:=by decide+kernel
theorem Va:Je.pkt 5 0 1= [70,0,5,0,2,2,1,1,0,1,154,128]:=by decide+kernel
theorem FJ{Sh:Nat->Prop}{Post:(Nat->Prop)->Goroutine->World->Prop}{p:World}{cfn:FuncId}{ca:Act}{bg:Array Oper}{ci:Nat}{aT:List Nat}{ck:List Item}{cs:List Frame}{o:Oper}(ho:bg[ci]? =some o)
  (hend:∀(S':Nat->Prop) (p':World),bR Sh S' p p'->aj Tryz.prog S' (G ((base cfn).at (ca.put o.dst (.bool true)) (.inRegion bg aT::ck)) cs) p' Post):
  aj Tryz.prog Sh (G ((base 10).at ⟨#[undef,undef,undef,undef,undef,undef,undef,undef,undef,undef,undef,undef,undef,undef,undef,undef,undef,undef,undef,undef,undef,undef,undef,undef,undef,undef,undef,undef,undef,undef,undef,undef,undef,undef,undef,undef,undef,undef,undef,undef,undef,undef,undef],[]⟩ [.code (Tryz.f10.body.getD .skip)]) ((base cfn).at ca (.inRegion bg (ci::aT)::ck)::cs)) p Post:=by
 have HE:=hide hend;clear hend;conv=>arg 3;simp only[Tryz.f10,Option.getD_some]
 refine aj.seq (aj.bC ak (by kernel_rfl) fun τ d=>?_);go_wp2;refine aj.re ?_ _ _;refine aj.seq (aj.bC ak (by kernel_rfl) fun τ d=>?_);have hS:=hide (M7 (p.re τ d));go_wp2_with (go_at_call 28;refine hS.out.mono ?_;rintro _ w1 ⟨rfl,hb1⟩;replace hb1:=hide hb1)
 refine aj.world (dZ p) (dZ.below hb1.out) fun p1 h1=>?_;clear hS hb1 w1 τ d;refine aj.seq (aj.bC ak (by kernel_rfl) fun τ d=>?_);have hN:=hide (xY (p1.re τ d));go_wp2_with (go_at_call 16;refine hN.out.mono ?_;rintro _ w2 ⟨rfl,hw2⟩;replace hw2:=hide hw2)
 rw[show(p1.re τ d).heap.size=p1.heap.size from rfl];refine aj.world (fun q=>dZ p1 q/\q.heap.size=p1.heap.size+2/\aB q (p1.heap.size+1) 82 [.map (some p1.heap.size)]/\q.heap[p1.heap.size]? =some (.map #[] 0)) ?_ fun p2 h2=>?_
 ·have e:=hw2.out;subst e;have hs:((p1.re τ d).alloc (.map #[] 0)).heap.size=p1.heap.size+1:=by rw[Go.Ren.size_alloc];rfl
  refine⟨(((dZ.refl p1).re τ d).alloc _).alloc _,by rw[Go.Ren.size_alloc,hs],?_,?_⟩
  ·have:=gy ((p1.re τ d).alloc (.map #[] 0)) [.map (some p1.heap.size)] 82;rw[hs]at this;exact this
  ·rw[blk_alloc_lt _ _ _ (by rw[hs];omega)];exact blk_alloc_new (p1.re τ d) _
 obtain⟨h2,hs2,WO,hmap2⟩:=h2;clear hN hw2 w2 τ d;refine aj.seq (aj.bC ak (by kernel_rfl) fun τ d=>?_);go_wp2;refine aj.re ?_ _ _;clear τ d;have hH1:=hide WO;have hH2:=hide hmap2;have hH3:=hide hs2
 clear WO hmap2 hs2;refine aj.seq (aj.reg (todo:= [0,1,2,3,4,5,6,7,8,9]) rfl ?_);refine aj.pv ak fun τ d K hK=>?_;go_simp;refine hK _ ?_;clear hK;try walk_nrm
 refine aj.o ak (by kernel_rfl) rfl rfl (fun τ d K hK=>?_);go_simp;refine hK _ _ ?_;clear hK;try walk_nrm
 rw[show(p2.re τ d).heap.size=p2.heap.size from rfl];refine aj.re (p:=p2.alloc (.cells #[.int .u8 70,.int .u8 0,.int .u8 5,.int .u8 0,.int .u8 2,.int .u8 2,.int .u8 1,.int .u8 1,.int .u8 0,.int .u8 1,.int .u8 154,.int .u8 128] 5)) ?_ τ d;clear τ d;refine aj.o ak (by kernel_rfl) rfl rfl (fun τ d K hK=>?_);have kc:=fun(w:World) (C:Array Value) (n c:Nat)=>Lib.run_convert_bytes_const (P:=Tryz.prog) w 28 5 C n c Tryz.underlying28 Tryz.underlying5;rw[show(p2.alloc (.cells #[.int .u8 70,.int .u8 0,.int .u8 5,.int .u8 0,.int .u8 2,.int .u8 2,.int .u8 1,.int .u8 1,.int .u8 0,.int .u8 1,.int .u8 154,.int .u8 128] 5)).re τ d=(p2.re τ d).alloc (.cells #[.int .u8 70,.int .u8 0,.int .u8 5,.int .u8 0,.int .u8 2,.int .u8 2,.int .u8 1,.int .u8 1,.int .u8 0,.int .u8 1,.int .u8 154,.int .u8 128] 5)from rfl];have kc2:=kc (p2.re τ d) #[.int .u8 70,.int .u8 0,.int .u8 5,.int .u8 0,.int .u8 2,.int .u8 2,.int .u8 1,.int .u8 1,.int .u8 0,.int .u8 1,.int .u8 154,.int .u8 128] 12 12;rw[show(p2.re τ d).heap.size=p2.heap.size from rfl]at kc2;go_simp;refine hK _ _ ?_;clear hK kc kc2;try walk_nrm
 refine aj.re (p:=p2.alloc (.cells #[.int .u8 70,.int .u8 0,.int .u8 5,.int .u8 0,.int .u8 2,.int .u8 2,.int .u8 1,.int .u8 1,.int .u8 0,.int .u8 1,.int .u8 154,.int .u8 128] 5 (12,13))) ?_ τ d;clear τ d;obtain⟨w3,hw3⟩:∃w3,w3=p2.alloc (.cells #[.int .u8 70,.int .u8 0,.int .u8 5,.int .u8 0,.int .u8 2,.int .u8 2,.int .u8 1,.int .u8 1,.int .u8 0,.int .u8 1,.int .u8 154,.int .u8 128] 5 (12,13)):=⟨_,rfl⟩;rw[<-hw3];have h3:dZ p2 w3:=by rw[hw3];exact(dZ.refl p2).alloc _
 have hs3:w3.heap.size=p2.heap.size+1:=by rw[hw3,Go.Ren.size_alloc]
 have hc3:∀j,j<12->w3.cell? ⟨p2.heap.size,j,none⟩=some (.int .u8 (([70,0,5,0,2,2,1,1,0,1,154,128][j]?.getD 0:Nat):Int)):=fun j hj=>by
  rw[hw3];refine dz _ _ _ _ _ _ ?_;have:j=0\/j=1\/j=2\/j=3\/j=4\/j=5\/j=6\/j=7\/j=8\/j=9\/j=10\/j=11:=by omega
  rcases this with rfl|rfl|rfl|rfl|rfl|rfl|rfl|rfl|rfl|rfl|rfl|rfl<;>rfl
 have H3:=hide hs3;have Zl:=hide hc3
 clear hs3 hc3 hw3;refine aj.o ak (by kernel_rfl) rfl rfl (fun τ d K hK=>?_);go_simp;refine hK _ _ ?_;clear hK;try walk_nrm
 rw[show(w3.re τ d).heap.size=w3.heap.size from rfl];refine aj.re (p:=w3.alloc (.cells #[.slice (some ⟨p2.heap.size,0,none⟩) 12 12] 28)) ?_ τ d;clear τ d;obtain⟨w4,hw4⟩:∃w4,w4=w3.alloc (.cells #[.slice (some ⟨p2.heap.size,0,none⟩) 12 12] 28):=⟨_,rfl⟩;rw[<-hw4];have h4:dZ w3 w4:=by rw[hw4];exact(dZ.refl w3).alloc _
 have hc4:w4.cell? ⟨w3.heap.size,0,none⟩=some (.slice (some ⟨p2.heap.size,0,none⟩) 12 12):=by rw[hw4];exact dz _ _ _ _ _ _ rfl
 have hg4:dZ p2 w4:=h3.trans h4;have hL4:oZ w4 p2.heap.size (p1.heap.size+1) p1.heap.size [5] (fun _=>Je) (fun _ _=>false) [] (fun _=>⟨0,0,fun _=>0,fun _ _=>none,fun _ _=>0,fun _ _=>0⟩):=by
  refine oZ.start (hg4.ck (X:=fun _=>False) _ _ _ hH1.out (by simp) (by decide) id) ?_ _;rw[hg4.row _ (by rw[hH3.out];omega)];exact hH2.out
 have HL4:=hide hL4;have HC4:=hide hc4
 clear hL4 hc4 hw4;refine aj.dM rfl rfl (by decide) rfl Tryz.func20 rfl rfl (T':=#[.pointer (some ⟨p1.heap.size+1,0,none⟩),.slice (some ⟨w3.heap.size,0,none⟩) 1 1,undef,undef,undef,undef,undef,undef,undef,undef,undef,undef,undef,undef,undef,undef,undef,undef,undef,undef,undef,undef,undef,undef,undef,undef,undef,undef]) (by simp[Act.eval,Tryz.f20]) ?_;refine yA (o:=?o) (i:=5) (z:=0) (q:=1) (gb:=p2.heap.size) (cap:=12) ?ho HL4.out Jd (by decide) (by decide) (by decide) (by show 0<Je.N;rw[WH];decide) (by show 1<Je.K 0+1;rw[QS];decide) hg4.size HC4.out (by decide) (fun j hj=>?hcells) (fun b p5 l5 A5 hb5 hL5 kJ hsz5 sG kI _=>?hend)
 case ho=>rfl
 case hcells=>
  show w4.cell? _=some (.int .u8 (((Je.pkt 5 0 1)[j]?.getD 0:Nat):Int));rw[Va];exact h4.cell (Zl.out j hj)
 case hend=>
 have hb:b=true:=hb5;subst hb;clear hb5 HL4 HC4 Zl;simp only[if_true];try walk_nrm
 iterate 5 (refine aj.pv ak fun τ d K hK=>?_;go_simp;refine hK _ ?_;clear hK;try walk_nrm)
 refine aj.aR ?_;have hA5:bR Sh Sh p p5:=by
  refine bR.iG ?_;have h12:=h1.trans (h2.trans hg4);refine⟨Nat.le_trans h12.size hsz5,fun b hb=>?_,sG.trans h12.os,kI.trans h12.output⟩;have e1:=h1.size;have e2:=h2.size;rw[kJ b (by omega) (by omega)];exact h12.row b hb
 have hT1:Je.T=2:=by decide+kernel
 have hd5:qA (fun _ _=>false) 5 (Je.off 0+1) 5 1=true:=by
  rw[Vb];simp[qA,upd]
 obtain⟨ob,hg5⟩:=hL5.has (i:=5) (k:=1) (by decide) (by show 1<Je.T;rw[hT1];decide) hd5;obtain⟨es5,clock5,WM,hm5⟩:=hL5.map;have hO5:=hL5.obj 5 ob hg5;have HL5:=hide hL5;have HA5:=hide hA5;have HM5:=hide WM;have Hm5:=hide hm5;have HG5:=hide hg5;have HO5:=hide hO5;have Hd5:=hide hd5
 clear hL5 hA5 WM hm5 hg5 hO5 hd5 kJ hsz5 sG kI H3 hH1 hH2 hH3 hg4 h4 h3 h2;refine aj.seq (aj.reg (todo:= [0,1,2,3,4,5,6]) rfl ?_);refine aj.pv ak fun τ d K hK=>?_;go_simp;refine hK _ ?_;clear hK;try walk_nrm
 refine aj.dM rfl rfl (by decide) rfl Tryz.func24 rfl rfl (T':=#[.pointer (some ⟨p1.heap.size+1,0,none⟩),.int .i64 5,undef,undef,undef,undef,undef,undef,undef,undef,undef,undef,undef,undef,undef,undef,undef,undef,undef,undef,undef,undef,undef,undef,undef,undef,undef,undef,undef,undef,undef,undef,undef,undef,undef,undef,undef,undef]) (by simp[Act.eval,Tryz.f24]) ?_;refine xV (o:=?o2) (id:=5) ?ho2 HL5.out.Yb HM5.out Hm5.out HG5.out HO5.out.row HO5.out.blocks (Jd.F7) (fun S6 q6 v6 v7 ok6 e6 Ux hno6 WI=>?hend2)
 case ho2=>rfl
 case hend2=>
 have hok:ok6=true:=by
  refine(Ux.whole).2 fun z hz=>?_;have hz0:z=0:=by
   have:z<Je.N:=hz;rw[WH]at this;omega
  subst hz0;have hp1:((A5 5).pa 0 1).isSome=true:=by
   rw[HO5.out.heard 0 hz 1 (by show 1<Je.K 0+1;rw[QS];decide)];exact Hd5.out
  show dV ((A5 5).pa 0) (Je.K 0) 1=true;rw[QS,nG];show 1<=fF ((A5 5).pa 0) 2;simp only[fF,hp1];simp
 subst hok;obtain⟨rfl,g7,c7,hv7,_,R9⟩:=WI rfl;replace hv7:v7= .slice (some ⟨g7,0,none⟩) 2 c7:=hv7;subst hv7;have hA7:bR Sh S6 p q6:=HA5.out.trans ⟨Ux.grown,Ux.keep,Ux.old,Ux.os,Ux.output⟩;have hcv:∀τ d,(convert 28 9 (.slice (some ⟨g7,0,none⟩) 2 c7)).run Tryz.prog (q6.re τ d)= .ok (.string (strOf [97,98])) (q6.re τ d):=fun τ d=>by
  refine jZ (bs:= [97,98]) rfl (fun j hj=>?_);rw[Nat.zero_add];refine(R9 j hj).trans ?_;rw[Jd.LD hj];rfl
 have HA7:=hide hA7;have HCV:=hide hcv
 clear hA7 hcv R9 WI hno6 Ux HL5 HA5 HM5 Hm5 HG5 HO5 Hd5 hT1;try walk_nrm
 iterate 5 (refine aj.pv ak fun τ d K hK=>?_;go_simp;refine hK _ ?_;clear hK;try walk_nrm)
 refine aj.aR ?_;refine aj.bC ak (by kernel_rfl) fun τ d=>?_;have hcv:=HCV.out τ d;go_wp2;intro todo;refine aj.re ?_ _ _;have e:((strOf [97,98]).toList== [97,98])=true:=by decide+kernel
 exact aj.back ho Tryz.func10 (v:=.bool true) (by simp[results,Tryz.f10,go_sem,e]) (by simp[results,Tryz.f10]) (HE.out S6 q6 HA7.out)
end Go.Proofs.YtmfpiodlecapiaaGreatDoor
namespace Go.eO
open Go.Ren Go.bB Go.Conc
variable {P:Program} {Sh:Nat->Prop} {Post:(Nat->Prop)->Goroutine->World->Prop}
theorem aj.opU{b:Frame}{a:Act}{k:List Item}{cs:List Frame}{ops:Array Oper}{i:Nat}{rest:List Nat}{o:Oper}{p:World}(ho:ops[i]? =some o)(hw:Region.wanted o (yielded ops a.tmps)=true)(hk:b.kind≠.early){v:Value}
  (h:∀u:World,PS Sh (p.re u.tape u.drawn) u->(execOp a.eval o).run P u= .ok (.value v) u/\(execOp a.eval o).events P u #[]=#[])
  (hn:aj P Sh (G (b.at (a.put o.dst v) (.inRegion ops rest::k)) cs) p Post):aj P Sh (G (b.at a (.inRegion ops (i::rest)::k)) cs) p Post:=by
 refine .step rfl fun u hps=>?_;obtain⟨h1,h2⟩:=h u hps;refine⟨_,p,u,_,stepG_value ho hw hk h1,hps,Nat.le_refl _,fun e he=>?_,hn⟩;have:=mem_listed he;rw[h2]at this;simp at this
end Go.eO
namespace Go.Proofs.YtmfpiodlecapiaaGreatDoor
open Go.Conc Go.ConcN Go.RowKit Go.bB Go.Ren Go.eO Go.Deep
attribute [local go_sem↓] Go.wp_at_zero Go.wp_at_succ
structure Bl(B:Nat)(p q:World):Prop where
 size:p.heap.size<=q.heap.size
 block:∀k,k<B->q.heap[k]? =p.heap[k]?
 os:q.os=p.os
 output:q.output=p.output
theorem Bl.refl(B:Nat)(p:World):Bl B p p:=⟨Nat.le_refl _,fun _ _=>rfl,rfl,rfl⟩
theorem Bl.trans{B:Nat}{p q r:World}(h:Bl B p q)(h':Bl B q r):Bl B p r:=⟨Nat.le_trans h.size h'.size,fun k hk=>(h'.block k hk).trans (h.block k hk),h'.os.trans h.os,h'.output.trans h.output⟩
theorem Bl.of_below{B:Nat}{p q:World}{τ d}(h:Below B (p.re τ d) q):Bl B p q:=⟨h.size,h.block,h.os,h.output⟩
theorem Bl.below{B:Nat}{p q:World}(h:Below B p q):Bl B p q:=⟨h.size,h.block,h.os,h.output⟩
theorem I4{Sh:Nat->Prop}{p u:World}(h:PS Sh (p.re u.tape u.drawn) u){b:Nat}{t:TypeId}{L:List Value}(hr:aB p b t L)(hL:L≠ []):aB u b t L:=by
 have hn:¬Sh b:=fun hs=>by
  obtain⟨e,fz,vg,c,h1,_⟩:=h.rows b hs;have h2:p.heap[b]? =some (.cells #[] e fz):=h1;rw[hr]at h2;simp at h2;exact hL h2.1
 exact hr.of_block (h.same b hn)
theorem JG{w:World}{b:Nat}{L:List Value}(h:aB w b 122 L)(hL:L.length=2):(convert 120 205 (.pointer (some ⟨b,0,none⟩))).events Tryz.prog w #[]=#[]:=by
 obtain⟨j,hj,_⟩:=Option.map_eq_some_iff.1 h_;have hsh:=h.shape;rw[hL]at hsh;have hs:=run_underlying (P:=Tryz.prog) Tryz.underlying120;have hd:=run_underlying (P:=Tryz.prog) Tryz.underlying205;simp only[convert,Sem.events_bind,hs,hd,Result.evThen_ok,events_underlying];refine Eq.trans (b:=Sem.events Tryz.prog (bind (underlying 120) _) w #[]) rfl ?_;simp[hs,hd,Conv.seenAt,viewAt,hsh,cellsIn,sizeOf,typeInfo,hj]
theorem JH{w:World}{b:Nat}{L:List Value}(h:aB w b 122 L)(hL:L.length=2):(convert 205 120 (.pointer (some ⟨b,0,none⟩))).events Tryz.prog w #[]=#[]:=by
 obtain⟨j,hj,_⟩:=Option.map_eq_some_iff.1 h_;have hsh:=h.shape;rw[hL]at hsh;have hs:=run_underlying (P:=Tryz.prog) Tryz.underlying205;have hd:=run_underlying (P:=Tryz.prog) Tryz.underlying120;have hl:liesAt Tryz.prog Tryz.prog.depth 122 (2/Tryz.prog.cellsOf 122) 0 122 1=true:=by kernel_rfl
 simp only[convert,Sem.events_bind,hs,hd,Result.evThen_ok,events_underlying];refine Eq.trans (b:=Sem.events Tryz.prog (bind (underlying 205) _) w #[]) rfl ?_;simp[hs,hd,Conv.seenAt,viewAt,hsh,variablesAt,hl,sizeOf,typeInfo,hj]
theorem um{Sh:Nat->Prop}{Post:(Nat->Prop)->Goroutine->World->Prop}{p:World}{cfn:FuncId}{ca:Act}{bg:Array Oper}{ci:Nat}{aT:List Nat}{ck:List Item}{cs:List Frame}{o:Oper}(ho:bg[ci]? =some o){b:Nat}{v:Value}(h:aB p b 122 [.pointer none,v])
  (hend:aj Tryz.prog Sh (G ((base cfn).at (ca.put o.dst (.tuple #[])) (.inRegion bg aT::ck)) cs) (p.setCell ⟨b,0,none⟩ (.pointer (some ⟨b,0,none⟩))) Post):
  aj Tryz.prog Sh (G ((base 119).at ⟨#[.pointer (some ⟨b,0,none⟩),undef,undef,undef,undef,undef,undef,undef,undef,undef,undef,undef,undef,undef,undef,undef,undef,undef,undef,undef],[]⟩ [.code (Tryz.f119.body.getD .skip)]) ((base cfn).at ca (.inRegion bg (ci::aT)::ck)::cs)) p Post:=by
 have HE:=hide hend;clear hend;have h0:=h.cell 0 _ rfl;have hfz:=h.frozen 0;conv=>arg 3;simp only[Tryz.f119,Option.getD_some]
 refine aj.seq (aj.bC aI (by kernel_rfl) fun τ d=>?_);have h1:(p.re τ d).cell? ⟨b,0,none⟩=some (.pointer none):=h0;go_wp2;refine aj.re ?_ _ _;clear h1 τ d;refine aj.yes rfl ?_;refine aj.reg (todo:= [0,1,2,3,4,5,6,7]) rfl ?_;refine aj.pv aI fun τ d K hK=>?_;go_simp;refine hK _ ?_;clear hK;try walk_nrm
 refine aj.pv aI fun τ d K hK=>?_;go_simp;refine hK _ ?_;clear hK;try walk_nrm
 refine aj.opU (v:=.pointer (some ⟨b,0,none⟩)) rfl rfl (by decide) (fun u hps=>?_) ?_
 ·have hr:=I4 hps h (by simp);have h2:=UM hr rfl;have h3:=JG hr rfl;constructor
  ·go_simp
  ·unfold execOp;simp[Act.eval,Sem.events_bind,h2,h3]
 try walk_nrm
 refine aj.op (fI aI (by kernel_rfl)) rfl rfl (by decide) (fun τ d K hK=>?_);go_simp;rw[run_callFunc_extern Tryz.func172 (by kernel_rfl) (by kernel_rfl) (by kernel_rfl) (e:=Extern.AbiNoEscape.same) (by kernel_rfl)];rw[Lib.run_noEscape];refine hK _ _ ?_;clear hK;refine aj.re ?_ _ _;try walk_nrm
 refine aj.opU (v:=.pointer (some ⟨b,0,none⟩)) rfl rfl (by decide) (fun u hps=>?_) ?_
 ·have hr:=I4 hps h (by simp);have h2:=Ve hr rfl;have h3:=JH hr rfl;constructor
  ·go_simp
  ·unfold execOp;simp[Act.eval,Sem.events_bind,h2,h3]
 try walk_nrm
 iterate 2 (refine aj.pv aI fun τ d K hK=>?_;go_simp;refine hK _ ?_;clear hK;try walk_nrm)
 refine aj.op (fI aI (by kernel_rfl)) rfl rfl (by decide) (fun τ d K hK=>?_);have h1:(p.re τ d).cell? ⟨b,0,none⟩=some (.pointer none):=h0;have h2:(p.re τ d).frozen? ⟨b,0,none⟩=false:=hfz;go_simp;refine hK _ _ ?_;clear hK;refine aj.re (p:=p.setCell ⟨b,0,none⟩ (.pointer (some ⟨b,0,none⟩))) ?_ τ d;try walk_nrm
 refine aj.aR (aj.done ?_);exact aj.back ho Tryz.func119 (v:=.tuple #[]) (by simp[results,Tryz.f119,go_sem]) (by simp[results,Tryz.f119]) HE.out
theorem JI{w:World}{j:TypeInfo}(a:Addr)(hj:Tryz.prog.info? 122=some j):(binOp .neq 120 (.pointer (some a)) (.pointer (some a))).events Tryz.prog w #[]=#[]:=by
 have hs:=run_underlying (P:=Tryz.prog) Tryz.underlying120;have h:∀d:Nat,(Op.equalIn (d+1) 120 (.pointer (some a)) (.pointer (some a))).events Tryz.prog w #[]=#[]:=fun d=>by
  simp[Op.equalIn,hs,sizeOf,typeInfo,hj,sameAddr,events_underlying]
 simp only[binOp];simp[Op.equal,Op.maxDepth,h 9999]
theorem Oz(x y:Operand)(a:Addr):eqGuard .neq 120 x y (.pointer (some a)) (.pointer (some a))=Pure.pure ():=by
 simp[eqGuard]
theorem vR{Sh:Nat->Prop}{Post:(Nat->Prop)->Goroutine->World->Prop}{p:World}{cfn:FuncId}{ca:Act}{bg:Array Oper}{ci:Nat}{aT:List Nat}{ck:List Item}{cs:List Frame}{o:Oper}(ho:bg[ci]? =some o){b:Nat}{v:Value}(h:aB p b 122 [.pointer (some ⟨b,0,none⟩),v])
  (hend:aj Tryz.prog Sh (G ((base cfn).at (ca.put o.dst (.tuple #[])) (.inRegion bg aT::ck)) cs) p Post):
  aj Tryz.prog Sh (G ((base 119).at ⟨#[.pointer (some ⟨b,0,none⟩),undef,undef,undef,undef,undef,undef,undef,undef,undef,undef,undef,undef,undef,undef,undef,undef,undef,undef,undef],[]⟩ [.code (Tryz.f119.body.getD .skip)]) ((base cfn).at ca (.inRegion bg (ci::aT)::ck)::cs)) p Post:=by
 obtain⟨j,hj,_⟩:=Option.map_eq_some_iff.1 h_;have HE:=hide hend;clear hend;have h0:=h.cell 0 _ rfl;conv=>arg 3;simp only[Tryz.f119,Option.getD_some]
 refine aj.seq (aj.bC aI (by kernel_rfl) fun τ d=>?_);have h1:(p.re τ d).cell? ⟨b,0,none⟩=some (.pointer (some ⟨b,0,none⟩)):=h0;go_wp2;refine aj.re ?_ _ _;clear h1 τ d;refine aj.no rfl (aj.seq ?_);refine aj.reg (todo:= [0,1,2,3,4,5]) rfl ?_;refine aj.pv aI fun τ d K hK=>?_;go_simp;refine hK _ ?_;clear hK;try walk_nrm
 iterate 2 (refine aj.pv aI fun τ d K hK=>?_;go_simp;refine hK _ ?_;clear hK;try walk_nrm)
 refine aj.op (fI aI (by kernel_rfl)) rfl rfl (by decide) (fun τ d K hK=>?_);have h1:(p.re τ d).cell? ⟨b,0,none⟩=some (.pointer (some ⟨b,0,none⟩)):=h0;go_simp;refine hK _ _ ?_;clear hK;refine aj.re ?_ _ _;try walk_nrm
 refine aj.pv aI fun τ d K hK=>?_;go_simp;refine hK _ ?_;clear hK;try walk_nrm
 refine aj.opU (v:=.bool false) rfl rfl (by decide) (fun u hps=>?_) ?_
 ·have hr:=I4 hps h (by simp);constructor
  ·have h2:=Lib.run_neq_ptr_same u (⟨b,0,none⟩:Addr) Tryz.underlying120 hj;go_simp;done
  ·have h2:=JI (w:=u) (⟨b,0,none⟩:Addr) hj;unfold execOp;simp[Act.eval,Sem.events_bind,Oz,h2]
 try walk_nrm
 refine aj.aR (aj.no rfl (aj.skip (aj.done ?_)));exact aj.back ho Tryz.func119 (v:=.tuple #[]) (by simp[results,Tryz.f119,go_sem]) (by simp[results,Tryz.f119]) HE.out
theorem wT{Sh:Nat->Prop}{Post:(Nat->Prop)->Goroutine->World->Prop}{p:World}{cfn:FuncId}{ca:Act}{bg:Array Oper}{ci:Nat}{aT:List Nat}{ck:List Item}{cs:List Frame}{o:Oper}(ho:bg[ci]? =some o){b n N:Nat}(hn:n<64){bs:List Value}(hN:Hid (bs.length=N))(yD:N<=1000000000)(h:J4 p b bs)
  (hend:∀(m:Int) w',J4 w' b (bs++bN (Tx.jB n))->Bl b p w'->aj Tryz.prog Sh (G ((base cfn).at (ca.put o.dst (.tuple #[.int .i64 m,.nilIface])) (.inRegion bg aT::ck)) cs) w' Post):
  aj Tryz.prog Sh (G ((base 70).at ⟨#[.pointer (some ⟨b,0,none⟩),.int .i32 (Tx.rn n:Nat),undef,undef,undef,undef,undef,undef,undef,undef,undef,undef,undef,undef,undef,undef,undef,undef,undef,undef,undef,undef,undef,undef,undef,undef,undef,undef,undef,undef],[]⟩ [.code (Tryz.f70.body.getD .skip)]) ((base cfn).at ca (.inRegion bg (ci::aT)::ck)::cs)) p Post:=by
 obtain⟨pp,v,hr,hp,hw,hk⟩:=h;obtain⟨a1,k1,hsh⟩:=hw.shape;rw[hN.out]at hsh;subst hsh;have tail:∀w,aB w b 122 [.pointer (some ⟨b,0,none⟩),.slice a1 N k1]->bM w 5 (.slice a1 N k1) bs->Bl b p w->aj Tryz.prog Sh (G ((base 70).at ⟨#[.pointer (some ⟨b,0,none⟩),.int .i32 (Tx.rn n:Nat),undef,undef,.int .i64 0,.nilIface,undef,.pointer (some ⟨b,0,none⟩),.tuple #[],undef,undef,undef,undef,undef,undef,undef,undef,undef,undef,undef,undef,undef,undef,undef,undef,undef,undef,undef,undef,undef],[]⟩ [.code (dP [1,1] (Tryz.f70.body.getD .skip))]) ((base cfn).at ca (.inRegion bg (ci::aT)::ck)::cs)) w Post:=by
  intro w HRw Zk Zm;have HE:=hide hend;have HR:=hide HRw;have HO:=hide Zk;have HB:=hide Zm;have HK:=hide hk
  clear hend hr hw hp;conv=>arg 3;simp only[Tryz.f70,Option.getD_some,dP]
  refine aj.bC aI (by kernel_rfl) fun τ d=>?_;have c1:(w.re τ d).cell? ⟨b,1,none⟩=some (.slice a1 N k1):=HRw.cell 1 _ rfl;have AR:=hide (vT n N hn (.slice a1 N k1) bs hN yD (w.re τ d) (show bM (w.re τ d) 5 (.slice a1 N k1) bs from Zk));generalize (Tx.rn n:Nat)=r at AR⊢;clear HRw Zk Zm hk;go_wp2_with fail
  go_at_call 120
  refine AR.out.mono ?_;rintro _ w1 ⟨v',oo,rfl,happ⟩;obtain⟨a2,k2,hs2⟩:=happ.own.shape;obtain⟨M,hM⟩:∃M,M=(bs++bN (Tx.jB n)).length:=⟨_,rfl⟩;have hM2:M<=1000000002:=by
   have:=Tx.uZ n;rw[hM,List.length_append,aU,hN.out];omega
  rw[<-hM]at hs2;subst hs2;have Y_:aB (w.re τ d) b 122 [.pointer (some ⟨b,0,none⟩),.slice a1 N k1]:=HR.out;have hOt:bM (w.re τ d) 5 (.slice a1 N k1) bs:=HO.out;have WL:=hOt.alloc oo;have FV:=happ.other (Y_.alloc oo) (WL.kG (Y_.alloc oo) (by decide));have d1:=FV.cell 1 _ rfl;have f1:=FV.frozen 1;have hrow2:=FV.set 1 (.slice a2 M k2);have e1:=hrow2.cell 1 _ rfl;have hlast:J4 (w1.setCell ⟨b,1,none⟩ (.slice a2 M k2)) b (bs++bN (Tx.jB n)):=by
   refine⟨_,_,hrow2,Or.inr rfl,happ.own.setCell (i:=1) FV (by decide) _,?_⟩;intro k hk;have hB:b+1<=((w.re τ d).alloc oo).heap.size:=by have:=Y_.lt;simp;omega
   exact happ.from hB (fun k hk=>HK.out k hk) k hk
  have hbel:Bl b p (w1.setCell ⟨b,1,none⟩ (.slice a2 M k2)):=by
   refine HB.out.trans (Bl.of_below (τ:=τ) (d:=d) ?_);have h1:Below b (w.re τ d) ((w.re τ d).alloc oo):=(Below.refl b _).alloc (Nat.le_of_lt Y_.lt) oo;exact(happ.below h1 (by have:=Y_.lt;simp;omega) (fun k hk=>Nat.le_of_lt (HK.out k hk))).setCell (Nat.le_refl _) _
  have HL:=hide hlast;have Bz:=hide hbel
  clear hlast hbel FV hrow2 WL happ hM c1 Y_ hOt;go_wp2;intro todo;refine aj.back (v:=.tuple #[.int .i64 ((M:Int)-(N:Int)),.nilIface]) ho Tryz.func70 (by simp[results,Tryz.f70,go_sem]) (by simp[results,Tryz.f70]) ?_;exact HE.out _ _ HL.out Bz.out
 clear hend;have HT:=hide tail;clear tail;conv=>arg 3;simp only[Tryz.f70,Option.getD_some]
 refine aj.seq (aj.bC aI (by kernel_rfl) fun τ d=>?_);go_wp2;refine aj.re ?_ _ _;clear τ d;refine aj.seq (aj.reg (todo:= [0,1]) rfl ?_);refine aj.pv aI fun τ d K hK=>?_;go_simp;refine hK _ ?_;clear hK;try walk_nrm
 refine aj.dM rfl rfl (by decide) rfl Tryz.func119 rfl rfl (T':=#[.pointer (some ⟨b,0,none⟩),undef,undef,undef,undef,undef,undef,undef,undef,undef,undef,undef,undef,undef,undef,undef,undef,undef,undef,undef]) (by simp[Act.eval,Tryz.f119]) ?_;rcases hp with rfl|rfl
 ·refine um (o:=?oo) ?hoo hr ?_
  case hoo=>rfl
  try walk_nrm
  refine aj.aR ?_;exact HT.out _ (hr.set 0 (.pointer (some ⟨b,0,none⟩))) (hw.setCell (i:=0) hr (by decide) _) (Bl.below ((Below.refl b p).setCell (Nat.le_refl _) _))
 ·refine vR (o:=?oo) ?hoo hr ?_
  case hoo=>rfl
  try walk_nrm
  refine aj.aR ?_;exact HT.out _ hr hw (Bl.refl b p)
end Go.Proofs.YtmfpiodlecapiaaGreatDoor
namespace Go.Proofs.YtmfpiodlecapiaaGreatDoor
open Go.RowKit Go.Deep Go.eO
def KC(B:Nat)(q q':World):Prop:=∀(b i:Nat) (v:Value),q.cell? ⟨b,i,none⟩=some v->(∀x,v≠.bool x)->b<B->q'.cell? ⟨b,i,none⟩=some v
theorem KC.tX{Sh Sh':Nat->Prop}{B:Nat}{q q':World}(h:bR Sh Sh' q q'):KC B q q':=fun b i v hc _ _=>by
 obtain⟨c,e,fz,k1,k2,k3⟩:=uo hc;have:=h.keep _ _ k1 k3;simpa[World.cell?,this]using k2
theorem KC.iG{B:Nat}{q q':World}(h:dZ q q'):KC B q q':=fun _ _ _ hc _ _=>h.cell hc
theorem KC.of_low{B mr clock:Nat}{es:Array MapEntry}{q q':World}(hm:q.heap[mr]? =some (.map es clock))(h:∀b,b<B->b≠mr->q'.heap[b]? =q.heap[b]?):KC B q q':=fun b i v hc _ hb=>by
 rw[<-hc];refine World.cell?_of_block (h b hb fun e=>?_);subst e;simp[World.cell?,hm]at hc
theorem KC.setB{B g i:Nat}{q:World}{L:List Value}(hg:aB q g 4 L)(hL:∀v∈L,∃x,v= .bool x)(v:Value):KC B q (q.setCell ⟨g,i,none⟩ v):=fun b j u hc hu _=>by
 have hne:b≠g:=fun e=>by
  subst e;obtain⟨x,e⟩:=hL u (List.mem_of_getElem? (xH hg hc));exact hu x e
 rw[<-hc];refine World.cell?_of_block ?_;simp[World.setCell,Array.getElem?_modify,Ne.symm hne]
theorem KC.trans{B:Nat}{q q1 q2:World}(h:KC B q q1)(h':KC B q1 q2):KC B q q2:=fun b i v hc hu hb=>h' b i v (h b i v hc hu hb) hu hb
def eF(n:Nat)(f:Nat->Bool):List Value:=(List.range n).map fun k=>.bool (f k)
theorem pX{n:Nat}{f:Nat->Bool}{k:Nat}(h:k<n):(eF n f)[k]? =some (.bool (f k)):=by simp[eF,h]
theorem GJ{n:Nat}{f:Nat->Bool}:∀v∈eF n f,∃x,v= .bool x:=fun v hv=>by
 obtain⟨k,_,rfl⟩:=List.mem_map.1 hv;exact⟨_,rfl⟩
theorem JU{n:Nat}{f:Nat->Bool}{k:Nat}:(eF n f).set k (.bool true)=eF n (upd f k):=by
 apply List.ext_getElem?;intro i;by_cases e:k=i
 ·subst e;by_cases h:k<n
  ·rw[List.getElem?_set_self (by simpa[eF]using h)];simp[eF,h,upd]
  ·simp[eF,h]
 ·rw[List.getElem?_set_ne e];by_cases h:i<n
  ·simp[eF,h,upd,Ne.symm e]
  ·simp[eF,h]
end Go.Proofs.YtmfpiodlecapiaaGreatDoor
namespace Go.eO
open Go.Ren Go.bB Go.Conc Go.RowKit
variable {P:Program} {Sh:Nat->Prop} {Post:(Nat->Prop)->Goroutine->World->Prop} {b:Frame} {a:Act} {k:List Item} {cs:List Frame} {p:World} {ops:Array Oper}
theorem aj.aX{c:Code}(h:∀kk,kk=k->aj P Sh (G (b.at a (.code c::kk)) cs) p Post):aj P Sh (G (b.at a (.code c::k)) cs) p Post:=h k rfl
theorem aj.Xt{c c1:Code}(e:c=c1)(h:aj P Sh (G (b.at a (.code c1::k)) cs) p Post):aj P Sh (G (b.at a (.code c::k)) cs) p Post:=by
 rw[e];exact h
end Go.eO
