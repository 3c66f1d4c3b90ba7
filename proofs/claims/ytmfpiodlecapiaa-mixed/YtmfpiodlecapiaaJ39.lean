import Derived.Test.YtmfpiodlecapiaaJ38
import Derived.Laws.AppendOwn
namespace Go.Proofs.Ytmfpiodlecapiaa
open Go.Conc Go.ConcN Go.RowKit Go.Frag Go.Ren Go.Poi Go.Deep Go.Grp
attribute [local go_sem↓] Go.wp_at_zero Go.wp_at_succ
structure Grw(p q:World):Prop where
 size:p.heap.size<=q.heap.size
 row:∀b,b<p.heap.size->q.heap[b]? =p.heap[b]?
 os:q.os=p.os
 output:q.output=p.output
theorem Grw.refl(p:World):Grw p p:=⟨Nat.le_refl _,fun _ _=>rfl,rfl,rfl⟩
theorem Grw.trans{p q r:World}(h:Grw p q)(h':Grw q r):Grw p r:=⟨Nat.le_trans h.size h'.size,fun b hb=>(h'.row b (Nat.lt_of_lt_of_le hb h.size)).trans (h.row b hb),h'.os.trans h.os,h'.output.trans h.output⟩
theorem Grw.below{p q:World}{τ d}(h:Below p.heap.size (p.re τ d) q):Grw p q:=⟨h.size,h.block,h.os,h.output⟩
theorem Grw.alloc{p q:World}(h:Grw p q)(o:Obj):Grw p (q.alloc o):=⟨by have:=h.size;simp;omega,fun b hb=>(blk_alloc_lt _ _ _ (Nat.lt_of_lt_of_le hb h.size)).trans (h.row b hb),h.os,h.output⟩
theorem Grw.re{p q:World}(h:Grw p q)(τ d):Grw p (q.re τ d):=⟨h.size,h.row,h.os,h.output⟩
theorem Grw.cell{p q:World}(h:Grw p q){a:Addr}{v:Value}(hc:p.cell? a=some v):q.cell? a=some v:=by
 rw[<-hc];refine World.cell?_of_block (h.row a.block ?_);unfold World.cell? at hc;cases hb:p.heap[a.block]? with
 |none=>rw[hb]at hc;simp at hc
 |some o=>exact(Array.getElem?_eq_some_iff.1 hb).1
theorem Grw.ck{X:Nat->Prop}{p q:World}(h:Grw p q):CK X p q:=fun b _ _ h1 _ _ _=>h1.of_block (h.row b h1.lt)
theorem AfterT.of_grw{Sh:Nat->Prop}{p q:World}(h:Grw p q):AfterT Sh Sh p q:=⟨h.size,fun b _ h1 _=>(h.row b (Array.getElem?_eq_some_iff.1 h1).1).trans h1,fun b h1 h2=>⟨h2,h.row b h1⟩,h.os,h.output⟩
theorem AfterT.trans{Sh Sh' Sh'':Nat->Prop}{p q r:World}(h:AfterT Sh Sh' p q)(h':AfterT Sh' Sh'' q r):AfterT Sh Sh'' p r:=
 ⟨Nat.le_trans h.grown h'.grown,fun b o h1 h2=>h'.keep b o (h.keep b o h1 h2) h2,fun b h1 h2=>by
  obtain⟨k1,k2⟩:=h.old b h1 h2;obtain⟨k3,k4⟩:=h'.old b (Nat.lt_of_lt_of_le h1 h.grown) k1;exact⟨k3,k4.trans k2⟩,h'.os.trans h.os,h'.output.trans h.output⟩
theorem LSt.start{w:World}{B lb mr:Nat}{D:List Nat}{S:Nat->Oj}(hlis:qS w lb 91 [.map (some mr)])(hmap:w.heap[mr]? =some (.map #[] 0))(A:Nat->OD):LSt w B lb mr D S (fun _ _=>false) [] A:=
 ⟨hlis,⟨_,_,hmap,rfl⟩,by simp,by simp,fun _ _ _ _ _=>rfl,fun _ _ h=>by simp[getM]at h,fun _ _ h=>by simp[getM]at h,fun _ _ _ _ _ h=>by simp[getM]at h⟩
theorem LSt.has{w:World}{B lb mr:Nat}{D:List Nat}{S:Nat->Oj}{hd:Nat->Nat->Bool}{l:List (Nat×Nat)}{A:Nat->OD}(h:LSt w B lb mr D S hd l A){i k:Nat}(hi:i∈D)(hk:k<(S i).T)(hh:hd i k=true):∃ob,getM l i=some ob:=by
 cases hg:getM l i with
 |some ob=>exact⟨ob,rfl⟩
 |none=>have:=h.non i hi hg k hk;rw[hh]at this;cases this
def oj5:Oj:=⟨2,2,1,1,[97,98]⟩
theorem oj5_ok:oj5.Ok:=⟨by decide,by decide,by decide,by decide,by decide,by decide,by decide+kernel,rfl,by decide⟩
theorem oj5_N:oj5.N=1:=by decide+kernel
theorem oj5_K:oj5.K 0=1:=by decide+kernel
theorem oj5_off:oj5.off 0=0:=by decide+kernel
theorem oj5_pkt:oj5.pkt 5 0 1= [70,0,5,0,2,2,1,1,0,1,154,128]:=by decide+kernel
set_option linter.unusedSimpArgs false in
set_option maxRecDepth 100000 in
set_option maxHeartbeats 8000000 in
theorem listens_bto{Sh:Nat->Prop}{Post:(Nat->Prop)->Goroutine->World->Prop}{p:World}{cfn:FuncId}{ca:Act}{cops:Array Oper}{ci:Nat}{crest:List Nat}{ck:List Item}{cs:List Frame}{o:Oper}(ho:cops[ci]? =some o)
  (hend:∀(S':Nat->Prop) (p':World),AfterT Sh S' p p'->qR Try.prog S' (G ((base cfn).at (ca.put o.dst (.bool true)) (.inRegion cops crest::ck)) cs) p' Post):
  qR Try.prog Sh (G ((base 26).at ⟨#[undef,undef,undef,undef,undef,undef,undef,undef,undef,undef,undef,undef,undef,undef,undef,undef,undef,undef,undef,undef,undef,undef,undef,undef,undef,undef,undef,undef,undef,undef,undef,undef,undef,undef,undef,undef,undef,undef,undef,undef,undef,undef,undef],[]⟩ [.code (Try.f26.body.getD .skip)]) ((base cfn).at ca (.inRegion cops (ci::crest)::ck)::cs)) p Post:=by
 have HE:=hide hend;clear hend;conv=>arg 3;simp only[Try.f26,Option.getD_some]
 refine qR.seq (qR.runV qJ (by kernel_rfl) fun τ d=>?_);go_wp2;refine qR.re ?_ _ _;refine qR.seq (qR.runV qJ (by kernel_rfl) fun τ d=>?_);have hS:=hide (sure_walk (p.re τ d));go_wp2_with (go_at_call 17;refine hS.out.mono ?_;rintro _ w1 ⟨rfl,hb1⟩;replace hb1:=hide hb1)
 refine qR.world (Grw p) (Grw.below hb1.out) fun p1 h1=>?_;clear hS hb1 w1 τ d;refine qR.seq (qR.runV qJ (by kernel_rfl) fun τ d=>?_);have hN:=hide (new_walk (p1.re τ d));go_wp2_with (go_at_call 27;refine hN.out.mono ?_;rintro _ w2 ⟨rfl,hw2⟩;replace hw2:=hide hw2)
 rw[show(p1.re τ d).heap.size=p1.heap.size from rfl];refine qR.world (fun q=>Grw p1 q/\q.heap.size=p1.heap.size+2/\qS q (p1.heap.size+1) 91 [.map (some p1.heap.size)]/\q.heap[p1.heap.size]? =some (.map #[] 0)) ?_ fun p2 h2=>?_
 ·have e:=hw2.out;subst e;have hs:((p1.re τ d).alloc (.map #[] 0)).heap.size=p1.heap.size+1:=by rw[Go.Ren.size_alloc];rfl
  refine⟨(((Grw.refl p1).re τ d).alloc _).alloc _,by rw[Go.Ren.size_alloc,hs],?_,?_⟩
  ·have:=rowL_alloc ((p1.re τ d).alloc (.map #[] 0)) [.map (some p1.heap.size)] 91;rw[hs]at this;exact this
  ·rw[blk_alloc_lt _ _ _ (by rw[hs];omega)];exact blk_alloc_new (p1.re τ d) _
 obtain⟨h2,hs2,hlis2,hmap2⟩:=h2;clear hN hw2 w2 τ d;refine qR.seq (qR.runV qJ (by kernel_rfl) fun τ d=>?_);go_wp2;refine qR.re ?_ _ _;clear τ d;have hH1:=hide hlis2;have hH2:=hide hmap2;have hH3:=hide hs2
 clear hlis2 hmap2 hs2;refine qR.seq (qR.reg (todo:= [0,1,2,3,4,5,6,7,8,9]) rfl ?_);refine qR.o qJ (by kernel_rfl) rfl rfl (fun τ d K hK=>?_);go_simp;refine hK _ _ ?_;clear hK;refine qR.re ?_ _ _;try walk_nrm
 refine qR.o qJ (by kernel_rfl) rfl rfl (fun τ d K hK=>?_);go_simp;refine hK _ _ ?_;clear hK;try walk_nrm
 rw[show(p2.re τ d).heap.size=p2.heap.size from rfl];refine qR.re (p:=p2.alloc (.cells #[.int .u8 70,.int .u8 0,.int .u8 5,.int .u8 0,.int .u8 2,.int .u8 2,.int .u8 1,.int .u8 1,.int .u8 0,.int .u8 1,.int .u8 154,.int .u8 128] 5)) ?_ τ d;clear τ d;refine qR.o qJ (by kernel_rfl) rfl rfl (fun τ d K hK=>?_);have kc:=fun(w:World) (C:Array Value) (n c:Nat)=>Lib.run_convert_bytes_const (P:=Try.prog) w 36 5 C n c Try.underlying36 Try.underlying5;rw[show(p2.alloc (.cells #[.int .u8 70,.int .u8 0,.int .u8 5,.int .u8 0,.int .u8 2,.int .u8 2,.int .u8 1,.int .u8 1,.int .u8 0,.int .u8 1,.int .u8 154,.int .u8 128] 5)).re τ d=(p2.re τ d).alloc (.cells #[.int .u8 70,.int .u8 0,.int .u8 5,.int .u8 0,.int .u8 2,.int .u8 2,.int .u8 1,.int .u8 1,.int .u8 0,.int .u8 1,.int .u8 154,.int .u8 128] 5)from rfl];have kc2:=kc (p2.re τ d) #[.int .u8 70,.int .u8 0,.int .u8 5,.int .u8 0,.int .u8 2,.int .u8 2,.int .u8 1,.int .u8 1,.int .u8 0,.int .u8 1,.int .u8 154,.int .u8 128] 12 12;rw[show(p2.re τ d).heap.size=p2.heap.size from rfl]at kc2;go_simp;refine hK _ _ ?_;clear hK kc kc2;try walk_nrm
 refine qR.re (p:=p2.alloc (.cells #[.int .u8 70,.int .u8 0,.int .u8 5,.int .u8 0,.int .u8 2,.int .u8 2,.int .u8 1,.int .u8 1,.int .u8 0,.int .u8 1,.int .u8 154,.int .u8 128] 5 (12,13))) ?_ τ d;clear τ d;obtain⟨w3,hw3⟩:∃w3,w3=p2.alloc (.cells #[.int .u8 70,.int .u8 0,.int .u8 5,.int .u8 0,.int .u8 2,.int .u8 2,.int .u8 1,.int .u8 1,.int .u8 0,.int .u8 1,.int .u8 154,.int .u8 128] 5 (12,13)):=⟨_,rfl⟩;rw[<-hw3];have h3:Grw p2 w3:=by rw[hw3];exact(Grw.refl p2).alloc _
 have hs3:w3.heap.size=p2.heap.size+1:=by rw[hw3,Go.Ren.size_alloc]
 have hc3:∀j,j<12->w3.cell? ⟨p2.heap.size,j,none⟩=some (.int .u8 (([70,0,5,0,2,2,1,1,0,1,154,128][j]?.getD 0:Nat):Int)):=fun j hj=>by
  rw[hw3];refine cell_alloc_any _ _ _ _ _ _ ?_;have:j=0\/j=1\/j=2\/j=3\/j=4\/j=5\/j=6\/j=7\/j=8\/j=9\/j=10\/j=11:=by omega
  rcases this with rfl|rfl|rfl|rfl|rfl|rfl|rfl|rfl|rfl|rfl|rfl|rfl<;>rfl
 have H3:=hide hs3;have HC3:=hide hc3
 clear hs3 hc3 hw3;refine qR.o qJ (by kernel_rfl) rfl rfl (fun τ d K hK=>?_);go_simp;refine hK _ _ ?_;clear hK;try walk_nrm
 rw[show(w3.re τ d).heap.size=w3.heap.size from rfl];refine qR.re (p:=w3.alloc (.cells #[.slice (some ⟨p2.heap.size,0,none⟩) 12 12] 36)) ?_ τ d;clear τ d;obtain⟨w4,hw4⟩:∃w4,w4=w3.alloc (.cells #[.slice (some ⟨p2.heap.size,0,none⟩) 12 12] 36):=⟨_,rfl⟩;rw[<-hw4];have h4:Grw w3 w4:=by rw[hw4];exact(Grw.refl w3).alloc _
 have hc4:w4.cell? ⟨w3.heap.size,0,none⟩=some (.slice (some ⟨p2.heap.size,0,none⟩) 12 12):=by rw[hw4];exact cell_alloc_any _ _ _ _ _ _ rfl
 have hg4:Grw p2 w4:=h3.trans h4;have hL4:LSt w4 p2.heap.size (p1.heap.size+1) p1.heap.size [5] (fun _=>oj5) (fun _ _=>false) [] (fun _=>⟨0,0,fun _=>0,fun _ _=>none,fun _ _=>0,fun _ _=>0⟩):=by
  refine LSt.start (hg4.ck (X:=fun _=>False) _ _ _ hH1.out (by simp) (by decide) id) ?_ _;rw[hg4.row _ (by rw[hH3.out];omega)];exact hH2.out
 have HL4:=hide hL4;have HC4:=hide hc4
 clear hL4 hc4 hw4;refine qR.callT rfl rfl (by decide) rfl Try.func28 rfl rfl (T':=#[.pointer (some ⟨p1.heap.size+1,0,none⟩),.slice (some ⟨w3.heap.size,0,none⟩) 1 1,undef,undef,undef,undef,undef,undef,undef,undef,undef,undef,undef,undef,undef,undef,undef,undef,undef,undef,undef,undef,undef,undef,undef,undef,undef,undef]) (by simp[Act.eval,Try.f28]) ?_;refine hear_lst (o:=?o) (i:=5) (z:=0) (q:=1) (gb:=p2.heap.size) (cap:=12) ?ho HL4.out oj5_ok (by decide) (by decide) (by decide) (by show 0<oj5.N;rw[oj5_N];decide) (by show 1<oj5.K 0+1;rw[oj5_K];decide) hg4.size HC4.out (by decide) (fun j hj=>?hcells) (fun b p5 l5 A5 hb5 hL5 hlow5 hsz5 hos5 hout5=>?hend)
 case ho=>rfl
 case hcells=>
  show w4.cell? _=some (.int .u8 (((oj5.pkt 5 0 1)[j]?.getD 0:Nat):Int));rw[oj5_pkt];exact h4.cell (HC3.out j hj)
 case hend=>
 have hb:b=true:=hb5;subst hb;clear hb5 HL4 HC4 HC3;simp only[if_true];try walk_nrm
 refine qR.o qJ (by kernel_rfl) rfl rfl (fun τ d K hK=>?_);go_simp;refine hK _ _ ?_;clear hK;refine qR.re ?_ _ _;try walk_nrm
 refine qR.o qJ (by kernel_rfl) rfl rfl (fun τ d K hK=>?_);go_simp;refine hK _ _ ?_;clear hK;refine qR.re ?_ _ _;try walk_nrm
 refine qR.o qJ (by kernel_rfl) rfl rfl (fun τ d K hK=>?_);go_simp;refine hK _ _ ?_;clear hK;refine qR.re ?_ _ _;try walk_nrm
 refine qR.o qJ (by kernel_rfl) rfl rfl (fun τ d K hK=>?_);go_simp;refine hK _ _ ?_;clear hK;refine qR.re ?_ _ _;try walk_nrm
 refine qR.o qJ (by kernel_rfl) rfl rfl (fun τ d K hK=>?_);go_simp;refine hK _ _ ?_;clear hK;refine qR.re ?_ _ _;try walk_nrm
 refine qR.regEnd ?_;have hA5:AfterT Sh Sh p p5:=by
  refine AfterT.of_grw ?_;have h12:=h1.trans (h2.trans hg4);refine⟨Nat.le_trans h12.size hsz5,fun b hb=>?_,hos5.trans h12.os,hout5.trans h12.output⟩;have e1:=h1.size;have e2:=h2.size;rw[hlow5 b (by omega) (by omega)];exact h12.row b hb
 have hT1:oj5.T=2:=by decide+kernel
 have hd5:upd2 (fun _ _=>false) 5 (oj5.off 0+1) 5 1=true:=by
  rw[oj5_off];simp[upd2,upd]
 obtain⟨ob,hg5⟩:=hL5.has (i:=5) (k:=1) (by decide) (by show 1<oj5.T;rw[hT1];decide) hd5;obtain⟨es5,clock5,hmap5,hm5⟩:=hL5.map;have hO5:=hL5.obj 5 ob hg5;have HL5:=hide hL5;have HA5:=hide hA5;have HM5:=hide hmap5;have Hm5:=hide hm5;have HG5:=hide hg5;have HO5:=hide hO5;have Hd5:=hide hd5
 clear hL5 hA5 hmap5 hm5 hg5 hO5 hd5 hlow5 hsz5 hos5 hout5 H3 hH1 hH2 hH3 hg4 h4 h3 h2;refine qR.seq (qR.reg (todo:= [0,1,2,3,4,5,6]) rfl ?_);refine qR.o qJ (by kernel_rfl) rfl rfl (fun τ d K hK=>?_);go_simp;refine hK _ _ ?_;clear hK;refine qR.re ?_ _ _;try walk_nrm
 refine qR.callT rfl rfl (by decide) rfl Try.func48 rfl rfl (T':=#[.pointer (some ⟨p1.heap.size+1,0,none⟩),.int .i64 5,undef,undef,undef,undef,undef,undef,undef,undef,undef,undef,undef,undef,undef,undef,undef,undef,undef,undef,undef,undef,undef,undef,undef,undef,undef,undef,undef,undef,undef,undef,undef,undef,undef,undef,undef,undef]) (by simp[Act.eval,Try.f48]) ?_;refine object_bto (o:=?o2) (id:=5) ?ho2 HL5.out.lis HM5.out Hm5.out HG5.out HO5.out.row HO5.out.blocks (oj5_ok.flat_len) (fun S6 q6 v6 v7 ok6 e6 hA6 hno6 hyes6=>?hend2)
 case ho2=>rfl
 case hend2=>
 have hok:ok6=true:=by
  refine(hA6.whole).2 fun z hz=>?_;have hz0:z=0:=by
   have:z<oj5.N:=hz;rw[oj5_N]at this;omega
  subst hz0;have hp1:((A5 5).pa 0 1).isSome=true:=by
   rw[HO5.out.heard 0 hz 1 (by show 1<oj5.K 0+1;rw[oj5_K];decide)];exact Hd5.out
  show wholeOf ((A5 5).pa 0) (oj5.K 0) 1=true;rw[oj5_K,wholeOf_cnt];show 1<=cntH ((A5 5).pa 0) 2;simp only[cntH,hp1];simp
 subst hok;obtain⟨rfl,g7,c7,hv7,_,hcell7⟩:=hyes6 rfl;replace hv7:v7= .slice (some ⟨g7,0,none⟩) 2 c7:=hv7;subst hv7;have hA7:AfterT Sh S6 p q6:=HA5.out.trans ⟨hA6.grown,hA6.keep,hA6.old,hA6.os,hA6.output⟩;have hcv:∀τ d,(convert 36 9 (.slice (some ⟨g7,0,none⟩) 2 c7)).run Try.prog (q6.re τ d)= .ok (.string (strOf [97,98])) (q6.re τ d):=fun τ d=>by
  refine conv_bytes (bs:= [97,98]) rfl (fun j hj=>?_);rw[Nat.zero_add];refine(hcell7 j hj).trans ?_;rw[oj5_ok.flat_at hj];rfl
 have HA7:=hide hA7;have HCV:=hide hcv
 clear hA7 hcv hcell7 hyes6 hno6 hA6 HL5 HA5 HM5 Hm5 HG5 HO5 Hd5 hT1;try walk_nrm
 refine qR.o qJ (by kernel_rfl) rfl rfl (fun τ d K hK=>?_);go_simp;refine hK _ _ ?_;clear hK;refine qR.re ?_ _ _;try walk_nrm
 refine qR.o qJ (by kernel_rfl) rfl rfl (fun τ d K hK=>?_);go_simp;refine hK _ _ ?_;clear hK;refine qR.re ?_ _ _;try walk_nrm
 refine qR.o qJ (by kernel_rfl) rfl rfl (fun τ d K hK=>?_);go_simp;refine hK _ _ ?_;clear hK;refine qR.re ?_ _ _;try walk_nrm
 refine qR.o qJ (by kernel_rfl) rfl rfl (fun τ d K hK=>?_);go_simp;refine hK _ _ ?_;clear hK;refine qR.re ?_ _ _;try walk_nrm
 refine qR.o qJ (by kernel_rfl) rfl rfl (fun τ d K hK=>?_);go_simp;refine hK _ _ ?_;clear hK;refine qR.re ?_ _ _;try walk_nrm
 refine qR.regEnd ?_;refine qR.runV qJ (by kernel_rfl) fun τ d=>?_;have hcv:=HCV.out τ d;go_wp2;intro todo;refine qR.re ?_ _ _;have e:((strOf [97,98]).toList== [97,98])=true:=by decide+kernel
 exact qR.back ho Try.func26 (v:=.bool true) (by simp[results,Try.f26,go_sem,e]) (by simp[results,Try.f26]) (HE.out S6 q6 HA7.out)
end Go.Proofs.Ytmfpiodlecapiaa
namespace Go.Proofs.Ytmfpiodlecapiaa
open Go.RowKit Go.Deep Go.Poi
def KC(B:Nat)(q q':World):Prop:=∀(b i:Nat) (v:Value),q.cell? ⟨b,i,none⟩=some v->(∀x,v≠.bool x)->b<B->q'.cell? ⟨b,i,none⟩=some v
theorem KC.of_afterT{Sh Sh':Nat->Prop}{B:Nat}{q q':World}(h:AfterT Sh Sh' q q'):KC B q q':=fun b i v hc _ _=>by
 obtain⟨c,e,fz,k1,k2,k3⟩:=cell_live hc;have:=h.keep _ _ k1 k3;simpa[World.cell?,this]using k2
theorem KC.of_grw{B:Nat}{q q':World}(h:Grw q q'):KC B q q':=fun _ _ _ hc _ _=>h.cell hc
theorem KC.of_low{B mr clock:Nat}{es:Array MapEntry}{q q':World}(hm:q.heap[mr]? =some (.map es clock))(h:∀b,b<B->b≠mr->q'.heap[b]? =q.heap[b]?):KC B q q':=fun b i v hc _ hb=>by
 rw[<-hc];refine World.cell?_of_block (h b hb fun e=>?_);subst e;simp[World.cell?,hm]at hc
theorem KC.setB{B g i:Nat}{q:World}{L:List Value}(hg:qS q g 4 L)(hL:∀v∈L,∃x,v= .bool x)(v:Value):KC B q (q.setCell ⟨g,i,none⟩ v):=fun b j u hc hu _=>by
 have hne:b≠g:=fun e=>by
  subst e;obtain⟨x,e⟩:=hL u (List.mem_of_getElem? (rowL_has hg hc));exact hu x e
 rw[<-hc];refine World.cell?_of_block ?_;simp[World.setCell,Array.getElem?_modify,Ne.symm hne]
theorem KC.trans{B:Nat}{q q1 q2:World}(h:KC B q q1)(h':KC B q1 q2):KC B q q2:=fun b i v hc hu hb=>h' b i v (h b i v hc hu hb) hu hb
structure MB(q:World)(B m:Nat)(S:Nat->Oj)(ga gp:Nat)(gl cp:Nat->Nat):Prop where
 lo:ga<B/\gp<B
 all:∀i,i<m->q.cell? ⟨ga,i,none⟩=some (.slice (some ⟨gl i,0,none⟩) (S i).T (cp i))
 p0:∀i,i<m->q.cell? ⟨gp,i*3,none⟩=some (.int .i64 ((S i).sz:Nat))
 p1:∀i,i<m->q.cell? ⟨gp,i*3+1,none⟩=some (.int .i64 ((S i).ms:Nat))
 p2:∀i,i<m->q.cell? ⟨gp,i*3+2,none⟩=some (.int .i64 ((S i).V:Nat))
 glo:∀i,i<m->gl i<B
 pk:∀i,i<m->∀z n,z<(S i).N->n<(S i).K z+(S i).V->∃g,g<B/\q.cell? ⟨gl i,(S i).off z+n,none⟩=some (.slice (some ⟨g,0,none⟩) (10+(S i).sz) (10+(S i).sz))/\∀j,j<10+(S i).sz->q.cell? ⟨g,j,none⟩=some (.int .u8 ((((S i).pkt i z n)[j]?.getD 0:Nat):Int))
theorem MB.keep{q q':World}{B m:Nat}{S:Nat->Oj}{ga gp:Nat}{gl cp:Nat->Nat}(h:MB q B m S ga gp gl cp)(hk:KC B q q'):MB q' B m S ga gp gl cp:=by
 refine⟨h.lo,fun i hi=>hk _ _ _ (h.all i hi) (by simp) h.lo.1,fun i hi=>hk _ _ _ (h.p0 i hi) (by simp) h.lo.2,fun i hi=>hk _ _ _ (h.p1 i hi) (by simp) h.lo.2,fun i hi=>hk _ _ _ (h.p2 i hi) (by simp) h.lo.2,h.glo,fun i hi z n hz hn=>?_⟩;obtain⟨g,h1,h2,h3⟩:=h.pk i hi z n hz hn;exact⟨g,h1,hk _ _ _ h2 (by simp) (h.glo i hi),fun j hj=>hk _ _ _ (h3 j hj) (by simp) h1⟩
def boolsL(n:Nat)(f:Nat->Bool):List Value:=(List.range n).map fun k=>.bool (f k)
theorem boolsL_at{n:Nat}{f:Nat->Bool}{k:Nat}(h:k<n):(boolsL n f)[k]? =some (.bool (f k)):=by simp[boolsL,h]
theorem boolsL_bool{n:Nat}{f:Nat->Bool}:∀v∈boolsL n f,∃x,v= .bool x:=fun v hv=>by
 obtain⟨k,_,rfl⟩:=List.mem_map.1 hv;exact⟨_,rfl⟩
theorem boolsL_set{n:Nat}{f:Nat->Bool}{k:Nat}:(boolsL n f).set k (.bool true)=boolsL n (upd f k):=by
 apply List.ext_getElem?;intro i;by_cases e:k=i
 ·subst e;by_cases h:k<n
  ·rw[List.getElem?_set_self (by simpa[boolsL]using h)];simp[boolsL,h,upd]
  ·simp[boolsL,h]
 ·rw[List.getElem?_set_ne e];by_cases h:i<n
  ·simp[boolsL,h,upd,Ne.symm e]
  ·simp[boolsL,h]
structure HB(q:World)(B m:Nat)(S:Nat->Oj)(gh:Nat)(hr:Nat->Nat)(hd:Nat->Nat->Bool):Prop where
 lo:gh<B
 top:∀i,i<m->q.cell? ⟨gh,i,none⟩=some (.slice (some ⟨hr i,0,none⟩) (S i).T (S i).T)
 row:∀i,i<m->qS q (hr i) 4 (boolsL (S i).T (hd i))
 inj:∀i j,i<m->j<m->hr i=hr j->i=j
 low:∀i,i<m->hr i<B
theorem HB.keep{q q':World}{B m:Nat}{S:Nat->Oj}{gh:Nat}{hr:Nat->Nat}{hd:Nat->Nat->Bool}(h:HB q B m S gh hr hd)(hk:KC B q q')(hb:∀i,i<m->q'.heap[hr i]? =q.heap[hr i]?):HB q' B m S gh hr hd:=
 ⟨h.lo,fun i hi=>hk _ _ _ (h.top i hi) (by simp) h.lo,fun i hi=>(h.row i hi).of_block (hb i hi),h.inj,h.low⟩
theorem HB.set{q:World}{B m:Nat}{S:Nat->Oj}{gh:Nat}{hr:Nat->Nat}{hd:Nat->Nat->Bool}(h:HB q B m S gh hr hd){o:Nat}(ho:o<m)(k:Nat):HB (q.setCell ⟨hr o,k,none⟩ (.bool true)) B m S gh hr (upd2 hd o k):=by
 refine⟨h.lo,fun i hi=>KC.setB (h.row o ho) boolsL_bool _ _ _ _ (h.top i hi) (by simp) h.lo,fun i hi=>?_,h.inj,h.low⟩;by_cases e:i=o
 ·subst e;rw[upd2_same,<-boolsL_set];exact(h.row i hi).set k _
 ·rw[upd2_ne _ _ e];exact(h.row i hi).other (fun e2=>e (h.inj i o hi ho e2)) _
def mixOj(x:Int)(y z:Int)(s:ByteArray):Oj:=⟨min s.size 200,1+pickN x 16,1+pickN y 20,pickN z 21,(bytesOf s).take (min s.size 200)⟩
theorem mixOj_many(x y z:Int)(s:ByteArray):manyN (mixOj x y z s).len (mixOj x y z s).sz (mixOj x y z s).ms=false:=by
 have ha:=pickN_lt x (n:=16) (by omega);have hb:=pickN_lt y (n:=20) (by omega);show manyN (min s.size 200) (1+pickN x 16) (1+pickN y 20)=false;generalize pickN x 16=a at ha;generalize pickN y 20=b at hb;unfold manyN;have h1:(min s.size 200+(1+a)-1)/(1+a)<=min s.size 200+(1+a)-1:=Nat.div_le_self _ _;have h2:=Nat.div_le_self ((min s.size 200+(1+a)-1)/(1+a)+(1+b)-1) (1+b);simp only[decide_eq_false_iff_not];omega
theorem mixOj_ok(x y z:Int)(s:ByteArray):(mixOj x y z s).Ok:=by
 have ha:=pickN_lt x (n:=16) (by omega);have hb:=pickN_lt y (n:=20) (by omega);have hc:=pickN_lt z (n:=21) (by omega);have hm:=mixOj_many x y z s;have h1:1<=(mixOj x y z s).ms:=Nat.le_add_right _ _;rw[manyN_eq h1]at hm;refine⟨?_,?_,?_,h1,?_,?_,by simpa using hm,?_,fun x hx=>bytesOf_lt s x (List.mem_of_mem_take hx)⟩
 ·show min s.size 200<=2000;omega
 ·show 1<=1+pickN x 16;omega
 ·show 1+pickN x 16<=16;omega
 ·show 1+pickN y 20<=20;omega
 ·show pickN z 21<=20;omega
 ·show((bytesOf s).take (min s.size 200)).length=min s.size 200;rw[List.length_take,bytesOf_length];omega
end Go.Proofs.Ytmfpiodlecapiaa
namespace Go.Poi
open Go.Ren Go.Frag Go.Conc Go.RowKit
variable {P:Program} {Sh:Nat->Prop} {Post:(Nat->Prop)->Goroutine->World->Prop} {b:Frame} {a:Act} {k:List Item} {cs:List Frame} {p:World} {ops:Array Oper}
theorem qR.unc{c c1:Code}(e:c=c1)(h:qR P Sh (G (b.at a (.code c1::k)) cs) p Post):qR P Sh (G (b.at a (.code c::k)) cs) p Post:=by
 rw[e];exact h
theorem qR.hideK{c:Code}(h:∀kk,kk=k->qR P Sh (G (b.at a (.code c::kk)) cs) p Post):qR P Sh (G (b.at a (.code c::k)) cs) p Post:=h k rfl
structure Grb(row:Option Nat)(p q:World):Prop where
 size:p.heap.size<=q.heap.size
 block:∀k,k<p.heap.size->some k≠row->q.heap[k]? =p.heap[k]?
 os:q.os=p.os
 output:q.output=p.output
theorem qR.append{i:Nat}{rest:List Nat}{o:Oper}(ho:ops[i]? =some o)(hgd:o.guard=none)(hk:b.kind≠.early)(hT:Tm P (execOp a.eval o)){s x:Operand}{t e:TypeId}(hop:o.op= .call {callee:=.builtin .append,args:=#[s,x],argTypes:=#[t,t]})
  {base size bytes n m c:Nat}{ti:TypeInfo}{z v:Value}{ad:Addr}{xs news:List Value}(ht:P.underlying t=some (.slice e))(hi:P.info? e=some ti)(hz:ti.zero=some z)(hsize:ti.size=size)(hby:ti.bytes=bytes)(hzs:z.cells.size=size)(hsz:0<size)
  (hs:a.eval s=v)(hown:p.ownsRow base e size v n xs)(hx:a.eval x= .slice (some ad) m c)(hl:news.length=m*size)(hnews:∀j u,news[j]? =some u->p.cell? (ad.add j)=some u)(h1:∀u∈news,u.oneCell'=true)
  (h63:n+m<=maxLen)(hbytes:(n+m)*bytes<=140737488355328)(hbase:base<=p.heap.size)
  (hn:∀v' p',p'.ownsRow base e size v' (n+m) (xs++news)->Grb v.ownBlock p p'->qR P Sh (G (b.at (a.put o.dst v') (.inRegion ops rest::k)) cs) p' Post):
  qR P Sh (G (b.at a (.inRegion ops (i::rest)::k)) cs) p Post:=by
 refine qR.op hT ho (by simp[Region.wanted,hgd]) hk (fun τ d K hK=>?_);obtain⟨v',w',hr,h2,h3,_⟩:=run_append_own (P:=P) (p.re τ d) base t o.type e ti z size bytes ht hi hz hsize hby hzs hsz v n xs hown ad m c news hl hnews h1 h63 hbytes hbase;have hrun:(execOp a.eval o).run P (p.re τ d)= .ok (.value v') w':=by
  unfold execOp;simp only[hop,resolve,invoke,builtin,Sem.run_bind,Sem.run_pure,Result.andThen_ok,List.map_toArray,List.map_cons,List.map_nil,hs,hx,hr]
 rw[hrun];exact hK _ _ (hn v' w' h2 ⟨h3.size,h3.block,h3.os,h3.output⟩)
end Go.Poi
namespace Go.Poi
open Go.Ren Go.Frag Go.Conc
def depsOf(ops:Array Oper)(i:Nat):List Nat:=((ops[i]?).map fun o=>(o.after.toList.filter fun e=>Region.binds .any e).map (·.on)).getD []
theorem ready_mem{ops:Array Oper}{l:Array Bool}{i:Nat}:i∈Region.ready .any ops l↔i<ops.size/\l.getD i true=false/\∀j∈depsOf ops i,l.getD j false=true:=by
 unfold Region.ready depsOf;rw[List.mem_filter,List.mem_range];constructor
 ·rintro⟨h1,h2⟩;simp only[Bool.and_eq_true,Bool.not_eq_eq_eq_not,Bool.not_true]at h2;refine⟨h1,h2.1,fun j hj=>?_⟩;have h3:=h2.2;rw[Array.getElem?_eq_getElem h1]at h3 hj;simp only[Option.map_some,Option.getD_some,List.mem_map,List.mem_filter]at h3 hj;obtain⟨e,⟨he1,he2⟩,rfl⟩:=hj;rw[Array.all_eq_true]at h3;obtain⟨k,hk,rfl⟩:=Array.mem_iff_getElem.1 (show e∈ops[i].after by simpa using he1);have:=h3 k hk;rw[he2]at this;simpa using this
 ·rintro⟨h1,h2,h3⟩;refine⟨h1,?_⟩;rw[Array.getElem?_eq_getElem h1]at h3⊢;simp only[Option.map_some,Option.getD_some,List.mem_map,List.mem_filter]at h3⊢;simp only[h2,Bool.not_false,Bool.true_and];rw[Array.all_eq_true];intro k hk;cases hb:Region.binds .any ops[i].after[k]with
  |false=>rfl
  |true=>
   have:=h3 _ ⟨ops[i].after[k],⟨by simp,hb⟩,rfl⟩;rw[this];rfl
def mixT(dst:Nat->Nat)(val:Nat->Value)(T0:Array Value)(l:Nat->Bool):Nat->Array Value
 |0=>T0
 |m+1=>if l m then(mixT dst val T0 l m).setIfInBounds (dst m) (val m)else mixT dst val T0 l m
variable {dst:Nat->Nat} {val:Nat->Value} {T0:Array Value}
theorem mix_size(l:Nat->Bool):∀m,(mixT dst val T0 l m).size=T0.size
 |0=>rfl
 |m+1=>by
  simp only[mixT];split
  ·simp[mix_size l m]
  ·exact mix_size l m
theorem mix_other(l:Nat->Bool){k:Nat}:∀m,(∀i,i<m->l i=true->dst i≠k)->(mixT dst val T0 l m)[k]? =T0[k]?
 |0,_=>rfl
 |m+1,h=>by
  have ih:=mix_other l m (fun i hi=>h i (by omega));simp only[mixT];split
  ·rename_i hl;rw[Array.getElem?_setIfInBounds_ne (h m (by omega) hl)];exact ih
  ·exact ih
theorem mix_at(l:Nat->Bool){i:Nat}:∀m,(∀i j,i<m->j<m->dst i=dst j->i=j)->i<m->l i=true->dst i<T0.size->(mixT dst val T0 l m)[dst i]? =some (val i)
 |0,_,h,_,_=>by omega
 |m+1,hinj,h,hl,hs=>by
  simp only[mixT];by_cases e:i=m
  ·subst e;rw[if_pos hl,Array.getElem?_setIfInBounds_self_of_lt (by rw[mix_size];exact hs)]
  ·have ih:=mix_at l m (fun i j h1 h2=>hinj i j (by omega) (by omega)) (by omega:i<m) hl hs;split
   ·rw[Array.getElem?_setIfInBounds_ne (fun e2=>e (hinj m i (by omega) (by omega) e2).symm)];exact ih
   ·exact ih
theorem mix_set{l l':Nat->Bool}{i m:Nat}(hinj:∀i j,i<m->j<m->dst i=dst j->i=j)(hi:i<m)(hl':l' i=true)(hne:∀j,j≠i->l' j=l j)(hs:∀i,i<m->dst i<T0.size):(mixT dst val T0 l m).setIfInBounds (dst i) (val i)=mixT dst val T0 l' m:=by
 apply Array.ext_getElem?;intro k;by_cases e:dst i=k
 ·subst e;rw[Array.getElem?_setIfInBounds_self_of_lt (by rw[mix_size];exact hs i hi),mix_at l' m hinj hi hl' (hs i hi)]
 ·rw[Array.getElem?_setIfInBounds_ne e];by_cases h:∃j,j<m/\l j=true/\dst j=k
  ·obtain⟨j,h1,h2,rfl⟩:=h;have hji:j≠i:=fun e2=>e (by rw[e2]);rw[mix_at l m hinj h1 h2 (hs j h1),mix_at l' m hinj h1 (by rw[hne j hji];exact h2) (hs j h1)]
  ·rw[mix_other l m (fun j h1 h2 h3=>h ⟨j,h1,h2,h3⟩),mix_other l' m (fun j h1 h2 h3=>?_)];by_cases hji:j=i
   ·subst hji;exact e h3
   ·exact h ⟨j,h1,by rw[<-hne j hji];exact h2,h3⟩
theorem mix_congr{l l':Nat->Bool}:∀m,(∀i,i<m->l i=l' i)->mixT dst val T0 l m=mixT dst val T0 l' m
 |0,_=>rfl
 |m+1,h=>by simp only[mixT,h m (by omega),mix_congr m (fun i hi=>h i (by omega))]
theorem least_of{p:Nat->Prop}(h:∃i,p i):∃i,p i/\∀j,j<i->¬p j:=by
 obtain⟨i,hi⟩:=h;induction i using Nat.strongRecOn with
 |ind i ih=>
  by_cases hx:∃j,j<i/\p j
  ·obtain⟨j,h1,h2⟩:=hx;exact ih j h1 h2
  ·exact⟨i,hi,fun j hj hp=>hx ⟨j,hj,hp⟩⟩
def cnt(l:Nat->Bool):Nat->Nat
 |0=>0
 |m+1=>cnt l m+if l m then 0 else 1
theorem cnt_same{l l':Nat->Bool}:∀m,(∀i,i<m->l i=l' i)->cnt l m=cnt l' m
 |0,_=>rfl
 |m+1,h=>by simp only[cnt,h m (by omega),cnt_same m (fun i hi=>h i (by omega))]
theorem cnt_set{l l':Nat->Bool}{i:Nat}(hl:l i=false)(hl':l' i=true)(hne:∀j,j≠i->l' j=l j):∀m,i<m->cnt l m=cnt l' m+1
 |0,h=>by omega
 |m+1,h=>by
  simp only[cnt];by_cases e:i=m
  ·subst e;rw[hl,hl',cnt_same i (fun j hj=>(hne j (by omega)).symm)];simp
  ·rw[cnt_set hl hl' hne m (by omega),hne m (Ne.symm e)];omega
variable {P:Program} {Sh:Nat->Prop} {Post:(Nat->Prop)->Goroutine->World->Prop} {b:Frame} {k:List Item} {cs:List Frame} {p:World} {ops:Array Oper}
inductive RdSt(ops:Array Oper)(m:Nat)(dst:Nat->Nat)(val:Nat->Value)(T0:Array Value)(vc:Value)(dc ds:Nat)(F:(Nat->Prop)->World->Prop)(Sh:Nat->Prop)(p:World):Nat->Array Bool->Act->(Nat->Prop)->World->Prop
 |pre (l:Array Bool):l.size=m+2->l.getD m false=false->l.getD (m+1) false=false->(∀i,i<m->l.getD i false=true->∀j∈depsOf ops i,l.getD j false=true)->RdSt ops m dst val T0 vc dc ds F Sh p (cnt (fun i=>l.getD i false) m+2) l ⟨mixT dst val T0 (fun i=>l.getD i false) m,[]⟩ Sh p
 |mid (l:Array Bool) (S:Nat->Prop) (q:World):l.size=m+2->(∀i,i<=m->l.getD i false=true)->l.getD (m+1) false=false->F S q->RdSt ops m dst val T0 vc dc ds F Sh p 1 l ⟨(mixT dst val T0 (fun _=>true) m).setIfInBounds dc vc,[]⟩ S q
 |fin (l:Array Bool) (S:Nat->Prop) (q:World):F S q->RdSt ops m dst val T0 vc dc ds F Sh p 0 l ⟨((mixT dst val T0 (fun _=>true) m).setIfInBounds dc vc).setIfInBounds ds vc,[]⟩ S q
theorem getD_set_self{l:Array Bool}{i:Nat}{d:Bool}(h:i<l.size):(l.setIfInBounds i true).getD i d=true:=by
 simp[Array.getD_eq_getD_getElem?,h]
theorem getD_set_ne{l:Array Bool}{i j:Nat}{d:Bool}(h:j≠i):(l.setIfInBounds i true).getD j d=l.getD j d:=by
 simp[Array.getD_eq_getD_getElem?,Array.getElem?_setIfInBounds_ne (Ne.symm h)]
theorem qR.reads{id m dc ds:Nat}{vc:Value}(hm:P.follows .mixedOrders=true)(hk:b.kind≠.early)(hsz:ops.size=m+2)
  (hdst:∀i j,i<m->j<m->dst i=dst j->i=j)(hin:∀i,i<m->dst i<T0.size)
  (hback:∀i,i<=m+1->∀j∈depsOf ops i,j<i)(hcov:∀L:Nat->Bool,(∀i,i<m->L i=true->∀j∈depsOf ops i,L j=true)->(∀j∈depsOf ops m,L j=true)->∀j,j<m->L j=true)(hlast:m∈depsOf ops (m+1))
  (hop:∀i,i<m->∃o,ops[i]? =some o/\o.dst=some (dst i)/\o.guard=none/\(∀a:Act,Tm P (execOp a.eval o))/\∀T:Array Value,T.size=T0.size->(∀j∈depsOf ops i,T[dst j]? =some (val j))->(∀k,(∀j,j<m->dst j≠k)->T[k]? =T0[k]?)->∀τ d,(execOp (Act.eval ⟨T,[]⟩) o).run P (p.re τ d)= .ok (.value (val i)) (p.re τ d))
  {o1:Oper}(ho1:ops[m+1]? =some o1)(hg1:o1.guard=none)(hop1:o1.op= .assign (.tmp dc))(hd1:o1.dst=some ds)(hT1:∀a:Act,Tm P (execOp a.eval o1))(hdc:dc<T0.size)
  {F:(Nat->Prop)->World->Prop}
  (hcall:∀rest,(∀S q,F S q->qR P S (G (b.at ⟨(mixT dst val T0 (fun _=>true) m).setIfInBounds dc vc,[]⟩ (.inRegion ops rest::k)) cs) q Post)->qR P Sh (G (b.at ⟨mixT dst val T0 (fun _=>true) m,[]⟩ (.inRegion ops (m::rest)::k)) cs) p Post)
  (hend:∀S q,F S q->qR P S (G (b.at ⟨((mixT dst val T0 (fun _=>true) m).setIfInBounds dc vc).setIfInBounds ds vc,[]⟩ k) cs) q Post):
  qR P Sh (G (b.at ⟨T0,[]⟩ (.code (.region id ops true)::k)) cs) p Post:=by
 have h0:RdSt ops m dst val T0 vc dc ds F Sh p ops.size (Array.replicate ops.size false) ⟨T0,[]⟩ Sh p:=by
  have hl:∀i,(Array.replicate ops.size false).getD i false=false:=fun i=>by
   rw[Array.getD_eq_getD_getElem?];by_cases h:i<ops.size<;>simp[h]
  have hf:(fun i=>(Array.replicate ops.size false).getD i false)=fun _=>false:=funext hl;have hc:∀n,cnt (fun _=>false) n=n:=fun n=>by
   induction n with
   |zero=>rfl
   |succ n ih=>simp[cnt,ih]
  have ht:∀n,mixT dst val T0 (fun _=>false) n=T0:=fun n=>by
   induction n with
   |zero=>rfl
   |succ n ih=>simp[mixT,ih]
  have h:=RdSt.pre (ops:=ops) (m:=m) (dst:=dst) (val:=val) (T0:=T0) (vc:=vc) (dc:=dc) (ds:=ds) (F:=F) (Sh:=Sh) (p:=p) (Array.replicate ops.size false) (by simp[hsz]) (hl _) (hl _) (fun i _ h=>by rw[hl]at h;cases h);rw[hf,hc,ht,<-hsz]at h;exact h
 refine qR.draw hm h0 ?_;intro n l a S q hst;cases hst with
 |pre _ h1 h2 h3 h4=>
  have gt:∀i,i<m+2->l.getD i true=l.getD i false:=fun i hi=>by
   rw[Array.getD_eq_getD_getElem?,Array.getD_eq_getD_getElem?,Array.getElem?_eq_getElem (by omega)];rfl
  refine⟨fun h=>?_,fun n hn i hi rest hr=>?_⟩
  ·exfalso;rcases h with h|h
   ·omega
   ·
    obtain⟨i,⟨k1,k2⟩,k3'⟩:=least_of (p:=fun i=>i<=m/\l.getD i false=false) ⟨m,Nat.le_refl _,h2⟩;have k3:∀j,j<i->l.getD j false=true:=fun j hj=>by
     cases hb:l.getD j false with
     |true=>rfl
     |false=>exact absurd ⟨by omega,hb⟩ (k3' j hj)
    have:i∈Region.ready .any ops l:=ready_mem.2 ⟨by omega,by rw[gt i (by omega)];exact k2,fun j hj=>k3 j (hback i (by omega) j hj)⟩;rw[h]at this;cases this
  ·obtain⟨r1,r2,r3⟩:=ready_mem.1 hi;rw[gt i (by omega)]at r2;by_cases him:i<m
   ·obtain⟨o,k1,k2,k3,k4,k5⟩:=hop i him;have hmix:(mixT dst val T0 (fun i=>l.getD i false) m).setIfInBounds (dst i) (val i)=mixT dst val T0 (fun j=>(l.setIfInBounds i true).getD j false) m:=
     mix_set hdst him (getD_set_self (by omega)) (fun j hj=>getD_set_ne hj) hin
    have hcnt:=cnt_set (l:=fun i=>l.getD i false) (l':=fun j=>(l.setIfInBounds i true).getD j false) r2 (getD_set_self (by omega)) (fun j hj=>getD_set_ne hj) m him;refine qR.op (k4 _) k1 (by simp[Region.wanted,k3]) hk (fun τ d K hK=>?_);rw[k5 _ (mix_size _ m) (fun j hj=>?_) (fun k' hk'=>mix_other _ m (fun j hj _=>hk' j hj)) τ d]
    ·refine hK _ _ (qR.re ?_ _ _);simp only[Act.put,k2];rw[hmix];have e:n=cnt (fun j=>(l.setIfInBounds i true).getD j false) m+2:=by omega
     subst e;refine hr _ _ _ (.pre _ (by simpa using h1) (by rw[getD_set_ne (by omega)];exact h2) (by rw[getD_set_ne (by omega)];exact h3) (fun i' hi' hl' j hj=>?_));by_cases e:i'=i
     ·subst e;have:=hback i' (by omega) j hj;rw[getD_set_ne (by omega)];exact r3 j hj
     ·rw[getD_set_ne e]at hl';have:=h4 i' hi' hl' j hj;by_cases ej:j=i
      ·subst ej;exact getD_set_self (by omega)
      ·rw[getD_set_ne ej];exact this
    ·have hji:=hback i (by omega) j hj;exact mix_at _ m hdst (by omega) (r3 j hj) (hin j (by omega))
   ·by_cases e:i=m
    ·subst e;have hall:=hcov (fun j=>l.getD j false) h4 r3;have hT:mixT dst val T0 (fun j=>l.getD j false) i=mixT dst val T0 (fun _=>true) i:=mix_congr i (fun j hj=>hall j hj);have hc0:cnt (fun j=>l.getD j false) i=0:=by
      have hz:∀n,cnt (fun _=>true) n=0:=fun n=>by
       induction n with
       |zero=>rfl
       |succ n ih=>simp[cnt,ih]
      rw[cnt_same (l':=fun _=>true) i (fun j hj=>hall j hj),hz]
     rw[hT];have hn1:n=1:=by omega
     subst hn1;refine hcall rest fun S' q' hF=>hr _ _ _ (.mid _ S' q' (by simpa using h1) (fun j hj=>?_) (by rw[getD_set_ne (by omega)];exact h3) hF);by_cases ej:j=i
     ·subst ej;exact getD_set_self (by omega)
     ·rw[getD_set_ne ej];exact hall j (by omega)
    ·have e2:i=m+1:=by omega
     subst e2;have:=r3 m hlast;rw[h2]at this;cases this
 |mid _ _ _ h1 h2 h3 h4=>
  have gt:∀i,i<m+2->l.getD i true=l.getD i false:=fun i hi=>by
   rw[Array.getD_eq_getD_getElem?,Array.getD_eq_getD_getElem?,Array.getElem?_eq_getElem (by omega)];rfl
  refine⟨fun h=>?_,fun n hn i hi rest hr=>?_⟩
  ·exfalso;rcases h with h|h
   ·cases h
   ·have:m+1∈Region.ready .any ops l:=ready_mem.2 ⟨by omega,by rw[gt _ (by omega)];exact h3,fun j hj=>h2 j (by have:=hback (m+1) (Nat.le_refl _) j hj;omega)⟩;rw[h]at this;cases this
  ·obtain⟨r1,r2,r3⟩:=ready_mem.1 hi;rw[gt i (by omega)]at r2;have e:i=m+1:=by
    by_cases hle:i<=m
    ·rw[h2 i hle]at r2;cases r2
    ·omega
   subst e;obtain rfl:n=0:=by omega
   refine qR.op (hT1 _) ho1 (by simp[Region.wanted,hg1]) hk (fun τ d K hK=>?_);have hrun:(execOp (Act.eval ⟨(mixT dst val T0 (fun _=>true) m).setIfInBounds dc vc,[]⟩) o1).run P (q.re τ d)= .ok (.value vc) (q.re τ d):=by
    unfold execOp;simp[hop1,Act.eval,mix_size,hdc]
   rw[hrun];refine hK _ _ (qR.re ?_ _ _);simp only[Act.put,hd1];exact hr _ _ _ (.fin _ S q h4)
 |fin _ _ _ h1=>
  refine⟨fun _=>?_,fun n hn=>by cases hn⟩;exact qR.regEnd (hend _ _ h1)
end Go.Poi
