/- Several objects, their packets heard mixed, some of them: each is told as it must be, for whatever input: the given statement MixedSaid, no condition. -/
import Derived.Test.YtmfpiodlecapiaaJ45
import Derived.ProofKit
import Derived.OpenShut
import Derived.SizedLaws
import Derived.SliceStrings
import Derived.ChangeSlices
import Derived.Carry
import Derived.Lib.SmallJoins
import Derived.Conc.LeavingOf
namespace Go.Proofs.Ytmfpiodlecapiaa.mixed
open Go.ChangeShapes Go.WideShapes Go.ChangeAt Go.RowKit Go.Joins Go.Conc Go.Poi Go.Ren
set_option linter.unusedVariables false
theorem own:ownKnob Try.prog.godebug=none:=by kernel_rfl
theorem laidOut:laidOutB Try.prog=true:=by kernel_rfl
theorem cellsStr:Try.prog.cellsOf 9=1:=by kernel_rfl
theorem cellsInt:Try.prog.cellsOf 3=1:=by kernel_rfl
theorem rows_ok{W:World}(h:W.ShapedOpen Try.prog):∀(b:Nat) o,W.heap[b]? =some o->okAt b o:=by
 intro b o hb;by_cases hlt:b<1
 ·have hz:((List.range 1).all fun g=>(((begin Try.prog (fun _ _=>0) default).world.heap[g]?).bind Obj.row?).isSome)=true:=by kernel_rfl
  have h1:=List.all_eq_true.1 hz b (List.mem_range.2 hlt);obtain⟨⟨zero,t⟩,h2⟩:=Option.isSome_iff_exists.1 h1;have hg:b<Try.prog.globals.size:=by
   have:Try.prog.globals.size=1:=by kernel_rfl
   omega
  obtain⟨cs,h3,_⟩:=h.1 b zero t hg h2;rw[h3]at hb;obtain rfl:=Option.some.inj hb;exact trivial
 ·cases o<;>first|exact trivial|(show 1<=b;omega)
theorem spot_none{W:World}{a:Addr}{v:Value}(h:W.cell? a=some v):a.spot=none:=by
 cases hs:a.spot with
 |none=>rfl
 |some s=>
  unfold World.cell? at h;split at h
  ·simp[hs]at h
  ·cases h
theorem enters(a b c d e:Value):Frame.enter Try.prog 9 #[a,b,c,d,e] .normal=(base 9).at ⟨#[a,b,c,d,e,undef,undef,undef,undef,undef,undef,undef,undef,undef,undef,undef,undef,undef,undef,undef,undef,undef,undef,undef,undef,undef,undef,undef,undef,undef,undef,undef,undef,undef,undef,undef,undef,undef,undef,undef,undef,undef,undef,undef,undef,undef,undef,undef,undef,undef,undef,undef,undef,undef,undef,undef,undef,undef,undef,undef,undef,undef,undef,undef,undef,undef,undef,undef,undef,undef,undef,undef,undef,undef,undef,undef,undef,undef,undef,undef,undef,undef,undef,undef,undef,undef,undef,undef,undef,undef,undef,undef,undef,undef,undef,undef,undef,undef,undef,undef,undef,undef,undef,undef,undef,undef,undef,undef,undef,undef,undef,undef,undef,undef,undef,undef,undef,undef,undef,undef,undef,undef,undef,undef,undef,undef,undef,undef,undef,undef,undef,undef,undef,undef,undef,undef,undef,undef,undef,undef,undef,undef,undef,undef,undef,undef,undef,undef,undef,undef,undef,undef,undef,undef,undef,undef,undef,undef,undef,undef,undef,undef,undef,undef,undef,undef,undef,undef,undef,undef,undef,undef,undef,undef,undef,undef,undef,undef,undef,undef,undef,undef,undef,undef,undef,undef,undef,undef,undef,undef,undef,undef,undef,undef,undef,undef,undef,undef,undef,undef,undef,undef,undef,undef,undef,undef,undef,undef,undef,undef,undef,undef,undef,undef,undef,undef,undef,undef,undef,undef,undef,undef,undef,undef,undef,undef],[]⟩ [.code (Try.f9.body.getD .skip)]:=by kernel_rfl
set_option maxRecDepth 100000 in
set_option maxHeartbeats 4000000 in
theorem lifted(os:Os)(started:os.Started)(H:Type)(enc:TypeId×Value->H):
  ReturnsInLeavingWide {} Try.checked os 9 .any (Rows.mixedSpec.pre6 enc Try.prog Try.f9 Rows.mixedRow.domain false) (Rows.mixedSpec.post enc Try.prog Try.f9 false true false false):=by
 refine returnsInLeavingWide_of_good (C:=Try.checked) own started
  (ChangeSpec.witness6 (enc:=enc) (C:=Try.checked) false ⟨#[],#[.slice none 0 0,.int .i64 0,.int .i64 0,.int .i64 0,.slice none 0 0],[]⟩ 8 (by kernel_rfl) (by kernel_rfl) (by kernel_rfl) (by kernel_rfl)) ?_
 intro w tape i _ hsh _ hok hpre _;obtain⟨_,_,_,fn',hfn',_,_,_,_,hval0⟩:=hok;have e:fn'=Try.f9:=Option.some.inj (hfn'.symm.trans Try.func9);subst e;obtain⟨⟨ds,gs,before,hw,_⟩,_⟩:=hpre;have hW0:=DataW.Whole.of_heap (w':=w.forCall tape i) (by rfl) hw;have hrows:=rows_ok hsh;generalize w.forCall tape i=W at*;generalize i.args=args at*;generalize w.heap.size=bs at*;have hval:∀(j:Nat) t v,Try.f9.params[j]? =some t->args[j]? =some v->Value.okWide Try.prog W .any bs t v:=hval0;have hW':=hW0;obtain⟨p,q,hA0,hV,rfl,hfz,hnd⟩:=hW0;have hA:DataW.TrodAll enc Try.prog W 0 (fun _=>true) true Try.f9.params.toList args.toList ds p:=hA0;rw[Try.params9]at hA hval;obtain⟨v0,vs0,d0,ds0,p0,q0,hargs,rfl,rfl,h0,r0⟩:=trodAll_cons hA;obtain⟨v1,vs1,d1,ds1,p1,q1,rfl,rfl,rfl,h1,r1⟩:=trodAll_cons r0;obtain⟨v2,vs2,d2,ds2,p2,q2,rfl,rfl,rfl,h2,r2⟩:=trodAll_cons r1;obtain⟨v3,vs3,d3,ds3,p3,q3,rfl,rfl,rfl,h3,r3⟩:=trodAll_cons r2;obtain⟨v4,vs4,d4,ds4,p4,q4,rfl,rfl,rfl,h4,r4⟩:=trodAll_cons r3;obtain⟨rfl,rfl,rfl⟩:=trodAll_nil r4;obtain rfl:args=#[v0,v1,v2,v3,v4]:=by cases args;simp_all
 obtain⟨rfl,rfl⟩:=trodVars_none hV;obtain⟨x,rfl,rfl,rfl,wx⟩:=open_int Try.underlying3 (hval 1 3 v1 rfl rfl) h1;obtain⟨y,rfl,rfl,rfl,wy⟩:=open_int Try.underlying3 (hval 2 3 v2 rfl rfl) h2;obtain⟨zz,rfl,rfl,rfl,wz⟩:=open_int Try.underlying3 (hval 3 3 v3 rfl rfl) h3;obtain⟨ao,no,co,rfl⟩:=okWide_slice Try.underlying56 (hval 0 56 v0 rfl rfl);obtain⟨aw,nw,cw,rfl⟩:=okWide_slice Try.underlying42 (hval 4 42 v4 rfl rfl);have h0k:=h0;have h4k:=h4;obtain⟨fu0,hf0⟩:=h0;obtain⟨fu4,hf4⟩:=h4;simp only[List.append_nil,List.nil_append]at hW';have hlt0:∀z∈p0,z.block<W.heap.size:=fun z hz=>by simpa using hW'.lt z (by simp[hz])
 have hlt4:∀z∈p4,z.block<W.heap.size:=fun z hz=>by simpa using hW'.lt z (by simp[hz])
 have hwhich:nw<=maxLen/\∃wv:Nat->Int,∀i,i<nw->∃b off,aw=some ⟨b,off,none⟩/\W.cell? ⟨b,off+i,none⟩=some (.int .i64 (wv i))/\(Lit.int .i64 (wv i)).wf=true:=by
  rcases open_ints Try.underlying42 Try.underlying3 cellsInt hf4 with⟨hcs,_⟩|⟨a,len',cap',zs,hcs,_,hl,hm,hz,_,hcell,hwz⟩
  ·simp[Value.cells]at hcs;obtain⟨rfl,rfl,rfl⟩:=hcs;exact⟨Nat.zero_le _,fun _=>0,fun i hi=>by omega⟩
  ·simp[Value.cells]at hcs;obtain⟨rfl,rfl,rfl⟩:=hcs;simp only[if_true]at hz;refine⟨by omega,fun i=>zs.getD i 0,fun i hi=>?_⟩;have hs:=spot_none (show W.cell? a=some _ by simpa[Addr.add]using hcell 0 (by omega));obtain⟨b,off,spot⟩:=a;obtain rfl:spot=none:=hs;have hc:=hcell i (by omega);rw[Addr.add_lit]at hc;refine⟨b,off,rfl,hc,hwz _ ?_⟩;show zs.getD i 0∈zs;rw[List.getD_eq_getElem?_getD,List.getElem?_eq_getElem (by omega)];exact List.getElem_mem _
 obtain⟨hnw,wv,hwh⟩:=hwhich;have hB:qR Try.prog (fun _=>False) (G (Frame.enter Try.prog 9 #[.slice ao no co,.int .i64 x,.int .i64 y,.int .i64 zz,.slice aw nw cw] .normal) []) W (MixEnd (fun _=>False) W):=by
  have hent:Frame.enter Try.prog 9 #[.slice ao no co,.int .i64 x,.int .i64 y,.int .i64 zz,.slice aw nw cw] .normal=(base 9).at ⟨#[.slice ao no co,.int .i64 x,.int .i64 y,.int .i64 zz,.slice aw nw cw,undef,undef,undef,undef,undef,undef,undef,undef,undef,undef,undef,undef,undef,undef,undef,undef,undef,undef,undef,undef,undef,undef,undef,undef,undef,undef,undef,undef,undef,undef,undef,undef,undef,undef,undef,undef,undef,undef,undef,undef,undef,undef,undef,undef,undef,undef,undef,undef,undef,undef,undef,undef,undef,undef,undef,undef,undef,undef,undef,undef,undef,undef,undef,undef,undef,undef,undef,undef,undef,undef,undef,undef,undef,undef,undef,undef,undef,undef,undef,undef,undef,undef,undef,undef,undef,undef,undef,undef,undef,undef,undef,undef,undef,undef,undef,undef,undef,undef,undef,undef,undef,undef,undef,undef,undef,undef,undef,undef,undef,undef,undef,undef,undef,undef,undef,undef,undef,undef,undef,undef,undef,undef,undef,undef,undef,undef,undef,undef,undef,undef,undef,undef,undef,undef,undef,undef,undef,undef,undef,undef,undef,undef,undef,undef,undef,undef,undef,undef,undef,undef,undef,undef,undef,undef,undef,undef,undef,undef,undef,undef,undef,undef,undef,undef,undef,undef,undef,undef,undef,undef,undef,undef,undef,undef,undef,undef,undef,undef,undef,undef,undef,undef,undef,undef,undef,undef,undef,undef,undef,undef,undef,undef,undef,undef,undef,undef,undef,undef,undef,undef,undef,undef,undef,undef,undef,undef,undef,undef,undef,undef,undef,undef,undef,undef,undef,undef,undef,undef,undef,undef,undef],[]⟩ [.code (Try.f9.body.getD .skip)]:=by
   exact enters _ _ _ _ _
  rw[hent];rcases open_strings Try.underlying56 Try.underlying9 cellsStr hf0 with⟨hcs,_⟩|⟨a,len',cap',ss,hcs,_,hl,hm,hz,_,hcell,hwz⟩
  ·simp[Value.cells]at hcs;obtain⟨rfl,rfl,rfl⟩:=hcs;exact mixed_bto0
  ·simp[Value.cells]at hcs;obtain⟨rfl,rfl,rfl⟩:=hcs;simp only[if_true]at hz;by_cases hno:no=0
   ·subst hno;exact mixed_bto0
   ·have hs:=spot_none (show W.cell? a=some _ by simpa[Addr.add]using hcell 0 (by omega));obtain⟨b,off,spot⟩:=a;obtain rfl:spot=none:=hs;refine mixed_bto (st:=fun i=>ss.getD i ByteArray.empty) (wv:=wv) rfl (by omega) wy wz (fun i hi=>⟨by have:=hcell i (by omega);rw[Addr.add_lit]at this;exact this,hwz _ ?_⟩) hnw hwh;show ss.getD i ByteArray.empty∈ss;rw[List.getD_eq_getElem?_getD,List.getElem?_eq_getElem (by omega)];exact List.getElem_mem _
 obtain⟨M,last,o,w',t',r1,r2,r3,r4⟩:=mixed_run hrows hB;refine⟨M,last,o,w',t',r1,r2,r3,r4.mono fun v hF=>ChangeSpec.post_blind ?_⟩;obtain⟨rfl,hos,hout,hrow⟩:=hF;have same:∀(z:MemPlace),z.block<W.heap.size->W.sameAt w' z:=fun z hz=>by
  cases z with
  |cell b o=>exact World.cell?_of_block (w:=W) (hrow b hz)
  |map b=>exact hrow b hz
 have a0:DataW.Trod enc Try.prog w' 0 (fun b=>decide (b<W.heap.size)) true 56 (.slice ao no co) d0 p0:=WideElems.Trod_stays laidOut (by kernel_rfl) (of_decide_eq_true (by kernel_rfl)) h0k (fun z hz=>same z (hlt0 z hz)) (fun z hz=>by simpa using hlt0 z hz);have a4:DataW.Trod enc Try.prog w' 0 (fun b=>decide (b<W.heap.size)) true 42 (.slice aw nw cw) d4 p4:=WideElems.Trod_stays laidOut (by kernel_rfl) (of_decide_eq_true (by kernel_rfl)) h4k (fun z hz=>same z (hlt4 z hz)) (fun z hz=>by simpa using hlt4 z hz);refine⟨_,_,_,[],_,[],hW',trodAll_cons_mk (shut_bool Try.underlying4 _) trodAll_mk0,(trodAll_cons_mk a0 (trodAll_cons_mk (shut_int Try.underlying3 wx) (trodAll_cons_mk (shut_int Try.underlying3 wy) (trodAll_cons_mk (shut_int Try.underlying3 wz) (trodAll_cons_mk a4 trodAll_mk0))))),rfl,⟨hos,hout,fun i hi=>?_⟩,fun h=>by cases h⟩;rw[hrow i hi];split<;>simp_all
theorem over:Rows.mixedRow.holds Try.pinned (OpenSpec.ofChange Rows.mixedSpec):=
 OpenClaim.holds_of_wide_leaving 9 Try.f9 rfl rfl rfl rfl rfl rfl rfl ⟨rfl,rfl,rfl,rfl,rfl⟩ rfl rfl rfl rfl rfl (by kernel_rfl) Try.func9 (by kernel_rfl)
  (of_decide_eq_true (by kernel_rfl)) (by unfold Func.isWrapper;first|(rw[if_pos (by decide+kernel)];kernel_rfl)|(rw[if_neg (by decide+kernel)];exact⟨rfl,rfl⟩))
  (fun os started H enc _=>lifted os started H enc)
theorem proved:Rows.MixedSaid:=
 over
#print axioms proved
end Go.Proofs.Ytmfpiodlecapiaa.mixed
