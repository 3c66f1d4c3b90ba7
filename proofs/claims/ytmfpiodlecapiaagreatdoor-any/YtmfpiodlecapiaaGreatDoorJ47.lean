/- Of all packets of an object, whichever are heard, in whatever order, whichever of them again, by Hear or by Read of their texts: the object is put together just if of each block as many pieces were heard as it was cut into; what is missing is told: the given card AnyCardSaid, with the listed variables as the program's own text lays them (the given tie). -/
import Derived.Test.YtmfpiodlecapiaaGreatDoorCards
import Derived.Test.YtmfpiodlecapiaaGreatDoorTie
import Derived.Test.YtmfpiodlecapiaaGreatDoorJ46
import Derived.ProofKit
import Derived.OpenShut
import Derived.SizedLaws
import Derived.SliceStrings
import Derived.ChangeSlices
import Derived.Carry
import Derived.Lib.SmallJoins
import Derived.Conc.LeavingOf
import Derived.Deep.DeepHandedRow
import Derived.Lib.LaidTab
import Derived.Lay
import Derived.LaidSub
import Derived.Shelf.LaysM
set_option maxRecDepth 100000
namespace Go.Proofs.YtmfpiodlecapiaaGreatDoor.any
open Go.ChangeShapes Go.WideShapes Go.ChangeAt Go.RowKit Go.Joins Go.Conc Go.eO Go.Ren
open Go.ChangeMaps (open_string shut_string)
set_option linter.unusedVariables false
theorem own:ownKnob Tryz.prog.godebug=none:=by kernel_rfl
theorem laidOut:laidOutB Tryz.prog=true:=by kernel_rfl
theorem TF:Tryz.prog.cellsOf 3=1:=by kernel_rfl
theorem rows_ok{W:World}(h:W.ShapedOpen Tryz.prog):∀(b:Nat) o,W.heap[b]? =some o->xR b o:=by
 intro b o hb;by_cases hlt:b<4
 ·have hz:((List.range 4).all fun g=>(((begin Tryz.prog (fun _ _=>0) default).world.heap[g]?).bind Obj.row?).isSome)=true:=by kernel_rfl
  have h1:=List.all_eq_true.1 hz b (List.mem_range.2 hlt);obtain⟨⟨zero,t⟩,h2⟩:=Option.isSome_iff_exists.1 h1;have hg:b<Tryz.prog.globals.size:=by
   have:Tryz.prog.globals.size=4:=by kernel_rfl
   omega
  obtain⟨cs,h3,_⟩:=h.1 b zero t hg h2;rw[h3]at hb;obtain rfl:=Option.some.inj hb;exact trivial
 ·cases o<;>first|exact trivial|(show 4<=b;omega)
theorem jI{W:World}{a:Addr}{v:Value}(h:W.cell? a=some v):a.spot=none:=by
 cases hs:a.spot with
 |none=>rfl
 |some s=>
  unfold World.cell? at h;split at h
  ·simp[hs]at h
  ·cases h
theorem enters(a b c d e f g:Value):Frame.enter Tryz.prog 4 #[a,b,c,d,e,f,g] .normal=(base 4).at ⟨#[a,b,c,d,e,f,g,undef,undef,undef,undef,undef,undef,undef,undef,undef,undef,undef,undef,undef,undef,undef,undef,undef,undef,undef,undef,undef,undef,undef,undef,undef,undef,undef,undef,undef,undef,undef,undef,undef,undef,undef,undef,undef,undef,undef,undef,undef,undef,undef,undef,undef,undef,undef,undef,undef,undef,undef,undef,undef,undef,undef,undef,undef,undef,undef,undef,undef,undef,undef,undef,undef,undef,undef,undef,undef,undef,undef,undef,undef,undef,undef,undef,undef,undef,undef,undef,undef,undef,undef,undef,undef,undef,undef,undef,undef,undef,undef,undef,undef,undef,undef,undef,undef,undef,undef,undef,undef,undef,undef,undef,undef,undef,undef,undef,undef,undef,undef,undef,undef,undef,undef,undef,undef,undef,undef,undef,undef,undef,undef,undef,undef,undef,undef,undef,undef,undef,undef,undef,undef,undef,undef,undef,undef,undef,undef,undef,undef,undef,undef,undef,undef,undef,undef,undef,undef,undef,undef,undef,undef,undef,undef,undef,undef,undef,undef,undef,undef,undef,undef,undef,undef,undef,undef,undef,undef,undef,undef],[]⟩ [.code (Tryz.f4.body.getD .skip)]:=by
 simp[Frame.enter,Tryz.func4,base,Frame.at];rfl
theorem gTab:Tryz.prog.globalNamed "fascine/letters.alphabet" =some 0:=by kernel_rfl
theorem SQ:(Tryz.prog.globals[0]?).map (·.type)=some 128:=by kernel_rfl
theorem TD:Tryz.prog.cellsOf 128=64:=by kernel_rfl
theorem OP:Tryz.prog.cellsOf 21=1:=by kernel_rfl
def zs:List Int:= [65,66,67,68,69,70,71,72,73,74,75,76,77,78,79,80,81,82,83,84,85,86,87,88,89,90,97,98,99,100,101,102,103,104,105,106,107,108,109,110,111,112,113,114,115,116,117,118,119,120,121,122,945,946,947,948,949,950,951,952,953,954,955,956]
theorem Zp:∀i,i<64->zs.getD i 0=((Tx.rn i:Nat):Int):=by decide
theorem table{W:World}(h:laidMetH Tryz.prog Rows.anyRow.laid W):Lib.TabIs Tryz.prog W "fascine/letters.alphabet" .i32 zs:=
 Lib.tabIs_of_head (rest:= []) gTab SQ Tryz.underlying128 Tryz.underlying21 OP TD (h.filter fun x=>x.1== "fascine/letters.alphabet")
theorem alpha{W:World}(h:laidMetH Tryz.prog Rows.anyRow.laid W):Alpha W:=fun i hi=>by
 have hc:=(table h).cell gTab i hi;rw[Zp i hi]at hc;exact hc
theorem FI{W:World}(h:W.ShapedOpen Tryz.prog):∃m,W.cell? ⟨1,0,none⟩=some (.int .i64 m):=
 Go.Proofs.cell_of_shapedOpen_int (zero:=#[.int .i64 0]) (t:=3) h (of_decide_eq_true (by kernel_rfl)) (by kernel_rfl) rfl (by kernel_rfl) (by kernel_rfl) Tryz.underlying3
theorem Rn(os:Os):laidMet Tryz.prog Rows.anyRow.laid ((World.laidAll Tryz.prog os Rows.anyRow.laid).forCall (fun _ _=>0) ⟨#[],#[.int .i64 0,.string ⟨#[]⟩,.int .i64 0,.int .i64 0,.int .i64 0,.slice none 0 0,.bool false],[]⟩).memory:=
 laidMet_laidAll _ (by kernel_rfl) (by kernel_rfl)
theorem reads(os:Os){H:Type}(enc:TypeId×Value->H):∃places,DataW.whole enc Tryz.prog ((World.laidAll Tryz.prog os Rows.anyRow.laid).forCall (fun _ _=>0) ⟨#[],#[.int .i64 0,.string ⟨#[]⟩,.int .i64 0,.int .i64 0,.int .i64 0,.slice none 0 0,.bool false],[]⟩).memory Tryz.f4.params.toList (OpenSpec.ofChange Rows.anySpec).vars false #[Value.int .i64 0,.string ⟨#[]⟩,.int .i64 0,.int .i64 0,.int .i64 0,.slice none 0 0,.bool false].toList 8=some ([.lit (.int .i64 0),.lit (.string []),.lit (.int .i64 0),.lit (.int .i64 0),.lit (.int .i64 0),.nil,.lit (.bool false)],[],places):=
 ⟨[],by kernel_rfl⟩
set_option maxHeartbeats 4000000 in
theorem lifted(os:Os)(started:os.Started)(H:Type)(enc:TypeId×Value->H):
  ReturnsInLeavingWide {} Tryz.checked os 4 .any ((OpenSpec.ofChange Rows.anySpec).preRow enc Tryz.prog Tryz.f4 Rows.anyRow.domain false Rows.anyRow.laid) (Rows.anySpec.post enc Tryz.prog Tryz.f4 false true false false):=by
 obtain⟨places,hx⟩:=reads os enc;refine returnsInLeavingWide_of_good (C:=Tryz.checked) own started
  (witness_row_at (enc:=enc) (C:=Tryz.checked) false (World.laidAll Tryz.prog os Rows.anyRow.laid) #[.int .i64 0,.string ⟨#[]⟩,.int .i64 0,.int .i64 0,.int .i64 0,.slice none 0 0,.bool false] (World.laidAll_os _ _ _) (by kernel_rfl) (by kernel_rfl) (by kernel_rfl)
   (OpenSpec.preRow_of_cond 8 hx (by kernel_rfl) (fun k hk=>by cases hk) (by kernel_rfl) (Rn os))) ?_
 intro w tape i _ hsh _ hok hpre _;obtain⟨_,_,_,fn',hfn',_,_,_,_,hval0⟩:=hok;have e:fn'=Tryz.f4:=Option.some.inj (hfn'.symm.trans Tryz.func4);subst e;obtain⟨⟨⟨ds,gs,before,hw,_⟩,hL⟩,_⟩:=hpre;have hW0:=DataW.Whole.of_heap (w':=w.forCall tape i) (by rfl) hw;have hal0:=alpha hL;have hal:Alpha (w.forCall tape i):=fun j hj=>hal0 j hj;have hrows:=rows_ok hsh;obtain⟨m,hmx⟩:=FI hsh;generalize w.forCall tape i=W at*;generalize i.args=args at*;generalize w.heap.size=bs at*;have hval:∀(j:Nat) t v,Tryz.f4.params[j]? =some t->args[j]? =some v->Value.okWide Tryz.prog W .any bs t v:=hval0;have hW':=hW0;obtain⟨p,q,hA0,hV,rfl,hfz,hnd⟩:=hW0;have hA:DataW.TrodAll enc Tryz.prog W 0 (fun _=>true) true Tryz.f4.params.toList args.toList ds p:=hA0;rw[Tryz.params4]at hA hval;obtain⟨v0,vs0,d0,ds0,p0,q0,hargs,rfl,rfl,h0,r0⟩:=trodAll_cons hA;obtain⟨v1,vs1,d1,ds1,p1,q1,rfl,rfl,rfl,h1,r1⟩:=trodAll_cons r0;obtain⟨v2,vs2,d2,ds2,p2,q2,rfl,rfl,rfl,h2,r2⟩:=trodAll_cons r1;obtain⟨v3,vs3,d3,ds3,p3,q3,rfl,rfl,rfl,h3,r3⟩:=trodAll_cons r2;obtain⟨v4,vs4,d4,ds4,p4,q4,rfl,rfl,rfl,h4,r4⟩:=trodAll_cons r3;obtain⟨v5,vs5,d5,ds5,p5,q5,rfl,rfl,rfl,h5,r5⟩:=trodAll_cons r4;obtain⟨v6,vs6,d6,ds6,p6,q6,rfl,rfl,rfl,h6,r6⟩:=trodAll_cons r5;obtain⟨rfl,rfl,rfl⟩:=trodAll_nil r6;obtain rfl:args=#[v0,v1,v2,v3,v4,v5,v6]:=by cases args;simp_all
 obtain⟨rfl,rfl⟩:=trodVars_none hV;obtain⟨x0,rfl,rfl,rfl,w0⟩:=open_int Tryz.underlying3 (hval 0 3 v0 rfl rfl) h0;obtain⟨st,rfl,rfl,rfl,wS⟩:=open_string Tryz.underlying9 (hval 1 9 v1 rfl rfl) h1;obtain⟨x,rfl,rfl,rfl,wx⟩:=open_int Tryz.underlying3 (hval 2 3 v2 rfl rfl) h2;obtain⟨y,rfl,rfl,rfl,wy⟩:=open_int Tryz.underlying3 (hval 3 3 v3 rfl rfl) h3;obtain⟨zz,rfl,rfl,rfl,wz⟩:=open_int Tryz.underlying3 (hval 4 3 v4 rfl rfl) h4;obtain⟨aw,nw,cw,rfl⟩:=okWide_slice Tryz.underlying33 (hval 5 33 v5 rfl rfl);obtain⟨wr,rfl,rfl,rfl⟩:=open_bool Tryz.underlying4 (hval 6 4 v6 rfl rfl) h6;have h5k:=h5;obtain⟨fu5,hf5⟩:=h5;simp only[List.append_nil,List.nil_append]at hW';have hlt5:∀z∈p5,z.block<W.heap.size:=fun z hz=>by simpa using hW'.lt z (by simp[hz])
 have Yi:nw<=maxLen/\∃wv:Nat->Int,∀i,i<nw->∃b off,aw=some ⟨b,off,none⟩/\W.cell? ⟨b,off+i,none⟩=some (.int .i64 (wv i))/\(Lit.int .i64 (wv i)).wf=true:=by
  rcases open_ints Tryz.underlying33 Tryz.underlying3 TF hf5 with⟨hcs,_⟩|⟨a,len',cap',zs,hcs,_,hl,hm,hz,_,hcell,hwz⟩
  ·simp[Value.cells]at hcs;obtain⟨rfl,rfl,rfl⟩:=hcs;exact⟨Nat.zero_le _,fun _=>0,fun i hi=>by omega⟩
  ·simp[Value.cells]at hcs;obtain⟨rfl,rfl,rfl⟩:=hcs;simp only[if_true]at hz;refine⟨by omega,fun i=>zs.getD i 0,fun i hi=>?_⟩;have hs:=jI (show W.cell? a=some _ by simpa[Addr.add]using hcell 0 (by omega));obtain⟨b,off,spot⟩:=a;obtain rfl:spot=none:=hs;have hc:=hcell i (by omega);rw[Addr.add_lit]at hc;refine⟨b,off,rfl,hc,hwz _ ?_⟩;show zs.getD i 0∈zs;rw[List.getD_eq_getElem?_getD,List.getElem?_eq_getElem (by omega)];exact List.getElem_mem _
 obtain⟨hnw,wv,DC⟩:=Yi;have hst:st.size<=maxLen:=wS;have hB:aj Tryz.prog (fun _=>False) (G (Frame.enter Tryz.prog 4 #[.int .i64 x0,.string st,.int .i64 x,.int .i64 y,.int .i64 zz,.slice aw nw cw,.bool wr] .normal) []) W (zl (fun _=>False) W):=by
  rw[enters];exact Wi w0 wx wy wz hst hal hmx hnw DC
 obtain⟨M,last,o,w',t',r1,r2,r3,r4⟩:=Wh hrows hB;refine⟨M,last,o,w',t',r1,r2,r3,r4.mono fun v hF=>ChangeSpec.post_blind ?_⟩;obtain⟨rfl,hos,hout,hrow⟩:=hF;have same:∀(z:MemPlace),z.block<W.heap.size->W.sameAt w' z:=fun z hz=>by
  cases z with
  |cell b o=>exact World.cell?_of_block (w:=W) (hrow b hz)
  |map b=>exact hrow b hz
 have a5:DataW.Trod enc Tryz.prog w' 0 (fun b=>decide (b<W.heap.size)) true 33 (.slice aw nw cw) d5 p5:=WideElems.Trod_stays laidOut (by kernel_rfl) (of_decide_eq_true (by kernel_rfl)) h5k (fun z hz=>same z (hlt5 z hz)) (fun z hz=>by simpa using hlt5 z hz);refine⟨_,_,_,[],_,[],hW',trodAll_cons_mk (shut_bool Tryz.underlying4 _) trodAll_mk0,(trodAll_cons_mk (shut_int Tryz.underlying3 w0) (trodAll_cons_mk (shut_string Tryz.underlying9 wS) (trodAll_cons_mk (shut_int Tryz.underlying3 wx) (trodAll_cons_mk (shut_int Tryz.underlying3 wy) (trodAll_cons_mk (shut_int Tryz.underlying3 wz) (trodAll_cons_mk a5 (trodAll_cons_mk (shut_bool Tryz.underlying4 _) trodAll_mk0))))))),rfl,⟨hos,hout,fun i hi=>?_⟩,fun h=>by cases h⟩;rw[hrow i hi];split<;>simp_all
theorem said:Rows.AnySaid:=
 OpenClaim.holds_of_wide_leaving 4 Tryz.f4 rfl rfl rfl rfl rfl rfl rfl ⟨rfl,rfl,rfl,rfl,rfl⟩ rfl rfl rfl rfl rfl (by kernel_rfl) Tryz.func4 (by kernel_rfl)
  (of_decide_eq_true (by kernel_rfl)) (by unfold Func.isWrapper;first|(rw[if_pos (by decide+kernel)];kernel_rfl)|(rw[if_neg (by decide+kernel)];exact⟨rfl,rfl⟩))
  (fun os started H enc _=>by rw[OpenClaim.pre_eq_preRow];exact lifted os started H enc)
theorem plain(f:FuncId)(fn:Func)(hf:Tryz.pinned.checked.prog.funcNamed "fascine/fascinekeep.Any" =some f)(hfn:Tryz.pinned.checked.prog.funcs[f]? =some fn):
  true=Tryz.pinned.checked.prog.looks []/\∀(j:Nat) t,fn.params[j]? =some t->Tryz.pinned.checked.prog.wantsStandIn t=false:=by
 obtain rfl:f=4:=Option.some.inj ((show Tryz.prog.funcNamed "fascine/fascinekeep.Any" =some 4 by kernel_rfl).symm.trans hf) |>.symm;obtain rfl:fn=Tryz.f4:=(Option.some.inj (Tryz.func4.symm.trans hfn)).symm;refine⟨by kernel_rfl,fun j t ht=>?_⟩;rw[Tryz.params4]at ht;have hm:=Array.mem_of_getElem? ht;have hall:(#[3,9,3,3,3,33,4]:Array TypeId).all (fun t=>Tryz.prog.wantsStandIn t==false)=true:=by kernel_rfl
 exact beq_iff_eq.1 (Array.all_eq_true_iff_forall_mem.1 hall t hm)
theorem proved:Rows.AnyCardSaid:=
 ⟨Claim7.tied_new_at .later [.data,.called,.pinned] true (Claim7.new_of_sixth said _ _ rfl ⟨rfl,rfl⟩ (by kernel_rfl) rfl plain) (by kernel_rfl),(fun _ h=>by cases h),any_row_tie,(fun h=>by cases h),(by kernel_rfl)⟩
#print axioms proved
end Go.Proofs.YtmfpiodlecapiaaGreatDoor.any
