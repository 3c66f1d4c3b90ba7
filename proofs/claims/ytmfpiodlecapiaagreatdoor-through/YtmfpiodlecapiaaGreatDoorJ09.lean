import Derived.Conc.WgGenN3
import Derived.Test.YtmfpiodlecapiaaGreatDoorJ07
import Derived.Test.YtmfpiodlecapiaaGreatDoorJ08
import Derived.Conc.CrowdStepC2
set_option maxHeartbeats 16000000
set_option maxRecDepth 100000
namespace Go.kg
section
open Go.Conc Go.ConcN Go.RowKit Go.Conc.Lib Go.ConcR.Gen Go.ConcN.Gen
open Go.ConcR (KK wgBlock WgAt stA smA rd wr mk Payload Aside2 DC0)
structure RS(ty:TypeId)(Wg:Nat)(w af:World):Prop where
 live:WgLive ty Wg w->WgLive ty Wg af
theorem ah{ty:TypeId}{Wg:Nat}{w af:World}(h:WgLive ty Wg w)(r:RS ty Wg w af):WgLive ty Wg af:=r.live h
theorem RS.refl{ty:TypeId}{Wg:Nat}(w:World):RS ty Wg w w:=⟨fun h=>h⟩
theorem RS.trans{ty:TypeId}{Wg:Nat}(a b c:World)(h:RS ty Wg a b)(h':RS ty Wg b c):RS ty Wg a c:=⟨fun x=>h'.live (h.live x)⟩
section
variable (P:Program) (ty:TypeId) (Wg:Nat)
def Walks(Stop:Goroutine->World->Prop)(g:Goroutine)(w:World):Prop:=∃m,Goes P true (RS ty Wg) DC0 Stop m g w
def ko(m:Mark)(Next:Goroutine->World->Prop)(g:Goroutine)(w:World):Prop:=
 g.status= .running/\∃g',stepG P true g w= .go g' w #[mk m]/\Walks P ty Wg Next g' w
def JX(First More:Goroutine->World->Prop)(g:Goroutine)(w:World):Prop:=
 g.status= .running/\∀v:Nat,v<2147483647->WgAt ty Wg w (v*KK) 0->
  ∃g',stepG P true g w= .go g' (w.setCell (stA Wg) (.int .u64 ((v+1)*KK))) #[rd (stA Wg),wr (stA Wg)]/\
   (v=0->Walks P ty Wg First g' (w.setCell (stA Wg) (.int .u64 ((v+1)*KK))))/\(v≠0->Walks P ty Wg More g' (w.setCell (stA Wg) (.int .u64 ((v+1)*KK))))
def Adds(K:Goroutine->World->Prop):Goroutine->World->Prop:=
 Walks P ty Wg (ko P ty Wg .disable (JX P ty Wg (ko P ty Wg (.read (smA Wg)) (ko P ty Wg .enable K)) (ko P ty Wg .enable K)))
def oh(Next:Goroutine->World->Prop)(g:Goroutine)(w:World):Prop:=
 g.status= .running/\(WgAt ty Wg w 0 0->∃g',stepG P true g w= .go g' w #[rd (stA Wg)]/\Walks P ty Wg Next g' w)
def JW(Next:Goroutine->World->Prop)(g:Goroutine)(w:World):Prop:=
 g.status= .running/\g.offers=none/\
  ((∃st,WgAt ty Wg w st 0)->stepG P true g w= .go {g with status:=.blocked} w #[])/\
  (WgAt ty Wg w 0 1->∃g',stepG P true g w= .go g' (w.setCell (smA Wg) (.int .u32 0)) (semEvents (smA Wg))/\Walks P ty Wg Next g' (w.setCell (smA Wg) (.int .u32 0)))
def Wy(vs:Nat)(Hit Miss:Goroutine->World->Prop)(g:Goroutine)(w:World):Prop:=
 g.status= .running/\∀v:Nat,v<2147483648->WgAt ty Wg w (v*KK) 0->
  (v=vs->∃g',stepG P true g w= .go g' (w.setCell (stA Wg) (.int .u64 (v*KK+1))) #[rd (stA Wg),wr (stA Wg)]/\Walks P ty Wg Hit g' (w.setCell (stA Wg) (.int .u64 (v*KK+1))))/\
  (v≠vs->∃g',stepG P true g w= .go g' w #[rd (stA Wg)]/\Walks P ty Wg Miss g' w)
def AtLoad(Zero:Goroutine->World->Prop)(More:Nat->Goroutine->World->Prop)(g:Goroutine)(w:World):Prop:=
 g.status= .running/\∀v:Nat,v<2147483648->WgAt ty Wg w (v*KK) 0->∃g',stepG P true g w= .go g' w #[rd (stA Wg)]/\
  (v=0->Walks P ty Wg Zero g' w)/\(v≠0->Walks P ty Wg (More v) g' w)
def Ends(K:Goroutine->World->Prop):Goroutine->World->Prop:=ko P ty Wg .enable (ko P ty Wg (.acquire (stA Wg)) K)
def Round(A K:Goroutine->World->Prop):Goroutine->World->Prop:=
 AtLoad P ty Wg (Ends P ty Wg K) fun v=>Wy P ty Wg v (ko P ty Wg (.write (smA Wg)) (JW P ty Wg (oh P ty Wg (Ends P ty Wg K)))) A
end
def OJ(L:WgLink)(Wg:Nat)(c:Frame)(cs:List Frame)(g:Goroutine)(w:World):Prop:=
 ∃T:Array Value,g=G ((base L.wait).at ⟨T,[]⟩ [.code (L7 L),.inLoop (L7 L),.inBlock 0]) (c::cs)/\T.size=84/\T[0]? =some (.pointer (some ⟨Wg,0,none⟩))/\WgLive L.tWg Wg w
section
variable {L:WgLink} {Wg:Nat} {b₀:Frame} {a₀:Act} {ops₀:Array Oper} {i₀:Nat} {rest₀:List Nat} {k₀:List Item} {cs:List Frame}
theorem adds{P:Program}(H:WgLib P L)(w:World)(hF:WgLive L.tWg Wg w):
  Adds P L.tWg Wg (fun g _=>g=G (b₀.at (a₀.put ((ops₀[i₀]?).bind (·.dst)) (.tuple #[])) (.inRegion ops₀ rest₀::k₀)) cs)
   (G (Frame.enter P L.add #[.pointer (some ⟨Wg,0,none⟩),.int .i64 1] .normal) (b₀.at a₀ (.inRegion ops₀ (i₀::rest₀)::k₀)::cs)) w:=by
 lib_facts
 have he:Frame.enter P L.add #[.pointer (some ⟨Wg,0,none⟩),.int .i64 1] .normal=(base L.add).at ⟨#[.pointer (some ⟨Wg,0,none⟩),.int .i64 1]++Array.replicate 115 undef,[]⟩ [.code (body_add L)]:=by
  rw[enter_at _ H.f_add rfl];rfl
 rw[he];simp only[body_add,addFn,Option.getD_some];walk_nrm
 refine⟨12,?_⟩;u_c stepG_seq ah hF;u_cond true ah hF
 u_c stepG_seq ah hF;u_c stepG_seq ah hF;u_reg ah hF
 u_op ah hF;u_op ah hF;u_c stepG_region_end ah hF;u_cond false ah hF
 u_c stepG_skip ah hF;u_c stepG_seq ah hF;u_reg ah hF
 refine Goes.stop (fun af aa=>?_);replace hF:=ah hF aa;clear aa;refine⟨rfl,_,stepG_mark0 .disable (by simp) rfl rfl (by k_ne) rfl H.f_disable (x_disable_n L) (x_disable_b L) (x_disable_x L) (x_disable_f L),40,?_⟩;walk_nrm
 u_c stepG_region_end ah hF;u_reg ah hF
 u_defer ah hF
 u_c stepG_region_end ah hF;u_c stepG_seq ah hF;u_reg ah hF
 u_op ah hF;u_c stepG_region_end ah hF;u_c stepG_seq ah hF;u_c stepG_seq ah hF;u_reg ah hF
 u_bub ah hF
 u_c stepG_region_end ah hF;u_cond false ah hF
 u_c stepG_skip ah hF;u_c stepG_seq ah hF;u_reg ah hF
 u_op ah hF;u_op ah hF;u_op ah hF;u_op ah hF;u_op ah hF;u_op ah hF;u_call H.f_uAdd (nm_uAdd L) uAddFn ah hF
 u_c stepG_seq ah hF;u_reg ah hF
 u_op ah hF;u_c stepG_region_end ah hF;u_c stepG_seq ah hF;u_reg ah hF
 u_op ah hF;u_op ah hF;u_op ah hF;u_op ah hF;refine Goes.stop (fun w₂ aa=>?_);replace hF:=ah hF aa;clear aa;refine⟨rfl,fun v hv hw=>?_⟩;rcases Nat.eq_zero_or_pos v with rfl|hvp
 .replace hw:WgAt L.tWg Wg w₂ 0 0:=by simpa using hw
  have z:(((0:Nat):Int)+1)*KK=KK:=by simp
  rw[z];have e0:IntKind.u64.wrap (0+4294967296)=KK:=by decide
  refine⟨_,(stepG_add_atomic rfl rfl (by k_ne) rfl H.f_addU64 (x_addU64_n L) (x_addU64_b L) (x_addU64_x L) .u64 (x_addU64_f L) rfl rfl hw.cellSt (hw.thaw 0)).trans (by rw[e0];rfl),fun _=>⟨110,?_⟩,fun h=>absurd rfl h⟩;replace hF:WgLive L.tWg Wg (w₂.setCell (stA Wg) (.int .u64 KK)):=⟨_,_,hw.setSt _⟩;clear hw;simp only[KK]at hF⊢;walk_nrm
  u_op ah hF;u_c stepG_region_end ah hF;u_c stepG_ret' ah hF;u_leave1 H.f_uAdd ah hF
  u_op ah hF;u_c stepG_region_end ah hF;u_c stepG_seq ah hF;u_c stepG_seq ah hF;u_reg ah hF
  u_op ah hF;u_op ah hF;u_op ah hF;u_op ah hF;u_skip ah hF
  u_skip ah hF
  u_op ah hF;u_c stepG_region_end ah hF;u_cond false ah hF
  u_c stepG_skip ah hF;u_c stepG_seq ah hF;u_reg ah hF
  u_op ah hF;u_op ah hF;u_op ah hF;u_op ah hF;u_c stepG_region_end ah hF;u_c stepG_seq ah hF;u_reg ah hF
  u_op ah hF;u_op ah hF;u_op ah hF;u_op ah hF;u_c stepG_region_end ah hF;u_c stepG_seq ah hF;u_c stepG_seq ah hF;u_reg ah hF
  u_op ah hF;u_op ah hF;u_op ah hF;u_op ah hF;u_op ah hF;u_op ah hF;u_op ah hF;u_op ah hF;u_op ah hF;u_op ah hF;u_c stepG_region_end ah hF;u_cond true ah hF
  u_reg ah hF
  u_op ah hF;u_op ah hF;u_op ah hF;u_conv H.underlying_tPU32 H.room_tU32 (WgLive.cell1 hF).choose_spec ah hF
  refine Goes.stop (fun w₃ aa=>?_);replace hF:=ah hF aa;clear aa;refine⟨rfl,_,stepG_markAt .read (by simp) rfl rfl (by k_ne) rfl H.f_raceRead (x_raceRead_n L) (x_raceRead_b L) (x_raceRead_x L) (x_raceRead_f L) (ad:=⟨Wg,1,none⟩) (by simp[Act.eval]),⟨60,?_⟩⟩;walk_nrm
  u_c stepG_region_end ah hF;u_c stepG_seq ah hF;u_c stepG_seq ah hF;u_reg ah hF
  u_op ah hF;u_op ah hF;u_c stepG_region_end ah hF;u_cond false ah hF
  u_c stepG_skip ah hF;u_c stepG_seq ah hF;u_c stepG_seq ah hF;u_reg ah hF
  u_op ah hF;u_op ah hF;u_op ah hF;u_skip ah hF
  u_skip ah hF
  u_op ah hF;u_op ah hF;u_skip ah hF
  iterate 3 (u_skip ah hF)
  u_op ah hF;u_c stepG_region_end ah hF;u_cond false ah hF
  u_c stepG_skip ah hF;u_c stepG_seq ah hF;u_c stepG_seq ah hF;u_reg ah hF
  u_op ah hF;u_op ah hF;u_op ah hF;u_skip ah hF
  u_skip ah hF
  u_op ah hF;u_c stepG_region_end ah hF;u_cond true ah hF
  u_c stepG_ret' ah hF;refine Goes.stop (fun w₄ aa=>?_);replace hF:=ah hF aa;clear aa;refine⟨rfl,_,stepG_unwind_entry (v:=.tuple #[]) (evs:=#[mk .enable]) rfl H.f_enable (x_enable_n L) (x_enable_b L) (x_enable_x L) (x_enable_f L) (by simp[Extern.Race.none_]) (by simp[mk]) (by simp[mk]),⟨1,?_⟩⟩;u_leave0 H.f_add ah hF
  exact Goes.stop (fun _ _=>rfl)
 .obtain⟨V,hV⟩:∃V:Int,V=(v:Int)+1:=⟨_,rfl⟩;obtain⟨S,hS⟩:∃S:Int,S=V*KK:=⟨_,rfl⟩;have eS:IntKind.u64.wrap ((v:Int)*KK+4294967296)=S:=by rw[IntKind.wrap_u64,hS,hV];simp only[KK];omega
  rw[<-hV,<-hS];have a1:S/4294967296=V:=by rw[hS];simp only[KK];omega
  have b1:bits .and .u64 S 2147483648=0:=by rw[hS,hV];have:=st_flag (v+1) 0 (by omega) (by omega);simpa[KK]using this
  have b2:bits .and .u64 S 2147483647=0:=by rw[hS,hV];have:=st_waiters (v+1) 0 (by omega) (by omega);simpa[KK]using this
  have c1:IntKind.i32.wrap V=V:=by rw[IntKind.wrap_i32];omega
  have hV1:1<V:=by omega
  have hV2:V<2147483648:=by omega
  have q1:(V==1)=false:=by simp;omega
  have q2:decide (V=1)=false:=decide_eq_false (by omega);have q3:decide (V<0)=false:=decide_eq_false (by omega);have q4:decide (0<V)=true:=decide_eq_true (by omega);have q5:(V==0)=false:=by simp;omega
  have q6:decide (V=0)=false:=decide_eq_false (by omega);refine⟨_,(stepG_add_atomic rfl rfl (by k_ne) rfl H.f_addU64 (x_addU64_n L) (x_addU64_b L) (x_addU64_x L) .u64 (x_addU64_f L) rfl rfl hw.cellSt (hw.thaw 0)).trans (by rw[eS];rfl),fun h=>absurd h (by omega),fun _=>⟨110,?_⟩⟩;replace hF:WgLive L.tWg Wg (w₂.setCell (stA Wg) (.int .u64 S)):=⟨_,_,hw.setSt _⟩;clear hw hS hV eS;walk_nrm
  u_op ah hF;u_c stepG_region_end ah hF;u_c stepG_ret' ah hF;u_leave1 H.f_uAdd ah hF
  u_op ah hF;u_c stepG_region_end ah hF;u_c stepG_seq ah hF;u_c stepG_seq ah hF;u_reg ah hF
  u_op ah hF;u_op ah hF;u_op ah hF;u_op ah hF;u_skip ah hF
  u_skip ah hF
  u_op ah hF;u_c stepG_region_end ah hF;u_cnd false ah hF
  u_c stepG_skip ah hF;u_c stepG_seq ah hF;u_reg ah hF
  u_op ah hF;u_op ah hF;u_op ah hF;u_op ah hF;u_c stepG_region_end ah hF;u_c stepG_seq ah hF;u_reg ah hF
  u_op ah hF;u_op ah hF;u_op ah hF;u_op ah hF;u_c stepG_region_end ah hF;u_c stepG_seq ah hF;u_c stepG_seq ah hF;u_reg ah hF
  u_op ah hF;u_op ah hF;u_op ah hF;u_op ah hF;u_op ah hF;u_op ah hF;u_op ah hF;u_op ah hF;u_op ah hF;u_op ah hF;u_c stepG_region_end ah hF;u_cnd false ah hF
  u_c stepG_skip ah hF;u_c stepG_seq ah hF;u_c stepG_seq ah hF;u_reg ah hF
  u_op ah hF;u_op ah hF;u_c stepG_region_end ah hF;u_cnd false ah hF
  u_c stepG_skip ah hF;u_c stepG_seq ah hF;u_c stepG_seq ah hF;u_reg ah hF
  u_op ah hF;u_op ah hF;u_op ah hF;u_skip ah hF
  u_skip ah hF
  u_op ah hF;u_op ah hF;u_skip ah hF
  iterate 3 (u_skip ah hF)
  u_op ah hF;u_c stepG_region_end ah hF;u_cnd false ah hF
  u_c stepG_skip ah hF;u_c stepG_seq ah hF;u_c stepG_seq ah hF;u_reg ah hF
  u_op ah hF;u_op ah hF;u_op ah hF;u_skip ah hF
  u_skip ah hF
  u_op ah hF;u_c stepG_region_end ah hF;u_cnd true ah hF
  u_c stepG_ret' ah hF;refine Goes.stop (fun w₄ aa=>?_);replace hF:=ah hF aa;clear aa;refine⟨rfl,_,stepG_unwind_entry (v:=.tuple #[]) (evs:=#[mk .enable]) rfl H.f_enable (x_enable_n L) (x_enable_b L) (x_enable_x L) (x_enable_f L) (by simp[Extern.Race.none_]) (by simp[mk]) (by simp[mk]),⟨1,?_⟩⟩;u_leave0 H.f_add ah hF
  exact Goes.stop (fun _ _=>rfl)
theorem waitStart{P:Program}(H:WgLib P L)(w:World)(hF:WgLive L.tWg Wg w):
  Walks P L.tWg Wg (ko P L.tWg Wg .disable (OJ L Wg (b₀.at a₀ (.inRegion ops₀ (i₀::rest₀)::k₀)) cs))
   (G (Frame.enter P L.wait #[.pointer (some ⟨Wg,0,none⟩)] .normal) (b₀.at a₀ (.inRegion ops₀ (i₀::rest₀)::k₀)::cs)) w:=by
 lib_facts
 have he:Frame.enter P L.wait #[.pointer (some ⟨Wg,0,none⟩)] .normal=(base L.wait).at ⟨#[.pointer (some ⟨Wg,0,none⟩)]++Array.replicate 83 undef,[]⟩ [.code (body_wait L)]:=by
  rw[enter_at _ H.f_wait rfl];rfl
 rw[he];simp only[body_wait,waitFn,Option.getD_some];walk_nrm
 refine⟨12,?_⟩;u_c stepG_seq ah hF;u_cond true ah hF
 u_reg ah hF
 refine Goes.stop (fun af aa=>?_);replace hF:=ah hF aa;clear aa;refine⟨rfl,_,stepG_mark0 .disable (by simp) rfl rfl (by k_ne) rfl H.f_disable (x_disable_n L) (x_disable_b L) (x_disable_x L) (x_disable_f L),3,?_⟩;walk_nrm
 u_c stepG_region_end ah hF;u_c stepG_block ah hF;u_c stepG_loop ah hF;exact Goes.stop (fun w₂ gN=>⟨_,rfl,by simp,by simp,ah hF gN⟩)
theorem waitRound{P:Program}(H:WgLib P L)(g:Goroutine)(w:World)(h:OJ L Wg (b₀.at a₀ (.inRegion ops₀ (i₀::rest₀)::k₀)) cs g w):
  Walks P L.tWg Wg (Round P L.tWg Wg (OJ L Wg (b₀.at a₀ (.inRegion ops₀ (i₀::rest₀)::k₀)) cs) (fun g _=>g=G (b₀.at (a₀.put ((ops₀[i₀]?).bind (·.dst)) (.tuple #[])) (.inRegion ops₀ rest₀::k₀)) cs)) g w:=by
 lib_facts
 obtain⟨T,rfl,hT84,t0,hF⟩:=h;obtain⟨v0,v1,v2,v3,v4,v5,v6,v7,v8,v9,v10,v11,v12,v13,v14,v15,v16,v17,v18,v19,v20,v21,v22,v23,v24,v25,v26,v27,v28,v29,v30,v31,v32,v33,v34,v35,v36,v37,v38,v39,v40,v41,v42,v43,v44,v45,v46,v47,v48,v49,v50,v51,v52,v53,v54,v55,v56,v57,v58,v59,v60,v61,v62,v63,v64,v65,v66,v67,v68,v69,v70,v71,v72,v73,v74,v75,v76,v77,v78,v79,v80,v81,v82,v83,rfl⟩:=array84 T hT84;simp only[List.getElem?_toArray,List.getElem?_cons_zero,Option.some.injEq]at t0;subst t0;refine⟨40,?_⟩;simp only[L7,body_wait,waitFn,Option.getD_some];u_c stepG_block ah hF;u_c stepG_seq ah hF;u_reg ah hF
 u_op ah hF;u_op ah hF;u_op ah hF;u_call H.f_uLoad (nm_uLoad L) uLoadFn ah hF
 u_c stepG_seq ah hF;u_reg ah hF
 u_op ah hF;u_c stepG_region_end ah hF;u_c stepG_seq ah hF;u_reg ah hF
 u_op ah hF;u_op ah hF;u_op ah hF;refine Goes.stop (fun af aa=>?_);replace hF:=ah hF aa;clear aa;refine⟨rfl,fun v hv hw=>?_⟩;rcases Nat.eq_zero_or_pos v with rfl|hvp
 .replace hw:WgAt L.tWg Wg af 0 0:=by simpa using hw
  refine⟨_,stepG_load_atomic (v:=0) rfl rfl (by k_ne) rfl H.f_loadU64 (x_loadU64_n L) (x_loadU64_b L) (x_loadU64_x L) .u64 (x_loadU64_f L) rfl hw.cellSt,fun _=>⟨50,?_⟩,fun h=>absurd rfl h⟩;clear hw;walk_nrm
  u_op ah hF;u_c stepG_region_end ah hF;u_c stepG_ret' ah hF;u_leave1 H.f_uLoad ah hF
  u_op ah hF;u_c stepG_region_end ah hF;u_c stepG_seq ah hF;u_reg ah hF
  u_op ah hF;u_op ah hF;u_op ah hF;u_op ah hF;u_c stepG_region_end ah hF;u_c stepG_seq ah hF;u_reg ah hF
  u_op ah hF;u_op ah hF;u_op ah hF;u_op ah hF;u_c stepG_region_end ah hF;u_c stepG_seq ah hF;u_c stepG_seq ah hF;u_reg ah hF
  u_op ah hF;u_op ah hF;u_c stepG_region_end ah hF;u_cond true ah hF
  u_c stepG_seq ah hF;u_cond true ah hF
  u_c stepG_seq ah hF;u_reg ah hF
  refine Goes.stop (fun w₅ aa=>?_);replace hF:=ah hF aa;clear aa;refine⟨rfl,_,stepG_mark0 .enable (by simp) rfl rfl (by k_ne) rfl H.f_enable (x_enable_n L) (x_enable_b L) (x_enable_x L) (x_enable_f L),⟨12,?_⟩⟩;walk_nrm
  u_c stepG_region_end ah hF;u_reg ah hF
  u_op ah hF;u_conv H.underlying_tWgP H.room_tWg (WgLive.cell0 hF).choose_spec ah hF
  refine Goes.stop (fun w₆ aa=>?_);replace hF:=ah hF aa;clear aa;refine⟨rfl,_,stepG_markAt .acquire (by simp) rfl rfl (by k_ne) rfl H.f_acquire (x_acquire_n L) (x_acquire_b L) (x_acquire_x L) (x_acquire_f L) (by simp[Act.eval,stA]),⟨30,?_⟩⟩;walk_nrm
  u_c stepG_region_end ah hF;u_c stepG_seq ah hF;u_c stepG_seq ah hF;u_reg ah hF
  u_op ah hF;u_op ah hF;u_op ah hF;u_op ah hF;u_op ah hF;u_op ah hF;u_op ah hF;u_op ah hF;u_skip ah hF
  u_skip ah hF
  u_op ah hF;u_c stepG_region_end ah hF;u_cond false ah hF
  u_c stepG_skip ah hF;u_c stepG_ret' ah hF;u_leave0 H.f_wait ah hF
  exact Goes.stop (fun _ _=>rfl)
 .obtain⟨S,hS⟩:∃S:Int,(v:Int)*KK=S:=⟨_,rfl⟩;have a1:S/4294967296=(v:Int):=by rw[<-hS];simp only[KK];omega
  have b1:bits .and .u64 S 2147483648=0:=by rw[<-hS];have:=st_flag v 0 (by omega) (by omega);simpa[KK]using this
  have b2:bits .and .u64 S 2147483647=0:=by rw[<-hS];have:=st_waiters v 0 (by omega) (by omega);simpa[KK]using this
  have c1:IntKind.i32.wrap (v:Int)=(v:Int):=by rw[IntKind.wrap_i32];omega
  have w1:IntKind.u64.wrap (S+1)=S+1:=by rw[IntKind.wrap_u64,<-hS];simp only[KK];omega
  have q3:decide ((v:Int)<0)=false:=decide_eq_false (by omega);have q4:decide (0<(v:Int))=true:=decide_eq_true (by omega);have q5:((v:Int)==0)=false:=by simp;omega
  have q6:decide ((v:Int)=0)=false:=decide_eq_false (by omega);rw[hS]at hw;refine⟨_,stepG_load_atomic (v:=S) rfl rfl (by k_ne) rfl H.f_loadU64 (x_loadU64_n L) (x_loadU64_b L) (x_loadU64_x L) .u64 (x_loadU64_f L) rfl hw.cellSt,fun h0=>absurd h0 (by omega),fun _=>⟨60,?_⟩⟩;clear hw;walk_nrm
  u_op ah hF;u_c stepG_region_end ah hF;u_c stepG_ret' ah hF;u_leave1 H.f_uLoad ah hF
  u_op ah hF;u_c stepG_region_end ah hF;u_c stepG_seq ah hF;u_reg ah hF
  u_op ah hF;u_op ah hF;u_op ah hF;u_op ah hF;u_c stepG_region_end ah hF;u_c stepG_seq ah hF;u_reg ah hF
  u_op ah hF;u_op ah hF;u_op ah hF;u_op ah hF;u_c stepG_region_end ah hF;u_c stepG_seq ah hF;u_c stepG_seq ah hF;u_reg ah hF
  u_op ah hF;u_op ah hF;u_c stepG_region_end ah hF;u_cnd false ah hF
  u_c stepG_skip ah hF;u_c stepG_seq ah hF;u_reg ah hF
  u_op ah hF;u_op ah hF;u_op ah hF;u_op ah hF;u_op ah hF;u_op ah hF;u_call H.f_uCas (nm_uCas L) uCasFn ah hF
  u_c stepG_seq ah hF;u_reg ah hF
  u_op ah hF;u_c stepG_region_end ah hF;u_c stepG_seq ah hF;u_reg ah hF
  u_op ah hF;u_op ah hF;u_op ah hF;u_op ah hF;u_op ah hF;refine Goes.stop (fun w₂ aa=>?_);replace hF:=ah hF aa;clear aa;refine⟨rfl,fun v' rN hw=>⟨fun e=>?_,fun e=>?_⟩⟩
  .subst e;rw[hS]at hw⊢;refine⟨_,(stepG_cas_hit (v:=S) (n:=S+1) rfl rfl (by k_ne) rfl H.f_casU64 (x_casU64_n L) (x_casU64_b L) (x_casU64_x L) .u64 (x_casU64_f L) rfl rfl rfl hw.cellSt (hw.thaw 0)).trans (by rfl),⟨70,?_⟩⟩;replace hF:WgLive L.tWg Wg (w₂.setCell (stA Wg) (.int .u64 (S+1))):=⟨_,_,hw.setSt _⟩;clear hw;walk_nrm
   u_op ah hF;u_c stepG_region_end ah hF;u_c stepG_ret' ah hF;u_leave1 H.f_uCas ah hF
   u_c stepG_region_end ah hF;u_cond true ah hF
   u_c stepG_seq ah hF;u_c stepG_seq ah hF;u_reg ah hF
   u_op ah hF;u_op ah hF;u_op ah hF;u_op ah hF;u_c stepG_region_end ah hF;u_cond true ah hF
   u_reg ah hF
   u_op ah hF;u_op ah hF;u_op ah hF;u_conv H.underlying_tPU32 H.room_tU32 (WgLive.cell1 hF).choose_spec ah hF
   refine Goes.stop (fun w₇ aa=>?_);replace hF:=ah hF aa;clear aa;refine⟨rfl,_,stepG_markAt .write (by simp) rfl rfl (by k_ne) rfl H.f_raceWrite (x_raceWrite_n L) (x_raceWrite_b L) (x_raceWrite_x L) (x_raceWrite_f L) (ad:=⟨Wg,1,none⟩) (by simp[Act.eval]<;>rfl),⟨60,?_⟩⟩;walk_nrm
   u_c stepG_region_end ah hF;u_c stepG_seq ah hF;u_reg ah hF
   u_op ah hF;u_c stepG_region_end ah hF;u_c stepG_seq ah hF;u_c stepG_seq ah hF;u_reg ah hF
   u_op ah hF;u_op ah hF;u_op ah hF;u_op ah hF;u_skip ah hF
   u_op ah hF;u_c stepG_region_end ah hF;u_cond false ah hF
   u_c stepG_skip ah hF;u_c stepG_seq ah hF;u_reg ah hF
   u_op ah hF;u_op ah hF;u_op ah hF;u_op ah hF;refine Goes.stop (fun w₃ aa=>?_);replace hF:=ah hF aa;clear aa;refine⟨rfl,rfl,fun⟨st,hw⟩=>stepG_semacquire_wait rfl rfl rfl H.f_semacquire (x_semacquire_n L) (x_semacquire_b L) (x_semacquire_x L) (x_semacquire_f L) (by simp[Act.eval,smA]) hw.cellSm,fun hf=>?_⟩;refine⟨_,(stepG_semacquire (n:=1) rfl rfl (by k_ne) rfl H.f_semacquire (x_semacquire_n L) (x_semacquire_b L) (x_semacquire_x L) (x_semacquire_f L) (by simp[Act.eval,smA]) hf.cellSm (by k_ne) (hf.thaw 1)).trans (by rfl),⟨30,?_⟩⟩;replace hF:WgLive L.tWg Wg (w₃.setCell (smA Wg) (.int .u32 0)):=⟨_,_,hf.setSm 0⟩;clear hf;walk_nrm
   u_c stepG_region_end ah hF;u_c stepG_seq ah hF;u_reg ah hF
   u_op ah hF;u_op ah hF;u_op ah hF;u_call H.f_uLoad (nm_uLoad L) uLoadFn ah hF
   u_c stepG_seq ah hF;u_reg ah hF
   u_op ah hF;u_c stepG_region_end ah hF;u_c stepG_seq ah hF;u_reg ah hF
   u_op ah hF;u_op ah hF;u_op ah hF;refine Goes.stop (fun w₄ aa=>?_);replace hF:=ah hF aa;clear aa;refine⟨rfl,fun hw=>⟨_,stepG_load_atomic (v:=0) rfl rfl (by k_ne) rfl H.f_loadU64 (x_loadU64_n L) (x_loadU64_b L) (x_loadU64_x L) .u64 (x_loadU64_f L) rfl hw.cellSt,⟨30,?_⟩⟩⟩;clear hw;walk_nrm
   u_op ah hF;u_c stepG_region_end ah hF;u_c stepG_ret' ah hF;u_leave1 H.f_uLoad ah hF
   u_op ah hF;u_op ah hF;u_c stepG_region_end ah hF;u_c stepG_seq ah hF;u_cond true ah hF
   u_c stepG_seq ah hF;u_reg ah hF
   refine Goes.stop (fun w₅ aa=>?_);replace hF:=ah hF aa;clear aa;refine⟨rfl,_,stepG_mark0 .enable (by simp) rfl rfl (by k_ne) rfl H.f_enable (x_enable_n L) (x_enable_b L) (x_enable_x L) (x_enable_f L),⟨12,?_⟩⟩;walk_nrm
   u_c stepG_region_end ah hF;u_reg ah hF
   u_op ah hF;u_conv H.underlying_tWgP H.room_tWg (WgLive.cell0 hF).choose_spec ah hF
   refine Goes.stop (fun w₆ aa=>?_);replace hF:=ah hF aa;clear aa;refine⟨rfl,_,stepG_markAt .acquire (by simp) rfl rfl (by k_ne) rfl H.f_acquire (x_acquire_n L) (x_acquire_b L) (x_acquire_x L) (x_acquire_f L) (by simp[Act.eval,stA]),⟨30,?_⟩⟩;walk_nrm
   u_c stepG_region_end ah hF;u_c stepG_seq ah hF;u_c stepG_seq ah hF;u_reg ah hF
   u_op ah hF;u_c stepG_region_end ah hF;u_cond false ah hF
   u_c stepG_skip ah hF;u_c stepG_ret' ah hF;u_leave0 H.f_wait ah hF
   exact Goes.stop (fun _ _=>rfl)
  .refine⟨_,stepG_cas_miss (v:=(v':Int)*KK) (old:=S) (n:=S+1) rfl rfl (by k_ne) rfl H.f_casU64 (x_casU64_n L) (x_casU64_b L) (x_casU64_x L) .u64 (x_casU64_f L) rfl rfl rfl hw.cellSt (hw.thaw 0) (by rw[<-hS];simp only[KK];omega),⟨20,?_⟩⟩;clear hw;walk_nrm
   u_op ah hF;u_c stepG_region_end ah hF;u_c stepG_ret' ah hF;u_leave1 H.f_uCas ah hF
   u_c stepG_region_end ah hF;u_cond false ah hF
   u_c stepG_skip ah hF;u_c stepG_inBlock ah hF;u_c stepG_inLoop ah hF;refine Goes.stop (fun w₃ WN=>?_);exact⟨_,rfl,by simp,by simp,ah hF WN⟩
end
end
section
open Go.Conc Go.ConcN Go.bn Go.Ren
open Go.ConcR (KK wgBlock WgAt stA smA rd wr mk Payload Aside2 DC0 Bk g_of_ofEvents)
variable{Wg i n:Nat}{See:Nat->Prop}{w w':World}{g:Goroutine}
structure mP(ty:TypeId)(Wg:Nat)(See:Nat->Prop)(w af:World):Prop where
 size:w.heap.size<=af.heap.size
 row:∀b,See b->af.heap[b]? =w.heap[b]?
 live:WgLive ty Wg w->WgLive ty Wg af
 tape:af.tape=w.tape
 os:af.os=w.os
 output:af.output=w.output
 nv:NV w->NV af
theorem mP.refl{ty:TypeId}(w:World):mP ty Wg See w w:=⟨Nat.le_refl _,fun _ _=>rfl,id,rfl,rfl,rfl,id⟩
theorem mP.trans{ty:TypeId}{a b c:World}(h:mP ty Wg See a b)(h':mP ty Wg See b c):mP ty Wg See a c:=
 ⟨Nat.le_trans h.size h'.size,fun x hx=>(h'.row x hx).trans (h.row x hx),h'.live∘h.live,h'.tape.trans h.tape,h'.os.trans h.os,h'.output.trans h.output,h'.nv∘h.nv⟩
theorem mP.at{ty:TypeId}(w:World)(d:Nat):mP ty Wg See w (w.at d):=⟨Nat.le_refl _,fun _ _=>rfl,id,rfl,rfl,rfl,id⟩
structure Ph where
 P:Program
 X:FuncId->Bool
 A:FuncId->Bool
 K:FuncId->Nat->Nat
 ty:TypeId
 Wg:Nat
 R:Nat
 Dn:Nat
 o:Nat
 N:Nat
 B0:Nat
 Shun:Loc->Prop
 old:Nat->Prop
 aux:Nat->Prop
 row0:Nat->Option Obj
 w0:World
 Cx:Ctx
 Node:Nat->nA Nat->(nA Nat->Prop)->Prop
 Stop:Nat->nA Nat->Prop
 YC:Nat->Value->World->Prop
 RZ:Nat->Value->Prop
 Anch:Goroutine->Goroutine->World->Prop
 Fin:Bool->(Nat->Option Value)->(Nat->Prop)->Goroutine->World->Prop
structure WX where
 ws:Nat
 rk:Rk
 st:Nat
 fu:Nat
 df:Nat
 ow:Nat->Prop
 vs:Nat->Prop
 C:Nat
 zv:Value
 gu:Bool
def WX.wd(d:WX):WD:=⟨d.st,d.fu,d.df⟩
def Idl(P:Program):Nat->Goroutine->Goroutine->Prop
 |0,g,g'=>g=g'
 |n+1,g,g'=>g.status= .running/\∃g1,(∀w,stepG P false g w= .go g1 w #[])/\Idl P n g1 g'
def IX:Nat->Loc->Prop:=fun _ _=>False
section
variable [Payload] (H:Ph)
def sQ(i:Nat)(d:WX)(rk:Rk)(g:Goroutine)(w:World):Prop:=
 ∃ρ p f fs f' fs',g=gZ H.Cx f' fs'/\n_ H.P H.X H.A H.K ρ p f fs f' fs' w/\WTR H.P (H.Node i) (H.Stop i) rk ⟨if d.gu then 1 else 0,f,fs,p⟩/\d.ow=Own ρ p/\d.vs=CO ρ p/\Ext (Array.range H.B0) ρ
def YD(d:WX)(Q:World->Prop)(w:World):Prop:=∃F:World->Prop,(∀w w':World,(∀c,d.ow c->c≠d.C->w'.heap[c]? =w.heap[c]?)->F w->F w')/\F w/\∀w,F w->Q w
def WU(i:Nat)(d:WX)(v:Value)(w:World):Prop:=d.gu=false->H.RZ i v/\YD d (H.YC i v) w
structure Bd(d:WX)(v z0 z1:Value)(bj:Goroutine):Prop where
 cm:∀w off,stepG H.P false {bj with status:=.running,offers:=off} w= .comm bj (two H.R H.Dn v z0 z1) true .select w #[]
 fin:∀(k:Int) b ok w,(k=0\/k=1)->WgLive H.ty H.Wg w->Has d.C 0 d.zv w->
  ∃n,Goes H.P false (RW H.ty H.Wg d.C 1 0 0) DC0 (AtR0 H.P H.ty H.Wg d.C 1 0 1 d.zv) n (bj.finishComm H.P (two H.R H.Dn v z0 z1) .select k b ok) w
def vZ(d:WX)(w:World):Prop:=PayAt d.C 1 w/\Has d.C 0 d.zv w
inductive WS(i:Nat)(d:WX)(g:Goroutine)(w:World):Prop
 |born (n:Nat) (gB:Goroutine) (rk:Rk):d.ws=22->d.rk= .ofNat n->d.wd=⟨7,0,0⟩->g.status= .running->Idl H.P n g gB->sQ H i d rk gB w->vZ d w->WS i d g w
 |tree:d.ws=20->d.wd=⟨7,0,0⟩->sQ H i d d.rk g w->vZ d w->WS i d g w
 |sel (v z0 z1:Value) (bj:Goroutine) (off:Option (Array CommCase×CommShape)):d.ws=18->d.wd=⟨7,0,0⟩->g= {bj with status:=.running,offers:=off}->Bd H d v z0 z1 bj->WU H i d v w->vZ d w->WS i d g w
 |uh (v z0 z1:Value) (bj:Goroutine):d.ws=17->d.wd=⟨7,0,0⟩->g=parked bj (two H.R H.Dn v z0 z1) .select->Bd H d v z0 z1 bj->WU H i d v w->vZ d w->WS i d g w
 |done:d.ws=7->d.st=7->d.df=0->d.rk= .ofNat d.fu->Goes H.P false (RW H.ty H.Wg d.C 1 0 0) DC0 (AtR0 H.P H.ty H.Wg d.C 1 0 1 d.zv) d.fu g w->WS i d g w
 |lib:d.ws=d.st->d.st<=6->d.rk= .ofNat d.fu->WSit H.P H.ty H.Wg d.C 1 IX IX 0 1 d.zv d.st d.fu d.df g w->WS i d g w
end
section
variable [Payload] {H:Ph}
theorem vZ.rely{d:WX}(h:vZ d w)(e:w'.heap[d.C]? =w.heap[d.C]?):vZ d w':=by
 obtain⟨⟨cs,h1,h2⟩,h3⟩:=h;exact⟨⟨cs,e.trans h1,h2⟩,(cell_of_block e 0).trans h3⟩
omit [Payload]in
theorem sQ.rely{d:WX}{rk:Rk}(h:sQ H i d rk g w)(hr:mP H.ty H.Wg d.vs w w'):sQ H i d rk g w':=by
 obtain⟨ρ,p,f,fs,f',fs',h1,h2,h3,h4,h5,h6⟩:=h;exact⟨ρ,p,f,fs,f',fs',h1,h2.other hr.size (fun c hc=>hr.row c (by rw[h5];exact hc)),h3,h4,h5,h6⟩
omit [Payload]in
theorem YD.rely{d:WX}{Q:World->Prop}(h:YD d Q w)(hr:∀c,d.ow c->c≠d.C->w'.heap[c]? =w.heap[c]?):YD d Q w':=by
 obtain⟨F,h1,h2,h3⟩:=h;exact⟨F,h1,h1 w w' hr h2,h3⟩
omit [Payload]in
theorem WU.rely{d:WX}{v:Value}(h:WU H i d v w)(hr:∀c,d.ow c->c≠d.C->w'.heap[c]? =w.heap[c]?):WU H i d v w':=fun hg=>⟨(h hg).1,(h hg).2.rely hr⟩
theorem YN{ty:TypeId}{C:Nat}(hr:mP ty Wg See w w')(hC:See C):RW ty Wg C 1 0 0 w w':=
 ⟨fun b hb=>by omega,hr.live,fun⟨cs,h1,h2⟩=>⟨cs,(hr.row C hC).trans h1,h2⟩,cell_of_block (hr.row C hC) 0⟩
theorem WS.rely{d:WX}(h:WS H i d g w)(hr:mP H.ty H.Wg d.vs w w')(ho:∀c,d.ow c->d.vs c)(hC:d.vs d.C):WS H i d g w':=by
 cases h with
 |born n gB rk h1 h2 h3 h0 h4 h5 h6=>exact .born n gB rk h1 h2 h3 h0 h4 (h5.rely hr) (h6.rely (hr.row _ hC))
 |tree h1 h2 h3 h4=>exact .tree h1 h2 (h3.rely hr) (h4.rely (hr.row _ hC))
 |sel v z0 z1 bj off h1 h2 h3 h4 h5 h6=>exact .sel v z0 z1 bj off h1 h2 h3 h4 (h5.rely fun c hc _=>hr.row c (ho c hc)) (h6.rely (hr.row _ hC))
 |uh v z0 z1 bj h1 h2 h3 h4 h5 h6=>exact .uh v z0 z1 bj h1 h2 h3 h4 (h5.rely fun c hc _=>hr.row c (ho c hc)) (h6.rely (hr.row _ hC))
 |done h1 h2 h3 h4 h5=>
  have tr:∀a b c,RW H.ty H.Wg d.C 1 0 0 a b->RW H.ty H.Wg d.C 1 0 0 b c->RW H.ty H.Wg d.C 1 0 0 a c:=fun _ _ _ h1 h2=>h1.trans h2;exact .done h1 h2 h3 h4 (Goes.rely tr h5 (YN hr hC))
 |lib h1 h2 h3 h4=>exact .lib h1 h2 h3 (h4.rely (YN hr hC))
omit [Payload]in
theorem qm(C:Ctx)(f:Fr)(fs:List Fr):(gZ C f fs).status= .running:=by cases fs<;>rfl
theorem WS.status{d:WX}(h:WS H i d g w):(g.status= .running\/g.status= .finished)\/(d.ws=17/\g.status= .blocked):=by
 cases h with
 |born n gB rk h1 h2 h3 h0 h4 h5 h6=>exact .inl (.inl h0)
 |tree h1 h2 h3 h4=>
  obtain⟨ρ,p,f,fs,f',fs',e,_⟩:=h3;exact .inl (.inl (by rw[e];exact qm _ _ _))
 |sel v z0 z1 bj off h1 h2 h3 h4 h5 h6=>exact .inl (.inl (by rw[h3]))
 |uh v z0 z1 bj h1 h2 h3 h4 h5 h6=>exact .inr ⟨h1,by rw[h3];rfl⟩
 |done h1 h2 h3 h4 h5=>exact .inl (.inl (Goes.running (fun _ _ x=>x.1) w (RW.refl w) h5))
 |lib h1 h2 h3 h4=>exact .inl h4.status
theorem WS.again{d:WX}(h:WS H i d g w){s r s' r':Nat}{tm tm' c:Bool}(hR:w'.heap[H.R]? =some (.chan 0 #[] false s r tm))(hD:w'.heap[H.Dn]? =some (.chan 0 #[] c s' r' tm'))(hn:c=true->d.ws≠17):g.again w'=g:=by
 rcases h.status with hs|⟨vN,_⟩
 .exact again_running w' hs
 .have hc:c=false:=by cases c with
   |false=>rfl
   |true=>exact absurd vN (hn rfl)
  subst hc;cases h with
  |uh v z0 z1 bj h1 h2 h3 h4 h5 h6=>rw[h3];exact Ba hR hD
  |born n gB rk h1=>omega
  |tree h1=>omega
  |sel v z0 z1 bj off h1=>omega
  |done h1=>omega
  |lib h1 h2 h3 h4=>omega
omit [Payload]in
theorem rJ{P:Program}{g' x:Goroutine}(h:x.again w'=x):woken P g g' w' x=x:=by
 unfold Go.Conc.woken;split
 .exact h
 .rfl
theorem WS.IB{d:WX}(h:WS H i d g w):(17<=d.ws/\d.st=7)\/(d.ws=d.st/\d.st<=7):=by
 have key:d.wd=⟨7,0,0⟩->d.st=7:=fun e=>by cases d;simp only[WX.wd,WD.mk.injEq]at e;exact e.1
 cases h with
 |born n gB rk h1 h2 h3=>exact .inl ⟨by omega,key h3⟩
 |tree h1 h2=>exact .inl ⟨by omega,key h2⟩
 |sel v z0 z1 bj off h1 h2=>exact .inl ⟨by omega,key h2⟩
 |uh v z0 z1 bj h1 h2=>exact .inl ⟨by omega,key h2⟩
 |done h1 h2=>exact .inr ⟨by omega,by omega⟩
 |lib h1 h2=>exact .inr ⟨h1,by omega⟩
end
structure JU(H:Ph)(mine bH:Nat->Prop)(w w':World)(es:Array Event):Prop where
 size:w.heap.size<=w'.heap.size
 row:∀b,b<w.heap.size->¬mine b->w'.heap[b]? =w.heap[b]?
 new:∀b,bH b->mine b\/(w.heap.size<=b/\b<w'.heap.size)
 tape:w'.tape=w.tape
 os:w'.os=w.os
 output:w'.output=w.output
 nv:NV w->NV w'
 evs:∀e∈es,(∃c i wr,e=⟨.cell ⟨c,i,none⟩,wr,false⟩/\(H.old c\/bH c)/\(wr=true->bH c))\/e=⟨.mark .noRoom,false,true⟩\/∃f,e=⟨.mark (.extern f),false,true⟩
def nY(H:Ph)(mine:Nat->Prop)(b:Nat):Prop:=H.old b\/mine b
def aO(H:Ph)(Stop:(Nat->Prop)->Goroutine->World->Prop):Nat->(Nat->Prop)->Goroutine->World->Prop
 |0,mine,g,w=>∀af,mP H.ty H.Wg (nY H mine) w af->Stop mine g af
 |n+1,mine,g,w=>(∀af,mP H.ty H.Wg (nY H mine) w af->Stop mine g af)\/(g.status= .running/\∀af,mP H.ty H.Wg (nY H mine) w af->∃g' w' es bH,stepG H.P true g af= .go g' w' es/\JU H mine bH af w' es/\aO H Stop n bH g' w')
theorem aO.rely{H:Ph}{Stop:(Nat->Prop)->Goroutine->World->Prop}{mine:Nat->Prop}{af:World}(h:aO H Stop n mine g w)(hr:mP H.ty H.Wg (nY H mine) w af):aO H Stop n mine g af:=by
 cases n with
 |zero=>exact fun w₂ gN=>h w₂ (hr.trans gN)
 |succ n=>exact h.imp (fun x w₂ gN=>x w₂ (hr.trans gN)) (fun x=>⟨x.1,fun w₂ gN=>x.2 w₂ (hr.trans gN)⟩)
theorem aO.cases{H:Ph}{Stop:(Nat->Prop)->Goroutine->World->Prop}{mine:Nat->Prop}(h:aO H Stop n mine g w):
  Stop mine g w\/∃n',n=n'+1/\g.status= .running/\∃g' w' es bH,stepG H.P true g w= .go g' w' es/\JU H mine bH w w' es/\aO H Stop n' bH g' w':=by
 cases n with
 |zero=>exact .inl (h w (.refl w))
 |succ n=>exact h.imp (fun x=>x w (.refl w)) (fun x=>⟨n,rfl,x.1,x.2 w (.refl w)⟩)
theorem aO.running{H:Ph}{Stop:(Nat->Prop)->Goroutine->World->Prop}{mine:Nat->Prop}(h:aO H Stop n mine g w)(hs:∀m g w,Stop m g w->g.status= .running):g.status= .running:=by
 rcases h.cases with h|⟨_,_,h,_⟩
 .exact hs _ _ _ h
 .exact h
section
variable [Payload] (H:Ph)
def Cont(mine:Nat->Prop)(Q:World->Prop)(w:World):Prop:=∀af,mP H.ty H.Wg (nY H mine) w af->Q af
def og(ok:Bool)(got:Nat->Option Value)(mine:Nat->Prop)(g:Goroutine)(w:World):Prop:=
 ∃Y:Goroutine,Y.status= .running/\Walks H.P H.ty H.Wg (ko H.P H.ty H.Wg .disable (H.Anch Y)) g w/\Cont H mine (H.Fin ok got mine Y) w
def AtClose(got:Nat->Option Value)(mine:Nat->Prop)(g:Goroutine)(w:World):Prop:=
 g.status= .running/\∀s r tm,w.heap[H.Dn]? =some (.chan 0 #[] false s r tm)->∃g' es,stepG H.P true g w= .go g' (w.setChan H.Dn 0 #[] true s r tm) es/\mayWake H.P g=true/\g'.status= .running/\(∀e∈es,(∀y,(MemAct.ofEvent e).touch? =some y->(∃r,y.loc= .obj r)/\y.kind= .atomic)/\(MemAct.ofEvent e).low w.heap.size/\e.loc≠.mark .disable/\e.loc≠.mark .enable/\e.loc≠.mark (.release (stA H.Wg)))/\
  Cont H mine (fun af=>∃n,aO H (og H false got) n mine g' af) w
def qC:Nat->(Nat->Option Value)->(Nat->Prop)->Goroutine->World->Prop
 |0,got,mine,g,w=>og H true got mine g w
 |k+1,got,mine,g,w=>g.status= .running/\∃z,(∀w,stepG H.P true g w= .comm g #[rcase H.R z] true (.recv false) w #[])/\
  ∀i v,i<H.N->got i=none->H.RZ i v->Cont H mine (fun af=>∃n,aO H (fun m g w=>qC k (upd got i (some v)) m g w\/AtClose H (upd got i (some v)) m g w) n mine (g.finishComm H.P #[rcase H.R z] (.recv false) 0 v true) af) w
def AtGo(i:Nat)(Next:(Nat->Prop)->Goroutine->World->Prop)(mine:Nat->Prop)(g:Goroutine)(w:World):Prop:=
 g.status= .running/\∃g' child d bH,stepG H.P true g w= .spawn g' child w #[]/\d.ws=22/\d.df=0/\d.gu=false/\WS H i d child w/\(∀c,¬d.ow c)/\(∀c,d.vs c->H.old c\/mine c)/\(∀c,d.vs c->¬bH c)/\d.vs d.C/\mine d.C/\(∀b,bH b->mine b)/\Next bH g' w
def AtCall(Next:(Nat->Prop)->Goroutine->World->Prop)(mine:Nat->Prop)(g:Goroutine)(w:World):Prop:=
 ∃gK,Adds H.P H.ty H.Wg (fun g _=>g=gK) g w/\Cont H mine (Next mine gK) w
def Wh:Nat->(Nat->Prop)->Goroutine->World->Prop
 |0,mine,g,w=>∃n,aO H (fun m g w=>qC H H.N (fun _=>none) m g w\/AtClose H (fun _=>none) m g w) n mine g w
 |r+1,mine,g,w=>∃n,aO H (AtCall H fun mine g w=>∃n,aO H (AtGo H (H.N-(r+1)) (Wh r)) n mine g w) n mine g w
end
end
section
open Go.Conc Go.ConcN Go.bn Go.Ren
open Go.ConcR (KK wgBlock WgAt stA smA rd wr mk Payload Aside2 DC0 Bk g_of_ofEvents again_blocked)
variable{Wg s r:Nat}{tm:Bool}
inductive b_ where
 |sp (r s:Nat)|col (k:Nat) (b:Bool)|cl|wm|wt (c:CTag)
def b_.c:b_->CTag
 | .sp r s=>.sp r s
 | .col _ _=>.kd
 | .cl=>.kd
 | .wm=>.w3
 | .wt c=>c
def dA(N v:Nat):b_->Nat
 | .sp r s=>14*N+60+16*r+s
 | .col k b=>10*N+20+3*k+(if b then 0 else 1)
 | .cl=>8*N+8
 | .wm=>6
 | .wt c=>phi N v c
section
variable [Payload] (H:Ph) (j:Nat) (mine:Nat->Prop) (got:Nat->Option Value) (Y:Goroutine)
def isK(gK:Goroutine)(g:Goroutine)(_:World):Prop:=g=gK
def NX(r:Nat)(mine:Nat->Prop)(g:Goroutine)(w:World):Prop:=∃n,aO H (AtGo H (H.N-(r+1)) (Wh H r)) n mine g w
inductive SS:b_->Nat->Nat->Goroutine->World->Prop
 |ZL {r m:Nat} {g:Goroutine} {w:World}:j+(r+1)=H.N->aO H (AtCall H (NX H r)) m mine g w->SS (.sp r 6) m 0 g w
 |kd {r m:Nat} {gK g:Goroutine} {w:World}:j+(r+1)=H.N->(Goes H.P true (RS H.ty H.Wg) DC0) (ko H.P H.ty H.Wg .disable (JX H.P H.ty H.Wg (ko H.P H.ty H.Wg (.read (smA H.Wg)) (ko H.P H.ty H.Wg .enable (isK gK))) (ko H.P H.ty H.Wg .enable (isK gK)))) m g w->Cont H mine (NX H r mine gK) w->SS (.sp r 5) m 0 g w
 |a1 {r m:Nat} {gK g:Goroutine} {w:World}:j+(r+1)=H.N->(Goes H.P true (RS H.ty H.Wg) DC0) (JX H.P H.ty H.Wg (ko H.P H.ty H.Wg (.read (smA H.Wg)) (ko H.P H.ty H.Wg .enable (isK gK))) (ko H.P H.ty H.Wg .enable (isK gK))) m g w->Cont H mine (NX H r mine gK) w->SS (.sp r 4) m 1 g w
 |rd {r m:Nat} {gK g:Goroutine} {w:World}:j+(r+1)=H.N->(Goes H.P true (RS H.ty H.Wg) DC0) (ko H.P H.ty H.Wg (.read (smA H.Wg)) (ko H.P H.ty H.Wg .enable (isK gK))) m g w->Cont H mine (NX H r mine gK) w->SS (.sp r 3) m 1 g w
 |ke {r m:Nat} {gK g:Goroutine} {w:World}:j+(r+1)=H.N->(Goes H.P true (RS H.ty H.Wg) DC0) (ko H.P H.ty H.Wg .enable (isK gK)) m g w->Cont H mine (NX H r mine gK) w->SS (.sp r 2) m 1 g w
 |kk {r m:Nat} {gK g:Goroutine} {w:World}:j+(r+1)=H.N->gK.status= .running->(Goes H.P true (RS H.ty H.Wg) DC0) (isK gK) m g w->Cont H mine (NX H r mine gK) w->SS (.sp r 1) m 0 g w
 |sgo {r m:Nat} {g:Goroutine} {w:World}:j+(r+1)=H.N->aO H (AtGo H (H.N-(r+1)) (Wh H r)) m mine g w->SS (.sp r 0) m 0 g w
 |col {k m:Nat} {g:Goroutine} {w:World}:j=H.N->aO H (fun m g w=>qC H k got m g w\/AtClose H got m g w) m mine g w->SS (.col k false) m 0 g w
 |rcv {k m:Nat} {z:Value} {bj:Goroutine} {w:World}:j=H.N->bj.status= .running->
  (∀i v,i<H.N->got i=none->H.RZ i v->Cont H mine (fun af=>∃n,aO H (fun m g w=>qC H k (upd got i (some v)) m g w\/AtClose H (upd got i (some v)) m g w) n mine (bj.finishComm H.P #[rcase H.R z] (.recv false) 0 v true) af) w)->SS (.col (k+1) true) m 0 (parked bj #[rcase H.R z] (.recv false)) w
 |cl {m:Nat} {g:Goroutine} {w:World}:j=H.N->aO H (og H false got) m mine g w->SS .cl m 0 g w
 |wkd {m:Nat} {g:Goroutine} {w:World}:(j=H.N/\Y.status= .running)->(Goes H.P true (RS H.ty H.Wg) DC0) (ko H.P H.ty H.Wg .disable (H.Anch Y)) m g w->SS (.wt .kd) m 0 g w
 |anch {m:Nat} {g:Goroutine} {w:World}:(j=H.N/\Y.status= .running)->(Goes H.P true (RS H.ty H.Wg) DC0) (H.Anch Y) m g w->SS (.wt .anch) m 1 g w
 |w1 {m:Nat} {g:Goroutine} {w:World}:(j=H.N/\Y.status= .running)->(Goes H.P true (RS H.ty H.Wg) DC0) (Round H.P H.ty H.Wg (H.Anch Y) (isK Y)) m g w->SS (.wt .w1) m 1 g w
 |w2 {vs m:Nat} {g:Goroutine} {w:World}:(j=H.N/\Y.status= .running)->(Goes H.P true (RS H.ty H.Wg) DC0) (Wy H.P H.ty H.Wg vs (ko H.P H.ty H.Wg (.write (smA H.Wg)) (JW H.P H.ty H.Wg (oh H.P H.ty H.Wg (Ends H.P H.ty H.Wg (isK Y))))) (H.Anch Y)) m g w->SS (.wt (.w2 vs)) m 1 g w
 |wm {m:Nat} {g:Goroutine} {w:World}:(j=H.N/\Y.status= .running)->(Goes H.P true (RS H.ty H.Wg) DC0) (ko H.P H.ty H.Wg (.write (smA H.Wg)) (JW H.P H.ty H.Wg (oh H.P H.ty H.Wg (Ends H.P H.ty H.Wg (isK Y))))) m g w->SS .wm m 1 g w
 |w3 {m:Nat} {g:Goroutine} {w:World}:(j=H.N/\Y.status= .running)->(Goes H.P true (RS H.ty H.Wg) DC0) (JW H.P H.ty H.Wg (oh H.P H.ty H.Wg (Ends H.P H.ty H.Wg (isK Y)))) m g w->SS (.wt .w3) (m+1) 1 g w
 |blk {m:Nat} {g:Goroutine} {w:World}:(j=H.N/\Y.status= .running)->(∀af,RS H.ty H.Wg w af->(JW H.P H.ty H.Wg (oh H.P H.ty H.Wg (Ends H.P H.ty H.Wg (isK Y)))) g af)->SS (.wt .blk) m 1 {g with status:=.blocked} w
 |w4 {m:Nat} {g:Goroutine} {w:World}:(j=H.N/\Y.status= .running)->(Goes H.P true (RS H.ty H.Wg) DC0) (oh H.P H.ty H.Wg (Ends H.P H.ty H.Wg (isK Y))) m g w->SS (.wt .w4) m 1 g w
 |Zr {m:Nat} {g:Goroutine} {w:World}:(j=H.N/\Y.status= .running)->(Goes H.P true (RS H.ty H.Wg) DC0) (Ends H.P H.ty H.Wg (isK Y)) m g w->SS (.wt .ke) m 1 g w
 |acq {m:Nat} {g:Goroutine} {w:World}:(j=H.N/\Y.status= .running)->(Goes H.P true (RS H.ty H.Wg) DC0) (ko H.P H.ty H.Wg (.acquire (stA H.Wg)) (isK Y)) m g w->SS (.wt .acq) m 0 g w
 |ret {m:Nat} {g:Goroutine} {w:World}:(j=H.N/\Y.status= .running)->(Goes H.P true (RS H.ty H.Wg) DC0) (isK Y) m g w->SS (.wt .ret) m 0 g w
end
section
variable [Payload] {H:Ph} {j:Nat} {mine:Nat->Prop} {got:Nat->Option Value} {Y:Goroutine} {tag:b_} {m d:Nat} {g:Goroutine} {w w':World}
omit [Payload]in
theorem rs_of{ty:TypeId}{See:Nat->Prop}{w w':World}(hr:mP ty Wg See w w'):RS ty Wg w w':=⟨hr.live⟩
omit [Payload]in
theorem Cont.rely{Q:World->Prop}(h:Cont H mine Q w)(hr:mP H.ty H.Wg (nY H mine) w w'):Cont H mine Q w':=fun af aa=>h af (hr.trans aa)
theorem SS.rely(h:SS H j mine got Y tag m d g w)(hr:mP H.ty H.Wg (nY H mine) w w'):SS H j mine got Y tag m d g w':=by
 have r:=rs_of hr;cases h with
 |ZL e h=>exact .ZL e (h.rely hr)
 |kd e h c=>exact .kd e (Goes.rely RS.trans h r) (c.rely hr)
 |a1 e h c=>exact .a1 e (Goes.rely RS.trans h r) (c.rely hr)
 |rd e h c=>exact .rd e (Goes.rely RS.trans h r) (c.rely hr)
 |ke e h c=>exact .ke e (Goes.rely RS.trans h r) (c.rely hr)
 |kk e s h c=>exact .kk e s (Goes.rely RS.trans h r) (c.rely hr)
 |sgo e h=>exact .sgo e (h.rely hr)
 |col e h=>exact .col e (h.rely hr)
 |rcv e s h=>exact .rcv e s fun i v h1 h2 h3=>(h i v h1 h2 h3).rely hr
 |cl e h=>exact .cl e (h.rely hr)
 |wkd e h=>exact .wkd e (Goes.rely RS.trans h r)
 |anch e h=>exact .anch e (Goes.rely RS.trans h r)
 |w1 e h=>exact .w1 e (Goes.rely RS.trans h r)
 |w2 e h=>exact .w2 e (Goes.rely RS.trans h r)
 |wm e h=>exact .wm e (Goes.rely RS.trans h r)
 |w3 e h=>exact .w3 e (Goes.rely RS.trans h r)
 |blk e h=>exact .blk e fun af aa=>h af (RS.trans _ _ _ r aa)
 |w4 e h=>exact .w4 e (Goes.rely RS.trans h r)
 |Zr e h=>exact .Zr e (Goes.rely RS.trans h r)
 |acq e h=>exact .acq e (Goes.rely RS.trans h r)
 |ret e h=>exact .ret e (Goes.rely RS.trans h r)
omit [Payload]in
theorem CQ{P:Program}{ty:TypeId}{Stop:Goroutine->World->Prop}{g:Goroutine}{w:World}(hs:∀g w,Stop g w->g.status= .running)(h:Walks P ty Wg Stop g w):g.status= .running:=by
 obtain⟨m,h⟩:=h;exact Goes.running hs w (RS.refl w) h
omit [Payload]in
theorem VK{Q:(Nat->Prop)->Goroutine->World->Prop}(h:AtCall H Q mine g w):g.status= .running:=by
 obtain⟨gK,h,_⟩:=h;exact CQ (fun _ _ x=>x.1) h
omit [Payload]in
theorem Gt{ok:Bool}(h:og H ok got mine g w):g.status= .running:=by
 obtain⟨_,_,h,_⟩:=h;exact CQ (fun _ _ x=>x.1) h
omit [Payload]in
theorem Po{k:Nat}(h:qC H k got mine g w):g.status= .running:=by
 cases k with
 |zero=>exact Gt h
 |succ k=>exact h.1
def b_.rests:b_->Bool
 | .col _ b=>b
 | .wt .blk=>true
 |_=>false
def b_.late:b_->Bool
 | .sp _ _=>false
 | .col _ b=>b
 |_=>true
theorem SS.status(xh:∀Y g w,H.Anch Y g w->g.status= .running)(h:SS H j mine got Y tag m d g w):(g.status= .running/\tag.rests=false)\/(g.status= .blocked/\tag.rests=true):=by
 cases h with
 |ZL e h=>exact .inl ⟨h.running fun _ _ _ x=>VK x,rfl⟩
 |kd e h c=>exact .inl ⟨Goes.running (fun _ _ x=>x.1) w (RS.refl w) h,rfl⟩
 |a1 e h c=>exact .inl ⟨Goes.running (fun _ _ x=>x.1) w (RS.refl w) h,rfl⟩
 |rd e h c=>exact .inl ⟨Goes.running (fun _ _ x=>x.1) w (RS.refl w) h,rfl⟩
 |ke e h c=>exact .inl ⟨Goes.running (fun _ _ x=>x.1) w (RS.refl w) h,rfl⟩
 |kk e s h c=>exact .inl ⟨Goes.running (fun g _ (x:g=_)=>by rw[x];exact s) w (RS.refl w) h,rfl⟩
 |sgo e h=>exact .inl ⟨h.running fun _ _ _ x=>x.1,rfl⟩
 |col e h=>exact .inl ⟨h.running fun _ _ _ x=>x.elim Po fun y=>y.1,rfl⟩
 |rcv e s h=>exact .inr ⟨rfl,rfl⟩
 |cl e h=>exact .inl ⟨h.running fun _ _ _ x=>Gt x,rfl⟩
 |wkd e h=>exact .inl ⟨Goes.running (fun _ _ x=>x.1) w (RS.refl w) h,rfl⟩
 |anch e h=>exact .inl ⟨Goes.running (xh Y) w (RS.refl w) h,rfl⟩
 |w1 e h=>exact .inl ⟨Goes.running (fun _ _ x=>x.1) w (RS.refl w) h,rfl⟩
 |w2 e h=>exact .inl ⟨Goes.running (fun _ _ x=>x.1) w (RS.refl w) h,rfl⟩
 |wm e h=>exact .inl ⟨Goes.running (fun _ _ x=>x.1) w (RS.refl w) h,rfl⟩
 |w3 e h=>exact .inl ⟨Goes.running (fun _ _ x=>x.1) w (RS.refl w) h,rfl⟩
 |blk e h=>exact .inr ⟨rfl,rfl⟩
 |w4 e h=>exact .inl ⟨Goes.running (fun _ _ x=>x.1) w (RS.refl w) h,rfl⟩
 |Zr e h=>exact .inl ⟨Goes.running (fun _ _ x=>x.1) w (RS.refl w) h,rfl⟩
 |acq e h=>exact .inl ⟨Goes.running (fun _ _ x=>x.1) w (RS.refl w) h,rfl⟩
 |ret e h=>exact .inl ⟨Goes.running (fun g _ (x:g=_)=>by rw[x];exact e.2) w (RS.refl w) h,rfl⟩
omit [Payload]in
theorem JQ{g:Goroutine}{R:Nat}{z:Value}{sh:CommShape}{w:World}(hR:w.heap[R]? =some (.chan 0 #[] false s r tm)):(parked g #[rcase R z] sh).again w=parked g #[rcase R z] sh:=by
 simp[Goroutine.again,parked,rcase,hR]
theorem SS.wokenBy(xh:∀Y g w,H.Anch Y g w->g.status= .running)(h:SS H j mine got Y tag m d g w)(hr:mP H.ty H.Wg (nY H mine) w w')(hR:w'.heap[H.R]? =some (.chan 0 #[] false s r tm))(x x':Goroutine):
  ∃tag' m',SS H j mine got Y tag' m' d (woken H.P x x' w' g) w'/\((tag'=tag/\m'=m)\/(tag= .wt .blk/\tag'= .wt .w3))/\(mayWake H.P x=true->x'.status= .running->tag'≠.wt .blk):=by
 have h':=h.rely hr;unfold Go.Conc.woken;split
 .rcases h'.status xh with⟨hs,bd⟩|⟨_,ht⟩
  .exact⟨tag,m,by rw[again_running _ (.inl hs)];exact h',.inl ⟨rfl,rfl⟩,fun _ _ e=>by rw[e]at bd;cases bd⟩
  .cases h' with
   |rcv e s h=>exact⟨_,m,by rw[JQ hR];exact .rcv e s h,.inl ⟨rfl,rfl⟩,fun _ _ e=>by cases e⟩
   |blk e hb=>
    rename_i g0;have h3:=hb w' (RS.refl w');exact⟨.wt .w3,0+1,by rw[again_blocked h3.1 h3.2.1];exact .w3 e (Goes.stop hb),.inr ⟨rfl,rfl⟩,fun _ _=>by simp⟩
   |_=>cases ht
 .rename_i hc;exact⟨tag,m,h',.inl ⟨rfl,rfl⟩,fun h1 h2=>absurd (by simp[h1,h2]) hc⟩
end
structure Sets(H:Ph)(j:Nat)(D:Nat->WX)(mine:Nat->Prop)(sz:Nat):Prop where
 iZ:∀b,H.old b->b<sz/\b≠H.Wg/\b≠H.R/\b≠H.Dn/\∀k,¬H.Shun (.cell ⟨b,k,none⟩)
 mspec:∀b,mine b->b<sz/\b≠H.Wg/\b≠H.R/\b≠H.Dn/\∀k,¬H.Shun (.cell ⟨b,k,none⟩)
 Qv:∀b,mine b->¬H.old b
 gV:∀i b,i<j->(D i).vs b->b<sz/\b≠H.Wg/\b≠H.R/\b≠H.Dn/\∀k,¬H.Shun (.cell ⟨b,k,none⟩)
 ov:∀i b,i<j->(D i).ow b->(D i).vs b
 vm:∀i b,i<j->(D i).vs b->¬mine b
 om:∀i b,i<j->(D i).ow b->¬H.old b
 apart:∀i i' b,i<j->i'<j->i≠i'->(D i).ow b->¬(D i').vs b
 cv:∀i,i<j->(D i).vs (D i).C
 cold:∀i,i<j->¬H.old (D i).C
 co:∀i,i<j->¬(D i).ow (D i).C
 cap:∀i i',i<j->i'<j->i≠i'->¬(D i').vs (D i).C
 Ab:H.Wg<sz/\H.R<sz/\H.Dn<sz/\H.Wg≠H.R/\H.Wg≠H.Dn/\H.R≠H.Dn
 fresh:∀b k,sz<=b->¬H.Shun (.cell ⟨b,k,none⟩)
def Nn(o j:Nat)(k:Nat):Prop:=∃i,i<j/\k=o+i
def Em(o j:Nat)(D:Nat->WX)(k c:Nat):Prop:=∃i,i<j/\k=o+i/\(D i).ow c
def Ej(o j:Nat)(D:Nat->WX)(k c:Nat):Prop:=∃i,i<j/\k=o+i/\(D i).vs c
structure qP(H:Ph)(j:Nat)(D:Nat->WX)(d0 sz:Nat)(t:Trace):Prop where
 ti:TI H.Shun (Nn H.o j) (Em H.o j D) (Ej H.o j D) H.Wg sz t
 IW:NoRelease (stA H.Wg) t
 over:∀i g,t.g? i=some g->g≠0->t.counts i->Nn H.o j g\/∃k,t.g? k=some 0/\HappensBefore t i k
 deaf0:Deaf t 0=d0
 deafW:∀i,i<j->Deaf t (H.o+i)=(D i).df
 rH:∀k,H.o+j<=k->Deaf t k=0
 rel:∀i,i<j->(D i).ws<=6->∃r,RelBy (stA H.Wg) t (H.o+i) r
structure oK(P:Program)(o j:Nat)(gs:Array Goroutine)(a:Goroutine)(x:Nat->Goroutine)(q:Nat->Nat)(t:Trace):Prop where
 size:gs.size=o+j
 pos:0<o
 z:gs[0]? =some a
 w:∀i,i<j->gs[o+i]? =some (x i)
 old:∀i g,0<i->i<o->gs[i]? =some g->QuitsD P (q i) (Deaf t i) g
structure Fl(H:Ph)(j:Nat)(D:Nat->WX)(tag:b_)(got:Nat->Option Value)(Y:Goroutine)(closed:Bool)(mine:Nat->Prop)(w:World):Prop where
 jN:j<=H.N
 gu:∀i,i<j->(D i).gu=true->closed=true
 np:(closed=true\/tag.late=true)->∀i,i<j->(D i).ws≠17
 some:∀i v,got i=some v->i<j/\(D i).ws<=7/\YD (D i) (H.YC i v) w
 none:closed=false->∀i,i<j->got i=none->17<=(D i).ws
 cnt:∀k b,tag= .col k b->closed=false/\sumTo H.N (fun i=>if got i=Option.none then 1 else 0)=k
 sp:∀r s,tag= .sp r s->closed=false/\∀i,got i=Option.none
 wt:∀c,tag= .wt c\/tag= .wm->∃ok,closed= !ok/\(ok=true->∀i,i<H.N->got i≠Option.none)/\Cont H mine (H.Fin ok got mine Y) w
 cl:tag= .cl->closed=true
def yg(H:Ph)(j:Nat)(t:Trace):Prop:=∃q,t.act? q=some (.mark (.acquire (stA H.Wg)))/\t.g? q=some 0/\t.heard q/\∀i,i<j->∃r,RelBy (stA H.Wg) t (H.o+i) r/\r<q
def Bas(H:Ph)(w:World):Prop:=((∀b,H.old b->w.heap[b]? =H.row0 b)/\w.os=H.w0.os/\w.output=H.w0.output)/\NV w/\∀b,H.aux b->(b≠H.Wg/\b≠H.R/\b≠H.Dn/\H.Shun (.cell ⟨b,0,none⟩))/\∃o,H.row0 b=some o/\w.heap[b]? =some o
theorem Bas.rely{H:Ph}{mine:Nat->Prop}{w w':World}(h:Bas H w)(hr:mP H.ty H.Wg (nY H mine) w w')(ha:∀b,H.aux b->b<w.heap.size->w'.heap[b]? =w.heap[b]?):Bas H w':=
 ⟨⟨fun b hb=>(hr.row b (.inl hb)).trans (h.1.1 b hb),hr.os.trans h.1.2.1,hr.output.trans h.1.2.2⟩,hr.nv h.2.1,fun b hb=>⟨(h.2.2 b hb).1,by
  obtain⟨o,h1,h2⟩:=(h.2.2 b hb).2;exact⟨o,h1,(ha b hb (Array.getElem?_eq_some_iff.1 h2).1).trans h2⟩⟩⟩
def CH(H:Ph)(closed:Bool)(w:World):Prop:=(∃s r tm,w.heap[H.R]? =some (.chan 0 #[] false s r tm))/\(∃s r tm,w.heap[H.Dn]? =some (.chan 0 #[] closed s r tm))/\Bas H w
def bJ(D:Nat->WX)(i:Nat):WD:=(D i).wd
def iO(j:Nat)(D:Nat->WX)(i:Nat):Nat:=if i<j then(D i).ws else 30
abbrev Ms:=(Nat×(Nat->Rk))×Nat
def meas(H:Ph)(j:Nat)(D:Nat->WX)(tag:b_)(f0:Nat)(q:Nat->Nat):Ms:=((dA H.N (Vc j (bJ D)) tag+sumTo H.N (iO j D)+sumTo H.o q,fun i=>(D i).rk),f0)
def LL(n:Nat):Ms->Ms->Prop:=Prod.Lex (LT n) Nat.lt
theorem ll_wf(n:Nat):WellFounded (LL n):=(Prod.lex ⟨LT n,lt_wf n⟩ Nat.lt_wfRel).wf
def Inv[Payload](H:Ph)(J:Ms)(m:Machine)(t:Trace):Prop:=
 ∃(gs:Array Goroutine) (w:World) (sl:Option (Nat×Nat)) (j:Nat) (D:Nat->WX) (mine:Nat->Prop) (got:Nat->Option Value) (Y:Goroutine) (closed:Bool) (tag:b_) (f0 d0:Nat) (a:Goroutine) (x:Nat->Goroutine) (q:Nat->Nat) (st sm:Int),
  m=crowd gs w sl/\oK H.P H.o j gs a x q t/\SS H j mine got Y tag f0 d0 a w/\(∀i,i<j->WS H i (D i) (x i) w)/\Sets H j D mine w.heap.size/\qP H j D d0 w.heap.size t/\Fl H j D tag got Y closed mine w/\CH H closed w/\
  WgAt H.ty H.Wg w st sm/\ConcN.Mode j (bJ D) tag.c st sm/\(tag= .wt .ret->yg H j t)/\J=meas H j D tag f0 q
end
