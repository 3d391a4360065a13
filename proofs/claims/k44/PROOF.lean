import PyProof.Rows.All
import Wide.All
import OpenK.AllK
import Wide.FinOn
import Lean
import PyProof.EqAt
import PyProof.EqKinds
import PyProof.TupleCall
import PySem.Challenge.RW_borderfloor_k44_whole_built_partings
set_option bootstrap.genMatcherCode false
set_option compiler.extract_closed false
set_option Elab.async false
set_option linter.all false
set_option maxRecDepth 100000
noncomputable section
namespace L2
open PySem PySem.Spec PyProof.Rows
def defArgs (s:Stmt):Arguments:=match s with
 | .FunctionDef _ a _ _ _ _ _ _ _ _ => a
 | _ => { posonlyargs:=[],args:=[],vararg:=none,kwonlyargs:=[],kw_defaults:=[],kwarg:=none,defaults:=[] }
def defBody (s:Stmt):List Stmt:=match s with
 | .FunctionDef _ _ b _ _ _ _ _ _ _ => b
 | _ => []
def defScope (s:Stmt):Scope:=match s with
 | .FunctionDef _ _ _ _ _ _ sc _ _ _ => sc
 | _ => { kind:=.function,names:=[],isGenerator:=false,isCoroutine:=false }
end L2
namespace L3
open PySem PySem.W PySem.Spec PyProof.Rows
abbrev tbF:=@PySem.W.Fast.tw14364793385576792824
theorem tbF_eq:treeTable = tbF:=PySem.W.Fast.te14364793385576792824
abbrev goF:=@PySem.W.Fast.tw15667345088766844465
theorem goF_eq:@topGo = @goF:=PySem.W.Fast.te15667345088766844465
abbrev sgF:=@PySem.W.Fast.tw14374325043358763698
theorem sgF_eq:@segRun = @sgF:=PySem.W.Fast.te14374325043358763698
abbrev stF:=@PySem.W.Fast.tw10110043849684766642
theorem stF_eq:@segRunT = @stF:=PySem.W.Fast.te10110043849684766642
abbrev trF:=@PySem.W.Fast.tw14082659384304107361
theorem trF_eq:@topRun = @trF:=PySem.W.Fast.te14082659384304107361
abbrev dnF:=@PySem.W.Fast.tw11892475500146522536
theorem dnF_eq:@denote = @dnF:=PySem.W.Fast.te11892475500146522536
abbrev imF:=@PySem.W.Fast.tw5923862056798008813
theorem imF_eq:@importedModules = @imF:=PySem.W.Fast.te5923862056798008813
abbrev osF:=@PySem.W.Fast.tw4187177175401517315
theorem osF_eq:@openSeen = @osF:=PySem.W.Fast.te4187177175401517315
def endT (d:SharedT):Option (Flow×SharedT×Code×Pos)→SharedT
 | some (_,s,_,_) => s
 | none => d
def endP (d:Shared):Option (Shared×Thread)→Shared
 | some (s,_) => s
 | none => d
def endS (d:Shared):Option Shared→Shared
 | some s => s
 | none => d
def S0 (w:World) (os:OsState):Shared:=⟨boot_heap w.params,Array.mk [],boot_drawn,boot_toks,os⟩
theorem boot_size (w:World):((boot_heap w.params).isNs mainGlobals && (Array.mk []:Array GenState).size == 0) = true∧(boot_heap w.params).objs.size = 11∧(boot_heap w.params).nsMap mainGlobals "__annotations__" = some (.ref 6) :=
 ⟨by kernel_rfl,by kernel_rfl,by kernel_rfl⟩
def b_43:Obj:={ cls:=.type "tuple",data:=.seq #[] }
def b_44:Obj:={ cls:=.none,data:=.fields #[] }
def b_45:Obj:={ cls:=.type "code",data:=.fields #[.str "<module>" 182,.str "<module>" 183,.str "/claim/cut.py" 184,.int 1 0,.int 0 0,.int 0 0,.int 0 0,.int 0 0,.ref 11,.bool false,.int 181 0,.ref 12,.none,.none,.none,.none,.int 185 0,.int 1 0,.str "/claim/cut.py" 186] }
def b_46:Obj:={ cls:=.type "frame",slots:=#[some (.ref 13),some (.ref 3),some (.ref 3),none,some (.str "__main__" 164),none,some (.ref 0)] }
def Sb (w:World) (os:OsState):SharedT :=
 ⟨.node (boot_o_0 w.params) (.node (boot_o_1 w.params) (.node (boot_o_3 w.params) (.node (boot_o_7 w.params) .nil .nil) (.node b_43 .nil .nil)) (.node (boot_o_5 w.params) (.node (boot_o_9 w.params) .nil .nil) (.node b_45 .nil .nil)))
  (.node (boot_o_2 w.params) (.node (boot_o_4 w.params) (.node (boot_o_8 w.params) .nil .nil) (.node b_44 .nil .nil)) (.node (boot_o_6 w.params) (.node (boot_o_10 w.params) .nil .nil) (.node b_46 .nil .nil))),15,{},Array.mk [],⟨0,0,0,0⟩,187,os⟩
def evM (p:Program):Env:={ scope:=p.main.scope,locals:=mainNs,globals:=mainNs,cells:=[],code:=.ref 13,frame:=some 14 }
def sA (p:Program) (w:World) (os:OsState):Shared:=endP (S0 w os) (goF tbF p w 11 (some (.ref 6)) 12 (S0 w os) (topStub p))
def sR (p:Program) (w:World) (os:OsState):Option (Flow×SharedT×Code×Pos):=stF tbF p w 11 (some (.ref 6)) 1 20000 (Sb w os) (piecesOf (behindTheImports p) (evM p) (.body (behindTheImports p) (evM p)) ⟨0,0,0,0⟩ [topFrame ⟨0,0,0,0⟩])
def endQ:Option (Flow×SharedT×Code×Pos)→Pos
 | some (_,_,_,q) => q
 | none => ⟨0,0,0,0⟩
def sE (p:Program) (w:World) (os:OsState):Option Shared:=trF tbF p w 11 (some (.ref 6)) 2 (endT (Sb w os) (sR p w os)).abs ⟨doneF .next,.body (behindTheImports p) (evM p),endQ (sR p w os),[topFrame ⟨0,0,0,0⟩]⟩
def sF (p:Program) (w:World) (os:OsState):Shared:=endS (S0 w os) (sE p w os)
theorem left_pt {p q:Program} {loose:List Str} {Xt:Shared→Bool} {α:Type} {Yf:Shared→α} {Ya:World→α} {N:Nat} {g0:Bool} {w:World} {ev:Env} {p0 p1 qf:Pos} {p2:OsState→Pos} {m a b n k:Nat} {ann:Option Value}
  {Sa F:OsState→Shared} {Sb G:OsState→SharedT}
  (h1:opening p = plainProg p.main.scope.names) (h2:Nat.ble 600 N = true) (h3:∀ s,fenceModules? p s = some s)
  (sz:((boot_heap w.params).isNs mainGlobals && (Array.mk []:Array GenState).size == 0) = true∧(boot_heap w.params).objs.size = m∧(boot_heap w.params).nsMap mainGlobals "__annotations__" = ann)
  (pre:∀ os,goF tbF p w m ann a (S0 w os) (topStub p) = some (Sa os,⟨dnF tbF (.body (behindTheImports p) ev),.body (behindTheImports p) ev,p0,[topFrame qf]⟩))
  (blk:∀ os,sgF tbF p w m ann 1 b (Sa os) (blockOf (behindTheImports p) ev (.body (behindTheImports p) ev) p0 [topFrame qf]) = some (.next,(Sb os).abs,.body (behindTheImports p) ev,p1))
  (seg:∀ os,stF tbF p w m ann 1 n (Sb os) (piecesOf (behindTheImports p) ev (.body (behindTheImports p) ev) p1 [topFrame qf]) = some (.next,G os,.body (behindTheImports p) ev,p2 os))
  (fin:∀ os,trF tbF p w m ann k (G os).abs ⟨doneF .next,.body (behindTheImports p) ev,p2 os,[topFrame qf]⟩ = some (F os))
  (le:Nat.ble (a + (b + (n + k))) N = true)
  (looks:∀ os,((staticsOk (imF p.main.body) (boot_heap w.params) (F os).heap && namesBound p (F os).heap && gensDone (F os) && laidKept (boot_heap w.params) (F os).heap),osF q loose (imF p.main.body) Xt g0 (F os),Yf (F os)) = (true,openGood q loose,Ya w)) :
  (openEnds treeTable p w N).map (fun s => (openSeen q loose (importedModules p.main.body) Xt g0 s,Yf s)) = some (openGood q loose,Ya w):=by
 obtain ⟨⟨hp,gs,dr,tk,os⟩,e,e'⟩:=Option.map_eq_some_iff.mp (boot_open h1 h2 h3 w)
 obtain ⟨rfl,e'⟩:=Prod.mk.inj e'
 obtain ⟨rfl,e'⟩:=Prod.mk.inj e'
 obtain ⟨rfl,rfl⟩:=Prod.mk.inj e'
 obtain ⟨z1,z2,z3⟩:=sz
 have l:=looks os
 rw [← imF_eq,← osF_eq] at l
 obtain ⟨l1,l⟩:=Prod.mk.inj l
 obtain ⟨l2,l3⟩:=Prod.mk.inj l
 have r1:=pre os
 rw [← goF_eq,← dnF_eq,← tbF_eq] at r1
 have r2:=blk os
 rw [← sgF_eq,← tbF_eq] at r2
 have r3:=seg os
 rw [← stF_eq,← tbF_eq] at r3
 have r4:=fin os
 rw [← trF_eq,← tbF_eq] at r4
 have r5:=piece_app (rest:=[]) (segRun_of r3) (piece_nil r4)
 rw [List.append_nil] at r5
 have r:=topRun_mono (N - (a + (b + (n + k)))) _ _ _ _ (go_top r1 (piece_block r2 r5))
 rw [Nat.add_sub_cancel' (Nat.le_of_ble_eq_true le)] at r
 have t:topFrom treeTable p w N (S0 w os) = some (F os):=by
  unfold topFrom
  show (match _ with | true => _ | false => _) = _
  dsimp only [S0]
  rw [z1,z2,z3]
  dsimp only
  rw [show topRun treeTable p w m ann N ⟨boot_heap w.params,Array.mk [],boot_drawn,boot_toks,os⟩ (topStub p) = some (F os) from r]
  show (match _ with | true => _ | false => _) = _
  rw [l1]
 unfold openEnds
 rw [e]
 show (topFrom treeTable p w N (S0 w os)).map _ = _
 rw [t]
 exact congrArg some (Prod.ext l2 l3)
theorem left_row (row:String) {p q:Program} {loose:List Str} {Xt:Shared→Bool} {α:Type} {Yf:Shared→α} {Ya:World→α} {g0:Bool}
  (h1:opening p = plainProg p.main.scope.names) (h3:∀ s,fenceModules? p s = some s)
  (pre:∀ (b:Bool) (w:World) (os:OsState),goF tbF p (w.withFollow row b) 11 (some (.ref 6)) 12 (S0 (w.withFollow row b) os) (topStub p) = some (sA p (w.withFollow row b) os,⟨dnF tbF (.body (behindTheImports p) (evM p)),.body (behindTheImports p) (evM p),⟨0,0,0,0⟩,[topFrame ⟨0,0,0,0⟩]⟩))
  (blk:∀ (b:Bool) (w:World) (os:OsState),sgF tbF p (w.withFollow row b) 11 (some (.ref 6)) 1 1 (sA p (w.withFollow row b) os) (blockOf (behindTheImports p) (evM p) (.body (behindTheImports p) (evM p)) ⟨0,0,0,0⟩ [topFrame ⟨0,0,0,0⟩]) = some (.next,(Sb (w.withFollow row b) os).abs,.body (behindTheImports p) (evM p),⟨0,0,0,0⟩))
  (seg:∀ (b:Bool) (w:World) (os:OsState),sR p (w.withFollow row b) os = some (.next,endT (Sb (w.withFollow row b) os) (sR p (w.withFollow row b) os),.body (behindTheImports p) (evM p),endQ (sR p (w.withFollow row b) os)))
  (fin:∀ (b:Bool) (w:World) (os:OsState),sE p (w.withFollow row b) os = some (sF p (w.withFollow row b) os))
  (looks:∀ (b:Bool) (w:World) (os:OsState),((staticsOk (imF p.main.body) (boot_heap (w.withFollow row b).params) (sF p (w.withFollow row b) os).heap && namesBound p (sF p (w.withFollow row b) os).heap && gensDone (sF p (w.withFollow row b) os) && laidKept (boot_heap (w.withFollow row b).params) (sF p (w.withFollow row b) os).heap),osF q loose (imF p.main.body) Xt g0 (sF p (w.withFollow row b) os),Yf (sF p (w.withFollow row b) os)) = (true,openGood q loose,Ya (w.withFollow row b))) :
  LeftO p q loose Xt Yf Ya 20100 g0:=by
 have z:∀ (b:Bool) (w:World),(openEnds treeTable p (w.withFollow row b) 20100).map (fun s => (openSeen q loose (importedModules p.main.body) Xt g0 s,Yf s)) = some (openGood q loose,Ya (w.withFollow row b)):=fun b w =>
  left_pt (n:=20000) (k:=2) (Sa:=sA p (w.withFollow row b)) (Sb:=Sb (w.withFollow row b)) (G:=fun os => endT (Sb (w.withFollow row b) os) (sR p (w.withFollow row b) os)) (F:=sF p (w.withFollow row b)) (p2:=fun os => endQ (sR p (w.withFollow row b) os)) h1 (by decide) h3 (boot_size _) (pre b w) (blk b w) (seg b w) (fin b w) (by decide) (looks b w)
 exact byRow2 row (z false) (z true)
abbrev PreP (p:Program) (w:World) (os:OsState):Prop:=goF tbF p w 11 (some (.ref 6)) 12 (S0 w os) (topStub p) = some (sA p w os,⟨dnF tbF (.body (behindTheImports p) (evM p)),.body (behindTheImports p) (evM p),⟨0,0,0,0⟩,[topFrame ⟨0,0,0,0⟩]⟩)
abbrev BlkP (p:Program) (w:World) (os:OsState):Prop:=sgF tbF p w 11 (some (.ref 6)) 1 1 (sA p w os) (blockOf (behindTheImports p) (evM p) (.body (behindTheImports p) (evM p)) ⟨0,0,0,0⟩ [topFrame ⟨0,0,0,0⟩]) = some (.next,(Sb w os).abs,.body (behindTheImports p) (evM p),⟨0,0,0,0⟩)
abbrev SegP (p:Program) (w:World) (os:OsState):Prop:=sR p w os = some (.next,endT (Sb w os) (sR p w os),.body (behindTheImports p) (evM p),endQ (sR p w os))
abbrev FinP (p:Program) (w:World) (os:OsState):Prop:=sE p w os = some (sF p w os)
abbrev LkA (p:Program) (w:World) (os:OsState):Prop:=(staticsOk (imF p.main.body) (boot_heap w.params) (sF p w os).heap && namesBound p (sF p w os).heap && gensDone (sF p w os) && laidKept (boot_heap w.params) (sF p w os).heap) = true
abbrev LkB (p q:Program) (loose:List Str) (Xt:Shared→Bool) (g0:Bool) (w:World) (os:OsState):Prop:=osF q loose (imF p.main.body) Xt g0 (sF p w os) = openGood q loose
abbrev LkC (p:Program) {α:Type} (Yf:Shared→α) (Ya:World→α) (w:World) (os:OsState):Prop:=Yf (sF p w os) = Ya w
theorem left_rows {p q:Program} {loose:List Str} {Xt:Shared→Bool} {α:Type} {Yf:Shared→α} {Ya:World→α} {g0:Bool} (row:String) (h1:opening p = plainProg p.main.scope.names) (h3:∀ s,fenceModules? p s = some s)
  (pre:∀ b (w:World) os,PreP p (w.withFollow row b) os) (blk:∀ b (w:World) os,BlkP p (w.withFollow row b) os) (seg:∀ b (w:World) os,SegP p (w.withFollow row b) os) (fin:∀ b (w:World) os,FinP p (w.withFollow row b) os)
  (a:∀ b (w:World) os,LkA p (w.withFollow row b) os) (b:∀ b (w:World) os,LkB p q loose Xt g0 (w.withFollow row b) os) (c:∀ b (w:World) os,LkC p Yf Ya (w.withFollow row b) os):LeftO p q loose Xt Yf Ya 20100 g0 :=
 left_row row h1 h3 pre blk seg fin fun i w os => Prod.ext (a i w os) (Prod.ext (b i w os) (c i w os))
end L3
namespace Law
open PySem PySem.Spec PyProof.Rows L2 L3
def top (i:Nat):Stmt:=PySem.Challenge.pw_borderfloor_k44_whole_built_partings.main.body.getD i (.Pass ⟨0,0,0,0⟩)
abbrev en (P:Params) (k:Str) (t:Tok) (v:Value):DictEntry:=⟨PyData.keyHash P k,.str k t,v⟩
open PySem.W in
def K0 (P:Params):Frag:=(nat_lit 2,⟨.none,none,.dict #[] 0,#[]⟩) ::
 (nat_lit 3,⟨.type "dict",none,.dict #[en P "__name__" 165 (.str "law_borderfloor_k44_whole_built_partings" 386),en P "__doc__" 166 .none,en P "__package__" 167 .none,en P "__loader__" 168 (.builtin "__main__.__loader__#opaque"),en P "__spec__" 169 .none,en P "__annotations__" 170 (.ref 6),en P "__builtins__" 171 (.ref 4),en P "__file__" 173 (.str "/claim/cut.py" 172),en P "__cached__" 174 .none,en P "added" 196 (.ref 21),en P "taken" 204 (.ref 28),en P "FloorError" 224 (.ref 38),en P "NoGrid" 240 (.ref 51),en P "common_measure" 251 (.ref 60),en P "levelled" 261 (.ref 67),en P "grid_of" 272 (.ref 74),en P "STEPS" 293 (.ref 75),en P "OPPOSITES" 306 (.ref 80),en P "corners_of" 316 (.ref 87),en P "backwards" 322 (.ref 92),en P "spans_of" 333 (.ref 99),en P "is_parting" 346 (.ref 106),en P "cuts_of_two" 352 (.ref 111),en P "cuts_of_three" 358 (.ref 116),en P "partings_of" 364 (.ref 121),en P "shifts_by" 377 (.ref 128),en P "grid_by" 385 (.ref 135),en P "_law_cell_at" 395 (.ref 142),en P "_law_step" 402 (.ref 149),en P "_law_whole" 409 (.ref 156),en P "_law_pair" 417 (.ref 163),en P "_law_path" 428 (.ref 170),en P "_law_back" 437 (.ref 177),en P "_law_letters" 450 (.ref 184),en P "_law_stretches" 456 (.ref 189),en P "_law_free" 462 (.ref 194),en P "_law_built" 468 (.ref 199),en P "_law_is_grid" 474 (.ref 204),en P "_law_rest" 483 (.ref 211),en P "_law_area" 493 (.ref 218),en P "_law_cells" 499 (.ref 223),en P "_law_shifts" 514 (.ref 230),en P "law" 520 (.ref 235)] 43,#[]⟩) ::
 (nat_lit 15,⟨.type "tuple",none,.seq #[] 0,#[]⟩) ::
 (nat_lit 17,⟨.type "tuple",none,.seq #[.str "one" 192,.str "other" 193] 0,#[]⟩) ::
 (nat_lit 18,⟨.type "tuple",none,.seq #[] 0,#[]⟩) ::
 (nat_lit 20,⟨.type "code",none,.fields #[.str "added" 189,.str "added" 190,.str "/claim/cut.py" 191,.int 2 0,.int 2 0,.int 0 0,.int 0 0,.int 3 0,.ref 15,.bool true,.int 181 0,.ref 16,.none,.ref 17,.ref 18,.ref 19,.int 194 0,.int 2 0,.str "/claim/cut.py" 195],#[]⟩) ::
 (nat_lit 21,⟨.type "function",none,.func (fnOf "added" "added" (defArgs (top 1)) (defBody (top 1)) (defScope (top 1)) .none .none .none (.str "borderfloor.cells" 187) none (.ref 20) .none),#[]⟩) ::
 (nat_lit 22,⟨.type "tuple",none,.seq #[] 0,#[]⟩) ::
 (nat_lit 24,⟨.type "tuple",none,.seq #[.str "one" 200,.str "other" 201] 0,#[]⟩) ::
 (nat_lit 25,⟨.type "tuple",none,.seq #[] 0,#[]⟩) ::
 (nat_lit 27,⟨.type "code",none,.fields #[.str "taken" 197,.str "taken" 198,.str "/claim/cut.py" 199,.int 4 0,.int 2 0,.int 0 0,.int 0 0,.int 3 0,.ref 22,.bool true,.int 181 0,.ref 23,.none,.ref 24,.ref 25,.ref 26,.int 202 0,.int 4 0,.str "/claim/cut.py" 203],#[]⟩) ::
 (nat_lit 28,⟨.type "function",none,.func (fnOf "taken" "taken" (defArgs (top 2)) (defBody (top 2)) (defScope (top 2)) .none .none .none (.str "borderfloor.cells" 187) none (.ref 27) .none),#[]⟩) ::
 (nat_lit 29,⟨.type "tuple",none,.seq #[.type "ValueError"] 0,#[]⟩) ::
 (nat_lit 36,⟨.type "tuple",none,.seq #[] 0,#[]⟩) ::
 (nat_lit 37,⟨.type "dict",none,.dict #[en P "__module__" 214 (.str "borderfloor.errors" 205),en P "__firstlineno__" 218 (.int 7 217),en P "__static_attributes__" 219 (.ref 36),en P "__weakref__" 221 (.ref 39),en P "__doc__" 222 .none] 3,#[]⟩) ::
 (nat_lit 38,⟨.type "type",none,.cls ⟨"FloorError",[.type "ValueError"],[.ref 38,.type "ValueError",.type "Exception",.type "BaseException",.type "object"],37, "FloorError",true,[],[.ref 51],false,none,false⟩,#[some (.ref 29),none,some (.str "FloorError" 207),some (.str "FloorError" 215),some (.builtin "ValueError.__new__"),some (.bool true)]⟩) ::
 (nat_lit 39,⟨.type "getset_descriptor",none,.fields #[.str "__weakref__" 220,.ref 38,.builtin "ExceptionGroup.__weakref__",.none],#[]⟩) ::
 (nat_lit 42,⟨.type "tuple",none,.seq #[.ref 38] 0,#[]⟩) ::
 (nat_lit 49,⟨.type "tuple",none,.seq #[] 0,#[]⟩) ::
 (nat_lit 50,⟨.type "dict",none,.dict #[en P "__module__" 232 (.str "borderfloor.errors" 205),en P "__firstlineno__" 236 (.int 9 235),en P "__static_attributes__" 237 (.ref 49),en P "__doc__" 238 .none] 2,#[]⟩) ::
 (nat_lit 51,⟨.type "type",none,.cls ⟨"NoGrid",[.ref 38],[.ref 51,.ref 38,.type "ValueError",.type "Exception",.type "BaseException",.type "object"],50, "NoGrid",true,[],[],false,none,false⟩,#[some (.ref 42),none,some (.str "NoGrid" 225),some (.str "NoGrid" 233),some (.builtin "ValueError.__new__"),some (.bool true)]⟩) ::
 (nat_lit 54,⟨.type "tuple",none,.seq #[] 0,#[]⟩) ::
 (nat_lit 56,⟨.type "tuple",none,.seq #[.str "one" 246,.str "other" 247,.str "rest" 248] 0,#[]⟩) ::
 (nat_lit 57,⟨.type "tuple",none,.seq #[] 0,#[]⟩) ::
 (nat_lit 59,⟨.type "code",none,.fields #[.str "common_measure" 243,.str "common_measure" 244,.str "/claim/cut.py" 245,.int 12 0,.int 2 0,.int 0 0,.int 0 0,.int 3 0,.ref 54,.bool true,.int 181 0,.ref 55,.none,.ref 56,.ref 57,.ref 58,.int 249 0,.int 12 0,.str "/claim/cut.py" 250],#[]⟩) ::
 (nat_lit 60,⟨.type "function",none,.func (fnOf "common_measure" "common_measure" (defArgs (top 7)) (defBody (top 7)) (defScope (top 7)) .none .none .none (.str "borderfloor.grids" 241) none (.ref 59) .none),#[]⟩) ::
 (nat_lit 61,⟨.type "tuple",none,.seq #[] 0,#[]⟩) ::
 (nat_lit 63,⟨.type "tuple",none,.seq #[.str "one" 255,.str "other" 256,.str "times" 257,.str "rest" 258] 0,#[]⟩) ::
 (nat_lit 64,⟨.type "tuple",none,.seq #[] 0,#[]⟩) ::
 (nat_lit 66,⟨.type "code",none,.fields #[.str "levelled" 252,.str "levelled" 253,.str "/claim/cut.py" 254,.int 18 0,.int 2 0,.int 0 0,.int 0 0,.int 3 0,.ref 61,.bool true,.int 181 0,.ref 62,.none,.ref 63,.ref 64,.ref 65,.int 259 0,.int 18 0,.str "/claim/cut.py" 260],#[]⟩) ::
 (nat_lit 67,⟨.type "function",none,.func (fnOf "levelled" "levelled" (defArgs (top 8)) (defBody (top 8)) (defScope (top 8)) .none .none .none (.str "borderfloor.grids" 241) none (.ref 66) .none),#[]⟩) ::
 (nat_lit 68,⟨.type "tuple",none,.seq #[] 0,#[]⟩) ::
 (nat_lit 70,⟨.type "tuple",none,.seq #[.str "shifts" 265,.str "east" 266,.str "north" 267,.str "shift" 268,.str "pair" 269] 0,#[]⟩) ::
 (nat_lit 71,⟨.type "tuple",none,.seq #[] 0,#[]⟩) ::
 (nat_lit 73,⟨.type "code",none,.fields #[.str "grid_of" 262,.str "grid_of" 263,.str "/claim/cut.py" 264,.int 25 0,.int 1 0,.int 0 0,.int 0 0,.int 3 0,.ref 68,.bool true,.int 181 0,.ref 69,.none,.ref 70,.ref 71,.ref 72,.int 270 0,.int 25 0,.str "/claim/cut.py" 271],#[]⟩) ::
 (nat_lit 74,⟨.type "function",none,.func (fnOf "grid_of" "grid_of" (defArgs (top 9)) (defBody (top 9)) (defScope (top 9)) .none .none .none (.str "borderfloor.grids" 241) none (.ref 73) .none),#[]⟩) ::
 (nat_lit 75,⟨.type "dict",none,.dict #[en P "e" 275 (.ref 76),en P "n" 278 (.ref 77),en P "w" 281 (.ref 78),en P "s" 285 (.ref 79)] 4,#[]⟩) ::
 (nat_lit 76,⟨.type "tuple",none,.seq #[.int 1 276,.int 0 277] 0,#[]⟩) ::
 (nat_lit 77,⟨.type "tuple",none,.seq #[.int 0 279,.int 1 280] 0,#[]⟩) ::
 (nat_lit 78,⟨.type "tuple",none,.seq #[.int (-1) 283,.int 0 284] 0,#[]⟩) ::
 (nat_lit 79,⟨.type "tuple",none,.seq #[.int 0 286,.int (-1) 288] 0,#[]⟩) ::
 (nat_lit 80,⟨.type "dict",none,.dict #[en P "e" 294 (.str "w" 295),en P "n" 296 (.str "s" 297),en P "w" 298 (.str "e" 299),en P "s" 300 (.str "n" 301)] 4,#[]⟩) ::
 (nat_lit 81,⟨.type "tuple",none,.seq #[] 0,#[]⟩) ::
 (nat_lit 83,⟨.type "tuple",none,.seq #[.str "corner" 310,.str "word" 311,.str "corners" 312,.str "letter" 313] 0,#[]⟩) ::
 (nat_lit 84,⟨.type "tuple",none,.seq #[] 0,#[]⟩) ::
 (nat_lit 86,⟨.type "code",none,.fields #[.str "corners_of" 307,.str "corners_of" 308,.str "/claim/cut.py" 309,.int 42 0,.int 2 0,.int 0 0,.int 0 0,.int 3 0,.ref 81,.bool true,.int 181 0,.ref 82,.none,.ref 83,.ref 84,.ref 85,.int 314 0,.int 42 0,.str "/claim/cut.py" 315],#[]⟩) ::
 (nat_lit 87,⟨.type "function",none,.func (fnOf "corners_of" "corners_of" (defArgs (top 13)) (defBody (top 13)) (defScope (top 13)) .none .none .none (.str "borderfloor.words" 273) none (.ref 86) .none),#[]⟩) ::
 (nat_lit 88,⟨.type "tuple",none,.seq #[] 0,#[]⟩) ::
 (nat_lit 91,⟨.type "code",none,.fields #[.str "backwards" 317,.str "backwards" 318,.str "/claim/cut.py" 319,.int 47 0,.int 1 0,.int 0 0,.int 0 0,.int 3 0,.ref 88,.bool true,.int 181 0,.ref 89,.none,.none,.none,.ref 90,.int 320 0,.int 47 0,.str "/claim/cut.py" 321],#[]⟩) ::
 (nat_lit 92,⟨.type "function",none,.func (fnOf "backwards" "backwards" (defArgs (top 14)) (defBody (top 14)) (defScope (top 14)) .none .none .none (.str "borderfloor.words" 273) none (.ref 91) .none),#[]⟩) ::
 (nat_lit 93,⟨.type "tuple",none,.seq #[] 0,#[]⟩) ::
 (nat_lit 95,⟨.type "tuple",none,.seq #[.str "word" 328,.str "cuts" 329,.str "ends" 330] 0,#[]⟩) ::
 (nat_lit 96,⟨.type "tuple",none,.seq #[] 0,#[]⟩) ::
 (nat_lit 98,⟨.type "code",none,.fields #[.str "spans_of" 325,.str "spans_of" 326,.str "/claim/cut.py" 327,.int 50 0,.int 2 0,.int 0 0,.int 0 0,.int 3 0,.ref 93,.bool true,.int 181 0,.ref 94,.none,.ref 95,.ref 96,.ref 97,.int 331 0,.int 50 0,.str "/claim/cut.py" 332],#[]⟩) ::
 (nat_lit 99,⟨.type "function",none,.func (fnOf "spans_of" "spans_of" (defArgs (top 16)) (defBody (top 16)) (defScope (top 16)) .none .none .none (.str "borderfloor.partings" 323) none (.ref 98) .none),#[]⟩) ::
 (nat_lit 100,⟨.type "tuple",none,.seq #[] 0,#[]⟩) ::
 (nat_lit 102,⟨.type "tuple",none,.seq #[.str "word" 337,.str "cuts" 338,.str "half" 339,.str "twice" 340,.str "span" 341,.str "stretch" 342,.str "fellow" 343] 0,#[]⟩) ::
 (nat_lit 103,⟨.type "tuple",none,.seq #[] 0,#[]⟩) ::
 (nat_lit 105,⟨.type "code",none,.fields #[.str "is_parting" 334,.str "is_parting" 335,.str "/claim/cut.py" 336,.int 53 0,.int 2 0,.int 0 0,.int 0 0,.int 3 0,.ref 100,.bool true,.int 181 0,.ref 101,.none,.ref 102,.ref 103,.ref 104,.int 344 0,.int 53 0,.str "/claim/cut.py" 345],#[]⟩) ::
 (nat_lit 106,⟨.type "function",none,.func (fnOf "is_parting" "is_parting" (defArgs (top 17)) (defBody (top 17)) (defScope (top 17)) .none .none .none (.str "borderfloor.partings" 323) none (.ref 105) .none),#[]⟩) ::
 (nat_lit 107,⟨.type "tuple",none,.seq #[] 0,#[]⟩) ::
 (nat_lit 110,⟨.type "code",none,.fields #[.str "cuts_of_two" 347,.str "cuts_of_two" 348,.str "/claim/cut.py" 349,.int 62 0,.int 1 0,.int 0 0,.int 0 0,.int 3 0,.ref 107,.bool true,.int 181 0,.ref 108,.none,.none,.none,.ref 109,.int 350 0,.int 62 0,.str "/claim/cut.py" 351],#[]⟩) ::
 (nat_lit 111,⟨.type "function",none,.func (fnOf "cuts_of_two" "cuts_of_two" (defArgs (top 18)) (defBody (top 18)) (defScope (top 18)) .none .none .none (.str "borderfloor.partings" 323) none (.ref 110) .none),#[]⟩) ::
 (nat_lit 112,⟨.type "tuple",none,.seq #[] 0,#[]⟩) ::
 (nat_lit 115,⟨.type "code",none,.fields #[.str "cuts_of_three" 353,.str "cuts_of_three" 354,.str "/claim/cut.py" 355,.int 67 0,.int 1 0,.int 0 0,.int 0 0,.int 3 0,.ref 112,.bool true,.int 181 0,.ref 113,.none,.none,.none,.ref 114,.int 356 0,.int 67 0,.str "/claim/cut.py" 357],#[]⟩) ::
 (nat_lit 116,⟨.type "function",none,.func (fnOf "cuts_of_three" "cuts_of_three" (defArgs (top 19)) (defBody (top 19)) (defScope (top 19)) .none .none .none (.str "borderfloor.partings" 323) none (.ref 115) .none),#[]⟩) ::
 (nat_lit 117,⟨.type "tuple",none,.seq #[] 0,#[]⟩) ::
 (nat_lit 120,⟨.type "code",none,.fields #[.str "partings_of" 359,.str "partings_of" 360,.str "/claim/cut.py" 361,.int 72 0,.int 1 0,.int 0 0,.int 0 0,.int 3 0,.ref 117,.bool true,.int 181 0,.ref 118,.none,.none,.none,.ref 119,.int 362 0,.int 72 0,.str "/claim/cut.py" 363],#[]⟩) ::
 (nat_lit 121,⟨.type "function",none,.func (fnOf "partings_of" "partings_of" (defArgs (top 20)) (defBody (top 20)) (defScope (top 20)) .none .none .none (.str "borderfloor.partings" 323) none (.ref 120) .none),#[]⟩) ::
 (nat_lit 122,⟨.type "tuple",none,.seq #[] 0,#[]⟩) ::
 (nat_lit 124,⟨.type "tuple",none,.seq #[.str "word" 368,.str "cuts" 369,.str "corners" 370,.str "half" 371,.str "shifts" 372,.str "span" 373,.str "fellow_end" 374] 0,#[]⟩) ::
 (nat_lit 125,⟨.type "tuple",none,.seq #[] 0,#[]⟩) ::
 (nat_lit 127,⟨.type "code",none,.fields #[.str "shifts_by" 365,.str "shifts_by" 366,.str "/claim/cut.py" 367,.int 77 0,.int 2 0,.int 0 0,.int 0 0,.int 3 0,.ref 122,.bool true,.int 181 0,.ref 123,.none,.ref 124,.ref 125,.ref 126,.int 375 0,.int 77 0,.str "/claim/cut.py" 376],#[]⟩) ::
 (nat_lit 128,⟨.type "function",none,.func (fnOf "shifts_by" "shifts_by" (defArgs (top 21)) (defBody (top 21)) (defScope (top 21)) .none .none .none (.str "borderfloor.partings" 323) none (.ref 127) .none),#[]⟩) ::
 (nat_lit 129,⟨.type "tuple",none,.seq #[] 0,#[]⟩) ::
 (nat_lit 131,⟨.type "tuple",none,.seq #[.str "word" 381,.str "cuts" 382] 0,#[]⟩) ::
 (nat_lit 132,⟨.type "tuple",none,.seq #[] 0,#[]⟩) ::
 (nat_lit 134,⟨.type "code",none,.fields #[.str "grid_by" 378,.str "grid_by" 379,.str "/claim/cut.py" 380,.int 85 0,.int 2 0,.int 0 0,.int 0 0,.int 3 0,.ref 129,.bool true,.int 181 0,.ref 130,.none,.ref 131,.ref 132,.ref 133,.int 383 0,.int 85 0,.str "/claim/cut.py" 384],#[]⟩) ::
 (nat_lit 135,⟨.type "function",none,.func (fnOf "grid_by" "grid_by" (defArgs (top 22)) (defBody (top 22)) (defScope (top 22)) .none .none .none (.str "borderfloor.partings" 323) none (.ref 134) .none),#[]⟩) ::
 (nat_lit 136,⟨.type "tuple",none,.seq #[] 0,#[]⟩) ::
 (nat_lit 138,⟨.type "tuple",none,.seq #[.str "_law_script" 391,.str "_law_k" 392] 0,#[]⟩) ::
 (nat_lit 139,⟨.type "tuple",none,.seq #[] 0,#[]⟩) ::
 (nat_lit 141,⟨.type "code",none,.fields #[.str "_law_cell_at" 388,.str "_law_cell_at" 389,.str "/claim/cut.py" 390,.int 88 0,.int 2 0,.int 0 0,.int 0 0,.int 3 0,.ref 136,.bool true,.int 181 0,.ref 137,.none,.ref 138,.ref 139,.ref 140,.int 393 0,.int 88 0,.str "/claim/cut.py" 394],#[]⟩) ::
 (nat_lit 142,⟨.type "function",none,.func (fnOf "_law_cell_at" "_law_cell_at" (defArgs (top 24)) (defBody (top 24)) (defScope (top 24)) .none .none .none (.str "law_borderfloor_k44_whole_built_partings" 386) none (.ref 141) .none),#[]⟩) ::
 (nat_lit 143,⟨.type "tuple",none,.seq #[] 0,#[]⟩) ::
 (nat_lit 145,⟨.type "tuple",none,.seq #[.str "_law_letter" 399] 0,#[]⟩) ::
 (nat_lit 146,⟨.type "tuple",none,.seq #[] 0,#[]⟩) ::
 (nat_lit 148,⟨.type "code",none,.fields #[.str "_law_step" 396,.str "_law_step" 397,.str "/claim/cut.py" 398,.int 94 0,.int 1 0,.int 0 0,.int 0 0,.int 3 0,.ref 143,.bool true,.int 181 0,.ref 144,.none,.ref 145,.ref 146,.ref 147,.int 400 0,.int 94 0,.str "/claim/cut.py" 401],#[]⟩) ::
 (nat_lit 149,⟨.type "function",none,.func (fnOf "_law_step" "_law_step" (defArgs (top 25)) (defBody (top 25)) (defScope (top 25)) .none .none .none (.str "law_borderfloor_k44_whole_built_partings" 386) none (.ref 148) .none),#[]⟩) ::
 (nat_lit 150,⟨.type "tuple",none,.seq #[] 0,#[]⟩) ::
 (nat_lit 152,⟨.type "tuple",none,.seq #[.str "_law_found" 406] 0,#[]⟩) ::
 (nat_lit 153,⟨.type "tuple",none,.seq #[] 0,#[]⟩) ::
 (nat_lit 155,⟨.type "code",none,.fields #[.str "_law_whole" 403,.str "_law_whole" 404,.str "/claim/cut.py" 405,.int 96 0,.int 1 0,.int 0 0,.int 0 0,.int 3 0,.ref 150,.bool true,.int 181 0,.ref 151,.none,.ref 152,.ref 153,.ref 154,.int 407 0,.int 96 0,.str "/claim/cut.py" 408],#[]⟩) ::
 (nat_lit 156,⟨.type "function",none,.func (fnOf "_law_whole" "_law_whole" (defArgs (top 26)) (defBody (top 26)) (defScope (top 26)) .none .none .none (.str "law_borderfloor_k44_whole_built_partings" 386) none (.ref 155) .none),#[]⟩) ::
 (nat_lit 164,⟨.type "tuple",none,.seq #[] 0,#[]⟩) ::
 (nat_lit 166,⟨.type "tuple",none,.seq #[.str "_law_corner" 421,.str "_law_word" 422,.str "_law_path_here" 423,.str "_law_letter" 424,.str "_law_step_here" 425] 0,#[]⟩) ::
 (nat_lit 167,⟨.type "tuple",none,.seq #[] 0,#[]⟩) ::
 (nat_lit 169,⟨.type "code",none,.fields #[.str "_law_path" 418,.str "_law_path" 419,.str "/claim/cut.py" 420,.int 102 0,.int 2 0,.int 0 0,.int 0 0,.int 3 0,.ref 164,.bool true,.int 181 0,.ref 165,.none,.ref 166,.ref 167,.ref 168,.int 426 0,.int 102 0,.str "/claim/cut.py" 427],#[]⟩) ::
 (nat_lit 170,⟨.type "function",none,.func (fnOf "_law_path" "_law_path" (defArgs (top 28)) (defBody (top 28)) (defScope (top 28)) .none .none .none (.str "law_borderfloor_k44_whole_built_partings" 386) none (.ref 169) .none),#[]⟩) ::
 (nat_lit 171,⟨.type "tuple",none,.seq #[] 0,#[]⟩) ::
 (nat_lit 173,⟨.type "tuple",none,.seq #[.str "_law_word" 432,.str "_law_made" 433,.str "_law_letter" 434] 0,#[]⟩) ::
 (nat_lit 174,⟨.type "tuple",none,.seq #[] 0,#[]⟩) ::
 (nat_lit 176,⟨.type "code",none,.fields #[.str "_law_back" 429,.str "_law_back" 430,.str "/claim/cut.py" 431,.int 108 0,.int 1 0,.int 0 0,.int 0 0,.int 3 0,.ref 171,.bool true,.int 181 0,.ref 172,.none,.ref 173,.ref 174,.ref 175,.int 435 0,.int 108 0,.str "/claim/cut.py" 436],#[]⟩) ::
 (nat_lit 177,⟨.type "function",none,.func (fnOf "_law_back" "_law_back" (defArgs (top 29)) (defBody (top 29)) (defScope (top 29)) .none .none .none (.str "law_borderfloor_k44_whole_built_partings" 386) none (.ref 176) .none),#[]⟩) ::
 (nat_lit 178,⟨.type "tuple",none,.seq #[] 0,#[]⟩) ::
 (nat_lit 180,⟨.type "tuple",none,.seq #[.str "_law_script" 441,.str "_law_at" 442,.str "_law_size" 443,.str "_law_menu" 444,.str "_law_word" 445,.str "_law_k" 446,.str "_law_letter" 447] 0,#[]⟩) ::
 (nat_lit 181,⟨.type "tuple",none,.seq #[] 0,#[]⟩) ::
 (nat_lit 183,⟨.type "code",none,.fields #[.str "_law_letters" 438,.str "_law_letters" 439,.str "/claim/cut.py" 440,.int 113 0,.int 4 0,.int 0 0,.int 0 0,.int 3 0,.ref 178,.bool true,.int 181 0,.ref 179,.none,.ref 180,.ref 181,.ref 182,.int 448 0,.int 113 0,.str "/claim/cut.py" 449],#[]⟩) ::
 (nat_lit 184,⟨.type "function",none,.func (fnOf "_law_letters" "_law_letters" (defArgs (top 30)) (defBody (top 30)) (defScope (top 30)) .none .none .none (.str "law_borderfloor_k44_whole_built_partings" 386) none (.ref 183) .none),#[]⟩) ::
 (nat_lit 185,⟨.type "tuple",none,.seq #[] 0,#[]⟩) ::
 (nat_lit 188,⟨.type "code",none,.fields #[.str "_law_stretches" 451,.str "_law_stretches" 452,.str "/claim/cut.py" 453,.int 121 0,.int 2 0,.int 0 0,.int 0 0,.int 3 0,.ref 185,.bool true,.int 181 0,.ref 186,.none,.none,.none,.ref 187,.int 454 0,.int 121 0,.str "/claim/cut.py" 455],#[]⟩) ::
 (nat_lit 189,⟨.type "function",none,.func (fnOf "_law_stretches" "_law_stretches" (defArgs (top 31)) (defBody (top 31)) (defScope (top 31)) .none .none .none (.str "law_borderfloor_k44_whole_built_partings" 386) none (.ref 188) .none),#[]⟩) ::
 (nat_lit 190,⟨.type "tuple",none,.seq #[] 0,#[]⟩) ::
 (nat_lit 193,⟨.type "code",none,.fields #[.str "_law_free" 457,.str "_law_free" 458,.str "/claim/cut.py" 459,.int 127 0,.int 2 0,.int 0 0,.int 0 0,.int 3 0,.ref 190,.bool true,.int 181 0,.ref 191,.none,.none,.none,.ref 192,.int 460 0,.int 127 0,.str "/claim/cut.py" 461],#[]⟩) ::
 (nat_lit 194,⟨.type "function",none,.func (fnOf "_law_free" "_law_free" (defArgs (top 32)) (defBody (top 32)) (defScope (top 32)) .none .none .none (.str "law_borderfloor_k44_whole_built_partings" 386) none (.ref 193) .none),#[]⟩) ::
 (nat_lit 195,⟨.type "tuple",none,.seq #[] 0,#[]⟩) ::
 (nat_lit 198,⟨.type "code",none,.fields #[.str "_law_built" 463,.str "_law_built" 464,.str "/claim/cut.py" 465,.int 133 0,.int 2 0,.int 0 0,.int 0 0,.int 3 0,.ref 195,.bool true,.int 181 0,.ref 196,.none,.none,.none,.ref 197,.int 466 0,.int 133 0,.str "/claim/cut.py" 467],#[]⟩) ::
 (nat_lit 199,⟨.type "function",none,.func (fnOf "_law_built" "_law_built" (defArgs (top 33)) (defBody (top 33)) (defScope (top 33)) .none .none .none (.str "law_borderfloor_k44_whole_built_partings" 386) none (.ref 198) .none),#[]⟩) ::
 (nat_lit 200,⟨.type "tuple",none,.seq #[] 0,#[]⟩) ::
 (nat_lit 203,⟨.type "code",none,.fields #[.str "_law_is_grid" 469,.str "_law_is_grid" 470,.str "/claim/cut.py" 471,.int 143 0,.int 2 0,.int 0 0,.int 0 0,.int 3 0,.ref 200,.bool true,.int 181 0,.ref 201,.none,.none,.none,.ref 202,.int 472 0,.int 143 0,.str "/claim/cut.py" 473],#[]⟩) ::
 (nat_lit 204,⟨.type "function",none,.func (fnOf "_law_is_grid" "_law_is_grid" (defArgs (top 34)) (defBody (top 34)) (defScope (top 34)) .none .none .none (.str "law_borderfloor_k44_whole_built_partings" 386) none (.ref 203) .none),#[]⟩) ::
 (nat_lit 205,⟨.type "tuple",none,.seq #[] 0,#[]⟩) ::
 (nat_lit 207,⟨.type "tuple",none,.seq #[.str "_law_grid" 478,.str "_law_cell" 479,.str "_law_j" 480] 0,#[]⟩) ::
 (nat_lit 208,⟨.type "tuple",none,.seq #[] 0,#[]⟩) ::
 (nat_lit 210,⟨.type "code",none,.fields #[.str "_law_rest" 475,.str "_law_rest" 476,.str "/claim/cut.py" 477,.int 147 0,.int 2 0,.int 0 0,.int 0 0,.int 3 0,.ref 205,.bool true,.int 181 0,.ref 206,.none,.ref 207,.ref 208,.ref 209,.int 481 0,.int 147 0,.str "/claim/cut.py" 482],#[]⟩) ::
 (nat_lit 211,⟨.type "function",none,.func (fnOf "_law_rest" "_law_rest" (defArgs (top 35)) (defBody (top 35)) (defScope (top 35)) .none .none .none (.str "law_borderfloor_k44_whole_built_partings" 386) none (.ref 210) .none),#[]⟩) ::
 (nat_lit 212,⟨.type "tuple",none,.seq #[] 0,#[]⟩) ::
 (nat_lit 214,⟨.type "tuple",none,.seq #[.str "_law_word" 487,.str "_law_area_here" 488,.str "_law_letter" 489,.str "_law_corner" 490] 0,#[]⟩) ::
 (nat_lit 215,⟨.type "tuple",none,.seq #[] 0,#[]⟩) ::
 (nat_lit 217,⟨.type "code",none,.fields #[.str "_law_area" 484,.str "_law_area" 485,.str "/claim/cut.py" 486,.int 150 0,.int 1 0,.int 0 0,.int 0 0,.int 3 0,.ref 212,.bool true,.int 181 0,.ref 213,.none,.ref 214,.ref 215,.ref 216,.int 491 0,.int 150 0,.str "/claim/cut.py" 492],#[]⟩) ::
 (nat_lit 218,⟨.type "function",none,.func (fnOf "_law_area" "_law_area" (defArgs (top 36)) (defBody (top 36)) (defScope (top 36)) .none .none .none (.str "law_borderfloor_k44_whole_built_partings" 386) none (.ref 217) .none),#[]⟩) ::
 (nat_lit 219,⟨.type "tuple",none,.seq #[] 0,#[]⟩) ::
 (nat_lit 222,⟨.type "code",none,.fields #[.str "_law_cells" 494,.str "_law_cells" 495,.str "/claim/cut.py" 496,.int 155 0,.int 1 0,.int 0 0,.int 0 0,.int 3 0,.ref 219,.bool true,.int 181 0,.ref 220,.none,.none,.none,.ref 221,.int 497 0,.int 155 0,.str "/claim/cut.py" 498],#[]⟩) ::
 (nat_lit 223,⟨.type "function",none,.func (fnOf "_law_cells" "_law_cells" (defArgs (top 37)) (defBody (top 37)) (defScope (top 37)) .none .none .none (.str "law_borderfloor_k44_whole_built_partings" 386) none (.ref 222) .none),#[]⟩) ::
 (nat_lit 224,⟨.type "tuple",none,.seq #[] 0,#[]⟩) ::
 (nat_lit 226,⟨.type "tuple",none,.seq #[.str "_law_word" 503,.str "_law_cuts" 504,.str "_law_half" 505,.str "_law_path_here" 506,.str "_law_some" 507,.str "_law_k" 508,.str "_law_past" 509,.str "_law_one" 510,.str "_law_other" 511] 0,#[]⟩) ::
 (nat_lit 227,⟨.type "tuple",none,.seq #[] 0,#[]⟩) ::
 (nat_lit 229,⟨.type "code",none,.fields #[.str "_law_shifts" 500,.str "_law_shifts" 501,.str "/claim/cut.py" 502,.int 166 0,.int 2 0,.int 0 0,.int 0 0,.int 3 0,.ref 224,.bool true,.int 181 0,.ref 225,.none,.ref 226,.ref 227,.ref 228,.int 512 0,.int 166 0,.str "/claim/cut.py" 513],#[]⟩) ::
 (nat_lit 230,⟨.type "function",none,.func (fnOf "_law_shifts" "_law_shifts" (defArgs (top 38)) (defBody (top 38)) (defScope (top 38)) .none .none .none (.str "law_borderfloor_k44_whole_built_partings" 386) none (.ref 229) .none),#[]⟩) ::
 (nat_lit 231,⟨.type "tuple",none,.seq #[] 0,#[]⟩) ::
 (nat_lit 234,⟨.type "code",none,.fields #[.str "law" 515,.str "law" 516,.str "/claim/cut.py" 517,.int 178 0,.int 1 0,.int 0 0,.int 0 0,.int 3 0,.ref 231,.bool true,.int 181 0,.ref 232,.none,.none,.none,.ref 233,.int 518 0,.int 178 0,.str "/claim/cut.py" 519],#[]⟩) ::
 (nat_lit 235,⟨.type "function",none,.func (fnOf "law" "law" (defArgs (top 39)) (defBody (top 39)) (defScope (top 39)) .none .none .none (.str "law_borderfloor_k44_whole_built_partings" 386) none (.ref 234) .none),#[]⟩)::[]
def kA:List Addr:=[2,3,15,17,18,20,21,22,24,25,27,28,29,36,37,38,39,42,49,50,51,54,56,57,59,60,61,63,64,66,67,68,70,71,73,74,75,76,77,78,79,80,81,83,84,86,87,88,91,92,93,95,96,98,99,100,102,103,105,106,107,110,111,112,115,116,117,120,121,122,124,125,127,128,129,131,132,134,135,136,138,139,141,142,143,145,146,148,149,150,152,153,155,156,164,166,167,169,170,171,173,174,176,177,178,180,181,183,184,185,188,189,190,193,194,195,198,199,200,203,204,205,207,208,210,211,212,214,215,217,218,219,222,223,224,226,227,229,230,231,234,235]
theorem kE (P:Params):kA = (K0 P).map (·.1):=by kernel_rfl
def vw:Program:={ PySem.Challenge.pw_borderfloor_k44_whole_built_partings with main:={ (PySem.Challenge.pw_borderfloor_k44_whole_built_partings).main with body:=[top 1,top 2,top 4,top 5,top 7,top 8,top 9,top 11,top 12,top 13,top 14,top 16,top 17,top 18,top 19,top 20,top 21,top 22,top 24,top 25,top 26,top 27,top 28,top 29,top 30,top 31,top 32,top 33,top 34,top 35,top 36,top 37,top 38,top 39] } }
def lo:List Str:=["STEPS", "OPPOSITES"]
abbrev xT (s:Shared):Bool:=PySem.W.xlAt vw [] s && PySem.W.recOk (PySem.W.RowW.records (PySem.W.OpenRow.toRowW (PySem.W.OpenLaw.row PySem.Challenge.rw_borderfloor_k44_whole_built_partings))) s
theorem ld1:PySem.W.opening PySem.Challenge.pw_borderfloor_k44_whole_built_partings = PySem.W.plainProg (PySem.Challenge.pw_borderfloor_k44_whole_built_partings).main.scope.names:=by kernel_rfl
theorem ld3 (s:Shared):fenceModules? PySem.Challenge.pw_borderfloor_k44_whole_built_partings s = some s:=by kernel_rfl
theorem ldPf (w:World) (os:OsState):PreP PySem.Challenge.pw_borderfloor_k44_whole_built_partings (w.withFollow "special-get-raises" false) os:=by kernel_rfl
theorem ldPt (w:World) (os:OsState):PreP PySem.Challenge.pw_borderfloor_k44_whole_built_partings (w.withFollow "special-get-raises" true) os:=by kernel_rfl
theorem ldBf (w:World) (os:OsState):BlkP PySem.Challenge.pw_borderfloor_k44_whole_built_partings (w.withFollow "special-get-raises" false) os:=by kernel_rfl
theorem ldBt (w:World) (os:OsState):BlkP PySem.Challenge.pw_borderfloor_k44_whole_built_partings (w.withFollow "special-get-raises" true) os:=by kernel_rfl
theorem ldSf (w:World) (os:OsState):SegP PySem.Challenge.pw_borderfloor_k44_whole_built_partings (w.withFollow "special-get-raises" false) os:=by kernel_rfl
theorem ldSt (w:World) (os:OsState):SegP PySem.Challenge.pw_borderfloor_k44_whole_built_partings (w.withFollow "special-get-raises" true) os:=by kernel_rfl
theorem ldFf (w:World) (os:OsState):FinP PySem.Challenge.pw_borderfloor_k44_whole_built_partings (w.withFollow "special-get-raises" false) os:=by kernel_rfl
theorem ldFt (w:World) (os:OsState):FinP PySem.Challenge.pw_borderfloor_k44_whole_built_partings (w.withFollow "special-get-raises" true) os:=by kernel_rfl
theorem ldAf (w:World) (os:OsState):LkA PySem.Challenge.pw_borderfloor_k44_whole_built_partings (w.withFollow "special-get-raises" false) os:=by kernel_rfl
theorem ldAt (w:World) (os:OsState):LkA PySem.Challenge.pw_borderfloor_k44_whole_built_partings (w.withFollow "special-get-raises" true) os:=by kernel_rfl
theorem ldLf (w:World) (os:OsState):LkB PySem.Challenge.pw_borderfloor_k44_whole_built_partings vw lo xT true (w.withFollow "special-get-raises" false) os:=by kernel_rfl
theorem ldLt (w:World) (os:OsState):LkB PySem.Challenge.pw_borderfloor_k44_whole_built_partings vw lo xT true (w.withFollow "special-get-raises" true) os:=by kernel_rfl
theorem ldCf (w:World) (os:OsState):LkC PySem.Challenge.pw_borderfloor_k44_whole_built_partings (PySem.W.Hook.obs (PySem.W.kHook K0 kA kE)) (PySem.W.Hook.val (PySem.W.kHook K0 kA kE)) (w.withFollow "special-get-raises" false) os:=by kernel_rfl
theorem ldCt (w:World) (os:OsState):LkC PySem.Challenge.pw_borderfloor_k44_whole_built_partings (PySem.W.Hook.obs (PySem.W.kHook K0 kA kE)) (PySem.W.Hook.val (PySem.W.kHook K0 kA kE)) (w.withFollow "special-get-raises" true) os:=by kernel_rfl
theorem ld:PySem.W.LeftO PySem.Challenge.pw_borderfloor_k44_whole_built_partings vw lo xT (PySem.W.Hook.obs (PySem.W.kHook K0 kA kE)) (PySem.W.Hook.val (PySem.W.kHook K0 kA kE)) 20100 :=
 left_rows "special-get-raises" ld1 ld3 (fun b => by cases b; exact ldPf; exact ldPt) (fun b => by cases b; exact ldBf; exact ldBt) (fun b => by cases b; exact ldSf; exact ldSt) (fun b => by cases b; exact ldFf; exact ldFt) (fun b => by cases b; exact ldAf; exact ldAt) (fun b => by cases b; exact ldLf; exact ldLt) (fun b => by cases b; exact ldCf; exact ldCt)
end Law
namespace L2
open PySem PySem.Spec PyProof.Rows
abbrev Key:=Sum Int Str
def keyIs:Key→Value→Bool
 | .inl k,v => Value.isInt k v
 | .inr x,v => Value.isStrOf x v
def keyH (w:World):Key→Int
 | .inl k => hashInt k
 | .inr x => hashStr w x
theorem keyIs_shape:∀ {k:Key} {v:Value},keyIs k v = true→(∃ i t,k = Sum.inl i∧v = Value.int i t)∨(∃ x t,k = Sum.inr x∧v = Value.str x t)
 | .inl i,v,h => by
  obtain ⟨t,e⟩:=Value.isInt_shape (k:=i) (v:=v) h
  exact .inl ⟨i,t,rfl,e⟩
 | .inr x,v,h => by
  obtain ⟨t,e⟩:=Value.isStrOf_shape (x:=x) (v:=v) h
  exact .inr ⟨x,t,rfl,e⟩
theorem keyIs_int (i:Int) (t:Tok):keyIs (.inl i) (.int i t) = true:=by simp [keyIs,Value.isInt]
theorem keyIs_str (x:Str) (t:Tok):keyIs (.inr x) (.str x t) = true:=by simp [keyIs,Value.isStrOf]
theorem key_ll (a b:Int):decide ((Sum.inl a:Key) = Sum.inl b) = (a == b):=by
 by_cases e:a = b
 ·subst e; simp
 ·have h:¬ (Sum.inl a:Key) = Sum.inl b:=fun q => e (Sum.inl.inj q)
  rw [decide_eq_false h]
  exact (beq_eq_false_iff_ne.mpr e).symm
theorem key_rr (a b:Str):decide ((Sum.inr a:Key) = Sum.inr b) = decide (a = b):=by
 by_cases e:a = b
 ·subst e; simp
 ·have h:¬ (Sum.inr a:Key) = Sum.inr b:=fun q => e (Sum.inr.inj q)
  rw [decide_eq_false h,decide_eq_false e]
theorem key_lr (a:Int) (b:Str):decide ((Sum.inl a:Key) = Sum.inr b) = false:=decide_eq_false (fun q => nomatch q)
theorem key_rl (a:Str) (b:Int):decide ((Sum.inr a:Key) = Sum.inl b) = false:=decide_eq_false (fun q => nomatch q)
def mixKind (prog:Program) (w:World):PySem.KeyKind prog w Key where
 is:=keyIs
 hash:=keyH w
 inj:=fun v a b ha hb => by
  rcases keyIs_shape ha with ⟨i,t,rfl,rfl⟩ | ⟨x,t,rfl,rfl⟩
  ·rcases keyIs_shape hb with ⟨j,u,rfl,e⟩ | ⟨y,u,rfl,e⟩
   ·injection e with e1 _; rw [e1]
   ·exact nomatch e
  ·rcases keyIs_shape hb with ⟨j,u,rfl,e⟩ | ⟨y,u,rfl,e⟩
   ·exact nomatch e
   ·injection e with e1 _; rw [e1]
 byValue:=fun k v h => by
  rcases keyIs_shape h with ⟨i,t,rfl,rfl⟩ | ⟨x,t,rfl,rfl⟩ <;> rfl
 pyHash:=fun hv h => by
  rcases keyIs_shape hv with ⟨i,t,rfl,rfl⟩ | ⟨x,t,rfl,rfl⟩
  ·exact wpAny_pyHash_int h
  ·exact wpAny_pyHash_str h
 eqBool:=fun hu hv h => by
  rcases keyIs_shape hu with ⟨i,t,rfl,rfl⟩ | ⟨x,t,rfl,rfl⟩
  ·rcases keyIs_shape hv with ⟨j,u,rfl,rfl⟩ | ⟨y,u,rfl,rfl⟩
   ·rw [key_ll] at h; exact wpAny_eqBool_int h
   ·rw [key_lr] at h; exact SeqAt.EqAt.int_str i t y u _ _ _ _ h
  ·rcases keyIs_shape hv with ⟨j,u,rfl,rfl⟩ | ⟨y,u,rfl,rfl⟩
   ·rw [key_rl] at h; exact SeqAt.EqAt.str_int x t j u _ _ _ _ h
   ·rw [key_rr] at h; exact wpAny_eqBool_str h
 «strs»:=fun k x t v h => by
  rcases keyIs_shape h with ⟨i,u,rfl,e⟩ | ⟨y,u,rfl,e⟩
  ·exact nomatch e
  ·injection e with e1 _
   subst e1
   cases v <;> rfl
theorem mixKind_int (prog:Program) (w:World) (i:Int) (t:Tok):(mixKind prog w).is (.inl i) (.int i t) = true:=keyIs_int i t
theorem mixKind_str (prog:Program) (w:World) (x:Str) (t:Tok):(mixKind prog w).is (.inr x) (.str x t) = true:=keyIs_str x t
inductive V where
 | non | bl (b:Bool) | int (i:Int) | str (x:Str) | byt (b:Array UInt8) | flt (b:UInt64) | ref (a:Addr) | ty (n:String)
 deriving DecidableEq
def RelV:V→Value→Prop
 | .non,u => u = Value.none
 | .bl b,u => u = Value.bool b
 | .int i,u => ∃ t,u = Value.int i t
 | .str x,u => ∃ t,u = Value.str x t
 | .byt b,u => ∃ t,u = Value.bytes b t
 | .flt b,u => ∃ t,u = Value.float b t
 | .ref a,u => u = Value.ref a
 | .ty n,u => u = Value.type n
abbrev Vals:List V→List Value→Prop:=Paired RelV
theorem Vals.length {xs:List V} {us:List Value} (r:Vals xs us):xs.length = us.length:=Paired.length r
theorem Vals.get:∀ {xs:List V} {us:List Value} {i:Nat} {x:V},Vals xs us→xs[i]? = some x→∃ u,us[i]? = some u∧RelV x u
 | _,_,_,_,.nil,e => by simp at e
 | _,_,0,_,.cons r _,e => by simp at e; subst e; exact ⟨_,rfl,r⟩
 | _,_,i + 1,x,.cons _ t,e => by
  obtain ⟨u,h1,h2⟩:=Vals.get (i:=i) (x:=x) t (by simpa using e)
  exact ⟨u,by simpa using h1,h2⟩
theorem Vals.append:∀ {xs ys:List V} {us ws:List Value},Vals xs us→Vals ys ws→Vals (xs++ys) (us++ws)
 | _,_,_,_,.nil,s => s
 | _,_,_,_,.cons r t,s => .cons r (Vals.append t s)
theorem Vals.take:∀ {xs:List V} {us:List Value} (n:Nat),Vals xs us→Vals (xs.take n) (us.take n)
 | _,_,0,_ => .nil
 | _,_,_ + 1,.nil => .nil
 | _,_,n + 1,.cons r t => .cons r (Vals.take n t)
theorem Vals.drop:∀ {xs:List V} {us:List Value} (n:Nat),Vals xs us→Vals (xs.drop n) (us.drop n)
 | _,_,0,r => r
 | _,_,_ + 1,.nil => .nil
 | _,_,n + 1,.cons _ t => Vals.drop n t
def RelO:Option V→Option Value→Prop
 | some v,some u => RelV v u
 | none,none => True
 | _,_ => False
def KV {κ:Type}:List (κ×V)→List (κ×Value)→Prop:=Paired fun (p:κ×V) (q:κ×Value) => p.1 = q.1∧RelV p.2 q.2
def kV:Key→V
 | .inl i => .int i
 | .inr x => .str x
inductive HO where
 | lst (xs:List V)
 | tup (xs:List V)
 | dK (kvs:List (Key×V)) | dT (kvs:List (List Key×V))
 | set (S:Int→Bool) (n:Nat)
 | ins (C dx:Addr) (fs:List (Str×V))
 | own (x:Addr)
 | xd (fs:List (Str×V))
 | met (f x:Addr)
 | rng (lo hi:Int)
 | frz (o:Obj) (u:HO)
 | tbl (ps:Array Value)
 | ext (φ:Heap→Prop)
abbrev Hp:=Addr→Option HO
def upd (H:Hp) (a:Addr) (o:HO):Hp:=fun b => if b = a then some o else H b
theorem upd_same {H:Hp} {a:Addr} {o:HO}:upd H a o a = some o:=by unfold upd; rw [if_pos rfl]
theorem upd_ne {H:Hp} {a b:Addr} {o:HO} (h:b≠a):upd H a o b = H b:=by unfold upd; rw [if_neg h]
theorem ne_of {H:Hp} {a b:Addr} {o u:HO} (h:H a = some o) (h':H b = some u) (d:o≠u):a≠b:=by
 intro e; subst e; rw [h] at h'; exact d (Option.some.inj h')
theorem ne_of_none {H:Hp} {a b:Addr} {o:HO} (h:H a = some o) (h':H b = none):a≠b:=by
 intro e; subst e; rw [h] at h'; cases h'
def TupD (h:Heap) (a:Addr) (items:Array Value):Prop:=∃ o,h.get? a = some o∧o.cls = .type "tuple"∧∃ n,o.data = .seq items n∧o.dict = none
theorem TupD.tup {h:Heap} {a:Addr} {items:Array Value} (x:TupD h a items):IsTup h a items:=by
 obtain ⟨o,e,c,n,d,_⟩:=x
 exact ⟨o,e,c,n,d⟩
theorem TupD.lt {h:Heap} {a:Addr} {items:Array Value} (x:TupD h a items):a < h.objs.size:=x.tup.lt
theorem TupD.new (h:Heap) (items:Array Value):TupD (h.push { cls:=.type "tuple",data:=.seq items }) h.objs.size items:=⟨_,Heap.get?_push_size _ rfl,rfl,_,rfl,rfl⟩
section
variable (P:Program) (w:World)
def ObjOk (H:Hp) (h:Heap) (a:Addr):HO→Prop
 | .lst xs => xs.length≤sizeLine∧∃ (its:List Value) (n:Nat),Vals xs its∧h.get? a = some { cls:=.type "list",data:=.seq its.toArray n }
 | .tup xs => xs.length≤sizeLine∧∃ its:List Value,Vals xs its∧TupD h a its.toArray
 | .dK kvs => kvs.length≤sizeLine∧(a == sysModules) = false∧∃ vs,KV kvs vs∧h.DictOf (mixKind P w) a vs
 | .dT kvs => kvs.length≤sizeLine∧(a == sysModules) = false∧∃ xs:List (List Key×Addr×Value),
   Paired (fun (p:List Key×V) (q:List Key×Addr×Value) => p.1 = q.1∧H q.2.1 = some (.tup (p.1.map kV))∧RelV p.2 q.2.2) kvs xs ∧
   ∃ o es ep,h.get? a = some o∧o.ExactDict∧o.data = .dict es ep∧es.toList = xs.map (entryOfKey (tupleKind (mixKind P w)))∧(xs.map (·.1)).Nodup
 | .set S n => h.SetOf (intKind P w) a S n
 | .ins C dx fs => H dx = some (.own a)∧fs.length≤1000∧dx≠a∧h.get? a = some (PySem.W.instObj C dx) ∧
   ∃ mA,h.Ns1 dx mA∧(∀ f,RelO (fs.lookup f) (mA f))∧PySem.Within mA (fs.map (·.1))
 | .own _ => ∃ o,h.get? a = some o
 | .xd fs => ∃ mA,h.Ns1 a mA∧∀ f,RelO (fs.lookup f) (mA f)
 | .rng lo hi => ∃ t u v,h.get? a = some { cls:=.type "range",data:=.fields #[.int lo t,.int hi u,.int 1 v] }
 | .frz o u => h.get? a = some o∧ObjOk H h a u
 | .tbl ps => h.get? a = some { cls:=.none,data:=.fields ps }
 | .met f x => h.get? a = some (PySem.W.methodObj (.ref f) (.ref x))
 | .ext φ => φ h∧(∃ o,h.get? a = some o)∧∀ h1 h2:Heap,φ h1→(∀ o,h1.get? a = some o→h2.get? a = some o)→φ h2
def HOk (H:Hp) (h:Heap):Prop:=∀ a o,H a = some o→ObjOk P w H h a o
end
section
variable {P:Program} {w:World} {H H':Hp} {h h':Heap} {a:Addr} {o:HO}
theorem ObjOk.lt (x:ObjOk P w H h a o):a < h.objs.size:=by
 cases o with
 | lst xs => obtain ⟨_,_,_,_,e⟩:=x; exact Heap.lt_size e
 | tup xs => obtain ⟨_,_,_,p⟩:=x; exact p.lt
 | dK kvs => obtain ⟨_,_,_,_,o,_,_,e,_⟩:=x; exact Heap.lt_size e
 | dT kvs => obtain ⟨_,_,_,_,o,_,_,e,_⟩:=x; exact Heap.lt_size e
 | set S n => obtain ⟨o,_,_,_,e,_⟩:=x; exact Heap.lt_size e
 | ins C dx fs => obtain ⟨_,_,_,e,_⟩:=x; exact Heap.lt_size e
 | own y => obtain ⟨_,e⟩:=x; exact Heap.lt_size e
 | xd fs => obtain ⟨_,⟨_,_,_,e,_⟩,_⟩:=x; exact Heap.lt_size e
 | rng lo hi => obtain ⟨_,_,_,e⟩:=x; exact Heap.lt_size e
 | frz ob u => obtain ⟨e,_⟩:=x; exact Heap.lt_size e
 | tbl ps => exact Heap.lt_size (show h.get? a = some _ from x)
 | met f y => exact Heap.lt_size (show h.get? a = some _ from x)
 | ext φ => obtain ⟨_,⟨_,e⟩,_⟩:=x; exact Heap.lt_size e
theorem Paired.mapP {α β:Type} {F G:α→β→Prop}:∀ {l₁:List α} {l₂:List β},Paired F l₁ l₂→(∀ a b,F a b→G a b)→Paired G l₁ l₂
 | _,_,.nil,_ => .nil
 | _,_,.cons r t,f => .cons (f _ _ r) (Paired.mapP t f)
theorem ObjOk.stay (x:ObjOk P w H h a o) (k:∀ b u,(b = a∨H b = some (.own a))→h.get? b = some u→h'.get? b = some u)
  (ho:∀ b,H b = some (.own a)→H' b = some (.own a)) (ht:∀ b xs,H b = some (.tup xs)→H' b = some (.tup xs)):ObjOk P w H' h' a o:=by
 induction o with
 | lst xs => obtain ⟨z,its,n,r,e⟩:=x; exact ⟨z,its,n,r,k _ _ (.inl rfl) e⟩
 | tup xs => obtain ⟨z,its,r,ob,e,c⟩:=x; exact ⟨z,its,r,ob,k _ _ (.inl rfl) e,c⟩
 | dK kvs => obtain ⟨z,y,vs,r,ob,es,ep,e,c⟩:=x; exact ⟨z,y,vs,r,ob,es,ep,k _ _ (.inl rfl) e,c⟩
 | dT kvs =>
  obtain ⟨z,y,xs,r,ob,es,ep,e,c⟩:=x
  exact ⟨z,y,xs,Paired.mapP r fun p q z => ⟨z.1,ht _ _ z.2.1,z.2.2⟩,ob,es,ep,k _ _ (.inl rfl) e,c⟩
 | set S n => obtain ⟨ob,es,ep,t,e,c⟩:=x; exact ⟨ob,es,ep,t,k _ _ (.inl rfl) e,c⟩
 | ins C dx fs =>
  obtain ⟨d,z,ne,e,mA,⟨od,es,ep,e2,c⟩,r⟩:=x
  exact ⟨ho _ d,z,ne,k _ _ (.inl rfl) e,mA,⟨od,es,ep,k _ _ (.inr d) e2,c⟩,r⟩
 | own y => obtain ⟨ob,e⟩:=x; exact ⟨ob,k _ _ (.inl rfl) e⟩
 | xd fs => obtain ⟨mA,⟨od,es,ep,e,c⟩,r⟩:=x; exact ⟨mA,⟨od,es,ep,k _ _ (.inl rfl) e,c⟩,r⟩
 | rng lo hi => obtain ⟨t,u,v,e⟩:=x; exact ⟨t,u,v,k _ _ (.inl rfl) e⟩
 | frz ob u ih => obtain ⟨e,q⟩:=x; exact ⟨k _ _ (.inl rfl) e,ih q⟩
 | tbl ps =>
  have e:h.get? a = some { cls:=.none,data:=.fields ps }:=x
  show h'.get? a = some { cls:=.none,data:=.fields ps }
  exact k a _ (.inl rfl) e
 | met f y =>
  have e:h.get? a = some (PySem.W.methodObj (.ref f) (.ref y)):=x
  show h'.get? a = some (PySem.W.methodObj (.ref f) (.ref y))
  exact k a _ (.inl rfl) e
 | ext φ => obtain ⟨p,⟨o,e⟩,st⟩:=x; exact ⟨st _ _ p fun o q => k _ _ (.inl rfl) q,⟨o,k _ _ (.inl rfl) e⟩,st⟩
theorem HOk.lt (x:HOk P w H h) (e:H a = some o):a < h.objs.size:=(x a o e).lt
theorem HOk.fresh (x:HOk P w H h) (e:h.objs.size≤a):H a = none:=by
 cases q:H a with
 | none => rfl
 | some u => exact absurd (Nat.lt_of_lt_of_le (x.lt q) e) (Nat.lt_irrefl _)
theorem HOk.kept (x:HOk P w H h) (k:∀ b u,h.get? b = some u→h'.get? b = some u):HOk P w H h':=fun a o e =>
 (x a o e).stay (fun b u _ q => k b u q) (fun _ q => q) fun _ _ q => q
theorem HOk.laid (x:HOk P w H h) (k:∀ b u,h.get? b = some u→h'.get? b = some u) (hp:h.objs.size≤a) (new:ObjOk P w (upd H a o) h' a o):HOk P w (upd H a o) h':=fun b u e => by
 have hn:=x.fresh hp
 by_cases hb:b = a
 ·subst hb; rw [upd_same] at e; cases e; exact new
 ·rw [upd_ne hb] at e
  exact (x b u e).stay (fun c v _ q => k c v q) (fun c q => by rw [upd_ne (ne_of_none q hn)]; exact q) fun c xs q => by rw [upd_ne (ne_of_none q hn)]; exact q
end
def Rd (H:Hp) (a:Addr) (u:HO):Prop:=H a = some u∨∃ o,H a = some (.frz o u)
theorem Rd.ok {P:Program} {w:World} {H:Hp} {h:Heap} {a:Addr} {u:HO} (r:Rd H a u) (x:HOk P w H h):ObjOk P w H h a u:=by
 rcases r with r | ⟨o,r⟩
 ·exact x a u r
 ·obtain ⟨_,q⟩:=x a _ r
  exact q
def Mut:Option HO→Prop
 | some (.lst _) => True
 | some (.dK _) => True
 | some (.dT _) => True
 | some (.set _ _) => True
 | some (.ins _ _ _) => True
 | some (.ext _) => True
 | _ => False
section
variable {P:Program} {w:World} {H:Hp} {h h':Heap} {x e:Addr} {o':HO}
theorem HOk.write (ok:HOk P w H h) (mu:Mut (H x)) (he:e = x∨H e = some (.own x)) (k:∀ b u,b≠e→h.get? b = some u→h'.get? b = some u) (heo:∃ u,h'.get? e = some u)
  (new:ObjOk P w (upd H x o') h' x o'):HOk P w (upd H x o') h':=fun b u q => by
 have nown:∀ c y,H c = some (.own y)→c≠x:=fun c y r z => by subst z; rw [r] at mu; exact mu
 have ntup:∀ c xs,H c = some (.tup xs)→c≠x:=fun c xs r z => by subst z; rw [r] at mu; exact mu
 by_cases hb:b = x
 ·subst hb; rw [upd_same] at q; cases q; exact new
 ·rw [upd_ne hb] at q
  by_cases hbe:b = e
  ·have q':H b = some (.own x):=by
    rcases he with z | z
    ·exact absurd (hbe.trans z) hb
    ·rw [hbe]; exact z
   rw [q] at q'; cases q'
   obtain ⟨v,hv⟩:=heo
   exact ⟨v,by rw [hbe]; exact hv⟩
  ·refine (ok b u q).stay (fun c v hc r => k c v ?_ r) (fun c r => by rw [upd_ne (nown c b r)]; exact r) fun c xs r => by rw [upd_ne (ntup c xs r)]; exact r
   rcases hc with rfl | hc
   ·exact hbe
   ·rintro rfl
    rcases he with z | z
    ·exact nown c b hc z
    ·rw [hc] at z; cases z; exact hb rfl
end
structure Un (fs ex:List Addr) (H H':Hp) (h h':Heap):Prop where
 keep:∀ b o,h.get? b = some o→H b = none→b∉fs→b∉ex→h'.get? b = some o
 slot:∀ b o,h.get? b = some o→H b = none→b∈fs→b∉ex→∃ sl,h'.get? b = some { o with slots:=sl }
 free:∀ b o,h.get? b = some o→H b = none→b∉ex→H' b = none
 there:∀ b o,h.get? b = some o→b∉ex→∃ o',h'.get? b = some o'
 tups:∀ b xs,H b = some (.tup xs)→H' b = some (.tup xs)
 frzs:∀ b o u,H b = some (.frz o u)→H' b = some (.frz o u)
 tbls:∀ b ps,H b = some (.tbl ps)→∃ more,H' b = some (.tbl (ps++more))
section
variable {fs fs' ex ex':List Addr} {H H1 H2:Hp} {h h1 h2 h':Heap} {a x e:Addr} {o:HO}
theorem Un.any (u:Un fs ex H H1 h h1) {b:Addr} {ob:Obj} (q:h.get? b = some ob) (n:H b = none) (hx:b∉ex):∃ sl,h1.get? b = some { ob with slots:=sl }:=by
 by_cases hb:b∈fs
 ·exact u.slot b ob q n hb hx
 ·exact ⟨ob.slots,u.keep b ob q n hb hx⟩
theorem Un.kept (k:∀ b u,h.get? b = some u→h'.get? b = some u):Un fs ex H H h h' :=
 ⟨fun b ob q _ _ _ => k b ob q,fun b ob q _ _ _ => ⟨ob.slots,k b ob q⟩,fun _ _ _ n _ => n,fun b ob q _ => ⟨ob,k b ob q⟩,fun _ _ q => q,fun _ _ _ q => q,fun _ ps q => ⟨#[],by rw [q]; simp⟩⟩
theorem Un.refl:Un fs ex H H h h:=Un.kept fun _ _ q => q
theorem Un.laid (k:∀ b u,h.get? b = some u→h'.get? b = some u) (hp:h.objs.size≤a) (hn:H a = none):Un fs ex H (upd H a o) h h' where
 keep:=fun b u q _ _ _ => k b u q
 slot:=fun b u q _ _ _ => ⟨u.slots,k b u q⟩
 free:=fun b u q n _ => by rw [upd_ne (Nat.ne_of_lt (Nat.lt_of_lt_of_le (Heap.lt_size q) hp))]; exact n
 there:=fun b u q _ => ⟨u,k b u q⟩
 tups:=fun b xs q => by rw [upd_ne (ne_of_none q hn)]; exact q
 frzs:=fun b u xs q => by rw [upd_ne (ne_of_none q hn)]; exact q
 tbls:=fun b ps q => ⟨#[],by rw [upd_ne (ne_of_none q hn),q]; simp⟩
theorem Un.write (mu:Mut (H x)) (he:e = x∨H e = some (.own x)) (k:∀ b u,b≠e→h.get? b = some u→h'.get? b = some u) (heo:∃ u,h'.get? e = some u):Un fs ex H (upd H x o) h h':=by
 have hx:∀ b,H b = none→b≠x:=fun b n z => by subst z; rw [n] at mu; exact mu
 have hb:∀ b,H b = none→b≠e:=fun b n z => by
  subst z
  rcases he with r | r
  ·exact hx b n r
  ·rw [n] at r; cases r
 have hm:∀ b u,H b = some u→¬ Mut (some u)→b≠x:=fun b u q nm z => by subst z; rw [q] at mu; exact nm mu
 refine ⟨fun b u q n _ _ => k b u (hb b n) q,fun b u q n _ _ => ⟨u.slots,k b u (hb b n) q⟩,fun b u q n _ => by rw [upd_ne (hx b n)]; exact n,fun b u q _ => ?_,
  fun b xs q => by rw [upd_ne (hm b _ q fun z => z)]; exact q,fun b u xs q => by rw [upd_ne (hm b _ q fun z => z)]; exact q,fun b ps q => ⟨#[],by rw [upd_ne (hm b _ q fun z => z),q]; simp⟩⟩
 by_cases hbe:b = e
 ·subst hbe; exact heo
 ·exact ⟨u,k b u hbe q⟩
end
def trk (h:Heap) (H:Hp):List Addr:=(List.range h.objs.size).filter fun a => (H a).isSome
def hidT (h:Heap) (H:Hp):Heap:=PySem.W.hideAll h (trk h H)
theorem hidT_size (h:Heap) (H:Hp):(hidT h H).objs.size = h.objs.size:=PySem.W.hideAll_size _ _
theorem hidT_get {h:Heap} {H:Hp} {b:Addr} {o:Obj} (e:h.get? b = some o) (n:H b = none):(hidT h H).get? b = some o :=
 PySem.W.hideAll_get _ e fun hm => by
  have q:(H b).isSome = true:=(List.mem_filter.mp hm).2
  rw [n] at q; simp at q
theorem of_hidT {h:Heap} {H:Hp} {b:Addr} {o:Obj} (e:(hidT h H).get? b = some o):h.get? b = some o∧H b = none:=by
 have e':h.get? b = some o:=PySem.W.of_hideAll (trk h H) e
 refine ⟨e',?_⟩
 cases q:H b with
 | none => rfl
 | some x =>
  have hm:b∈trk h H:=List.mem_filter.mpr ⟨List.mem_range.mpr (Heap.lt_size e'),by simp [q]⟩
  have z:(hidT h H).get? b = none:=PySem.W.hideAll_none (trk h H) hm
  rw [z] at e; cases e
def allNews (g h:Heap) (L:Addr):List (Addr×Obj):=(List.range h.objs.size).filterMap fun a => if a = L∨(g.get? a).isSome = true then none else (h.get? a).map fun o => (a,o)
def rest (g h:Heap) (L d:Addr):List (Addr×Obj):=(allNews g h L).filter fun p => decide (p.1≠d)
structure Mod (K:PySem.W.Frag) (mg:Str→Option Value) (base:Heap):Prop where
 kin:K.In base
 glob:base.Ns mainGlobals mg
 blt:∃ mb,base.Ns builtinsNs mb∧∀ x:Str,x ≠ "__name__"→mb x = bootBuiltins x
 nolimit:base.NoLimit
structure Cx where
 prog:Program
 w:World
 K:PySem.W.Frag
 mg:Str→Option Value
 base:Heap
 A:Around
 N:List Str
 s₀:Shared
 H₀:Hp
 env:Env
 outer:List Env
 stack:List Env
 ex:List Addr
 fn:Str→Bool
 calm:Bool
 pn:List (Addr×Obj)
 xe:Value→Shared→Prop
def frs (l:List Env):List Addr:=l.filterMap (·.frame)
abbrev Cx.fs (X:Cx):List Addr:=frs X.outer
def Vis (sc:Scope) (x:Str):Prop:=sc.names.lookup x = some .local∨sc.names.lookup x = some .cell∨sc.names.lookup x = some .free
def Loc (sc:Scope) (x:Str):Prop:=sc.names.lookup x = some .local∨sc.names.lookup x = some .cell
def Look (env:Env) (h:Heap) (m:Str→Option Value) (x:Str) (u:Value):Prop :=
 (env.kindOf x = some .local∧m x = some u)∨((env.kindOf x = some .cell∨env.kindOf x = some .free)∧∃ c,env.cells.lookup x = some c∧h.IsCell c (some u))
structure Cx.Ok (X:Cx):Prop where
 mod:Mod X.K X.mg X.base
 kind:X.env.scope.kind = .function
 glob:X.env.globals = mainGlobals
 blt:X.env.builtins = builtinsNs
 above:X.s₀.heap.objs.size≤X.env.locals
 inj:∀ x y c,X.env.cells.lookup x = some c→X.env.cells.lookup y = some c→x = y
 has:∀ x,(X.env.kindOf x = some .cell∨X.env.kindOf x = some .free)→∃ c,X.env.cells.lookup x = some c
 cab:∀ x c,X.fn x = true→X.env.cells.lookup x = some c→X.s₀.heap.objs.size≤c
 hd:X.calm = true→X.A.handled = none
 frames:X.A.frames = some X.stack
 stk:X.stack = X.outer∨(X.stack = X.env::X.outer∧X.env.frame = some X.env.locals)
 exf:∀ b∈X.ex,b≠X.env.locals∧∀ x c,X.env.cells.lookup x = some c→c≠b
 bs:∀ b o,X.base.get? b = some o→X.s₀.heap.get? b = some o∧X.H₀ b = none
 bsz:X.base.objs.size≤X.s₀.heap.objs.size
 noex:∀ b o,X.base.get? b = some o→b∉X.ex
 exfs:∀ b∈X.ex,b∉X.fs
 funs:X.s₀.heap.FunFrames X.base X.outer
 frf:∀ b∈X.fs,X.H₀ b = none
structure Inv (X:Cx) (pins:List (Addr×Obj)) (σ:List (Option V)) (H:Hp) (s:Shared):Prop where
 ok:X.Ok
 os:s.os = X.s₀.os
 bare:AllBare s.gens
 base:Un X.fs X.ex X.H₀ H X.s₀.heap s.heap
 loc:∃ m,s.heap.Ns X.env.locals m∧∀ (i:Nat) (x:Str) (v:V),X.N[i]? = some x→σ[i]? = some (some v)→Vis X.env.scope x→∃ u,RelV v u∧Look X.env s.heap m x u
 cell:∀ x c,X.env.cells.lookup x = some c→∃ v,s.heap.IsCell c v
 free:H X.env.locals = none
 freeC:∀ x c,X.env.cells.lookup x = some c→H c = none
 pin:∀ p∈X.pn++pins,s.heap.get? p.1 = some p.2∧H p.1 = none∧p.1≠X.env.locals∧p.1∉X.fs∧∀ v,p.2.data≠.cell v
 hok:HOk X.prog X.w H s.heap
 len:σ.length = X.N.length
section
variable {X:Cx} {pins:List (Addr×Obj)} {σ:List (Option V)} {H H':Hp} {s:Shared} {h':Heap}
theorem Cx.Ok.nofr (ok:X.Ok) {b:Addr} {o:Obj} (e:X.base.get? b = some o):b∉X.fs:=fun hb => by
 have:=(ok.funs.mem hb).1
 rw [e] at this; cases this
theorem Inv.bs (I:Inv X pins σ H s):∀ b o,X.base.get? b = some o→s.heap.get? b = some o∧H b = none:=fun b o e =>
 ⟨I.base.keep b o (I.ok.bs b o e).1 (I.ok.bs b o e).2 (I.ok.nofr e) (I.ok.noex b o e),I.base.free b o (I.ok.bs b o e).1 (I.ok.bs b o e).2 (I.ok.noex b o e)⟩
theorem Inv.bk (I:Inv X pins σ H s):∀ b o,X.base.get? b = some o→s.heap.get? b = some o:=fun b o e => (I.bs b o e).1
theorem Inv.mod (I:Inv X pins σ H s):Mod X.K X.mg X.base:=I.ok.mod
theorem Inv.kIn (I:Inv X pins σ H s):X.K.In s.heap:=I.ok.mod.kin.keeps I.bk
theorem Inv.lt (I:Inv X pins σ H s):X.env.locals < s.heap.objs.size:=let ⟨_,hn,_⟩:=I.loc; hn.lt
theorem Inv.sz (I:Inv X pins σ H s):X.s₀.heap.objs.size≤s.heap.objs.size:=Nat.le_trans I.ok.above (Nat.le_of_lt I.lt)
theorem Inv.nofs (I:Inv X pins σ H s) {a:Addr} (h:s.heap.objs.size≤a):a∉X.fs:=fun hb => by
 obtain ⟨_,o,ho,_⟩:=I.ok.funs.mem hb
 exact absurd (Nat.lt_of_lt_of_le (Heap.lt_size ho) (Nat.le_trans I.sz h)) (Nat.lt_irrefl _)
theorem Inv.cne (I:Inv X pins σ H s):∀ x c,X.env.cells.lookup x = some c→c≠X.env.locals:=fun x c e z => by
 obtain ⟨v,o,ho,hd⟩:=I.cell x c e
 obtain ⟨m,⟨o',es,ep,ho',hd',_⟩,_⟩:=I.loc
 rw [z,ho'] at ho; cases ho; rw [hd'] at hd; cases hd
theorem Inv.funs (I:Inv X pins σ H s):s.heap.FunFrames X.base X.outer:=by
 have all:∀ (l:List Env),(∀ b∈frs l,b∈X.fs)→X.s₀.heap.FunFrames X.base l→s.heap.FunFrames X.base l:=by
  intro l
  induction l with
  | nil => intro _ _; trivial
  | cons env r ih =>
   intro hs hl
   obtain ⟨hk,⟨L,o,hf,hn,ho,hd⟩,hr⟩:=hl
   have hL:L∈X.fs:=hs L (by unfold frs; rw [List.filterMap_cons,hf]; exact List.mem_cons_self)
   obtain ⟨sl,e⟩:=I.base.slot L o ho (I.ok.frf L hL) hL fun z => I.ok.exfs L z hL
   exact ⟨hk,⟨L,_,hf,hn,e,hd⟩,ih (fun b hb => hs b (by unfold frs; rw [List.filterMap_cons,hf]; exact List.mem_cons_of_mem _ hb)) hr⟩
 exact all X.outer (fun _ hb => hb) I.ok.funs
theorem Inv.stack (I:Inv X pins σ H s):s.heap.FunFrames X.base X.stack:=by
 rcases I.ok.stk with e | ⟨e,hf⟩
 ·rw [e]; exact I.funs
 ·rw [e]
  obtain ⟨m,hn,_⟩:=I.loc
  refine .cons (by rw [I.ok.kind]; decide) hf hn ?_ I.funs
  exact Heap.get?_none_of_le (Nat.le_trans I.ok.bsz I.ok.above)
theorem Inv.stkSub (I:Inv X pins σ H s):∀ b∈frs X.stack,b∈X.env.locals::X.fs:=fun b hb => by
 rcases I.ok.stk with e | ⟨e,hf⟩
 ·rw [e] at hb; exact List.mem_cons_of_mem _ hb
 ·rw [e] at hb
  unfold frs at hb
  rw [List.filterMap_cons,hf] at hb
  exact hb
theorem Inv.stkFree (I:Inv X pins σ H s):∀ b∈frs X.stack,H b = none:=fun b hb => by
 rcases List.mem_cons.mp (I.stkSub b hb) with e | hb
 ·rw [e]; exact I.free
 ·obtain ⟨_,o,ho,_⟩:=I.ok.funs.mem hb
  exact I.base.free b o ho (I.ok.frf b hb) fun z => I.ok.exfs b z hb
theorem Inv.step {g':Array GenState} {t':Nat} {d':Drawn} {ch:List Addr} (I:Inv X pins σ H s)
  (hch:∀ b∈ch,(b∈X.ex∨X.s₀.heap.objs.size≤b)∧b≠X.env.locals∧(∀ x c,X.env.cells.lookup x = some c→c≠b)∧∀ p∈X.pn++pins,p.1≠b)
  (keep:∀ b o,b≠X.env.locals→b∉X.fs→b∉ch→s.heap.get? b = some o→H b = none→h'.get? b = some o)
  (slot:∀ b o,b≠X.env.locals→b∈X.fs→b∉ch→s.heap.get? b = some o→H b = none→∃ sl,h'.get? b = some { o with slots:=sl }) (free:∀ b o,b∉ch→s.heap.get? b = some o→H b = none→H' b = none)
  (there:∀ b o,b∉ch→s.heap.get? b = some o→∃ o',h'.get? b = some o')
  (tups:∀ b xs,H b = some (.tup xs)→H' b = some (.tup xs)) (frzs:∀ b o u,H b = some (.frz o u)→H' b = some (.frz o u)) (tbls:∀ b ps,H b = some (.tbl ps)→∃ more,H' b = some (.tbl (ps++more)))
  (ns:∀ m,s.heap.Ns X.env.locals m→h'.Ns X.env.locals m) (hok:HOk X.prog X.w H' h') (hg:AllBare g') :
  Inv X pins σ H' { s with heap:=h',gens:=g',drawn:=d',toks:=t' }:=by
 have neL:∀ b o,X.s₀.heap.get? b = some o→b≠X.env.locals:=fun b o e => Nat.ne_of_lt (Nat.lt_of_lt_of_le (Heap.lt_size e) I.ok.above)
 have neC:∀ b o,X.s₀.heap.get? b = some o→b∉X.ex→b∉ch:=fun b o e hx hb => by
  rcases (hch b hb).1 with z | z
  ·exact hx z
  ·exact absurd (Nat.lt_of_lt_of_le (Heap.lt_size e) z) (Nat.lt_irrefl _)
 have cellK:∀ x c,X.env.cells.lookup x = some c→∀ v,s.heap.IsCell c v→h'.IsCell c v:=fun x c e v ⟨o,ho,hd⟩ => by
  have nch:c∉ch:=fun z => (hch c z).2.2.1 x c e rfl
  by_cases hc:c∈X.fs
  ·obtain ⟨sl,q⟩:=slot c o (I.cne x c e) hc nch ho (I.freeC x c e)
   exact ⟨_,q,hd⟩
  ·exact ⟨o,keep c o (I.cne x c e) hc nch ho (I.freeC x c e),hd⟩
 refine ⟨I.ok,I.os,hg,⟨fun b o e n hb hx => ?_,fun b o e n hb hx => ?_,fun b o e n hx => ?_,fun b o e hx => ?_,fun b xs e => tups b xs (I.base.tups b xs e),fun b o xs e => frzs b o xs (I.base.frzs b o xs e),fun b ps e => ?_⟩,?_,fun x c e => ?_,?_,fun x c e => ?_,fun p hp => ?_,hok,I.len⟩
 ·exact keep b o (neL b o e) hb (neC b o e hx) (I.base.keep b o e n hb hx) (I.base.free b o e n hx)
 ·obtain ⟨sl,e1⟩:=I.base.slot b o e n hb hx
  obtain ⟨sl',e2⟩:=slot b _ (neL b o e) hb (neC b o e hx) e1 (I.base.free b o e n hx)
  exact ⟨sl',e2⟩
 ·obtain ⟨o',e1⟩:=I.base.there b o e hx
  exact free b o' (neC b o e hx) e1 (I.base.free b o e n hx)
 ·obtain ⟨o',e1⟩:=I.base.there b o e hx
  exact there b o' (neC b o e hx) e1
 ·obtain ⟨m1,e1⟩:=I.base.tbls b ps e
  obtain ⟨m2,e2⟩:=tbls b _ e1
  exact ⟨m1++m2,by rw [e2,Array.append_assoc]⟩
 ·obtain ⟨m,hn,hl⟩:=I.loc
  refine ⟨m,ns m hn,fun i x v e1 e2 e3 => ?_⟩
  obtain ⟨u,r,l⟩:=hl i x v e1 e2 e3
  refine ⟨u,r,?_⟩
  rcases l with l | ⟨k,c,e,z⟩
  ·exact .inl l
  ·exact .inr ⟨k,c,e,cellK x c e _ z⟩
 ·obtain ⟨v,z⟩:=I.cell x c e
  exact ⟨v,cellK x c e v z⟩
 ·obtain ⟨m,⟨o,_,_,ho,_⟩,_⟩:=I.loc
  exact free _ o (fun z => (hch _ z).2.1 rfl) ho I.free
 ·obtain ⟨v,o,ho,hd⟩:=I.cell x c e
  exact free c o (fun z => (hch c z).2.2.1 x c e rfl) ho (I.freeC x c e)
 ·obtain ⟨e,n,ne,nf,d⟩:=I.pin p hp
  have nch:p.1∉ch:=fun z => (hch p.1 z).2.2.2 p hp rfl
  exact ⟨keep p.1 p.2 ne nf nch e n,free p.1 p.2 nch e n,ne,nf,d⟩
theorem Inv.un {t':Nat} (I:Inv X pins σ H s) (u:Un X.fs [] H H' s.heap h') (hok:HOk X.prog X.w H' h'):Inv X pins σ H' { s with heap:=h',toks:=t' }:=by
 obtain ⟨m,⟨o,es,ep,ho,r⟩,_⟩:=id I.loc
 obtain ⟨sl,hL⟩:=u.any ho I.free (by simp)
 exact I.step (g':=s.gens) (d':=s.drawn) (ch:=[]) (fun _ z => nomatch z) (fun b o _ hb _ e n => u.keep b o e n hb (by simp)) (fun b o _ hb _ e n => u.slot b o e n hb (by simp)) (fun b o _ e n => u.free b o e n (by simp)) (fun b o _ e => u.there b o e (by simp)) u.tups u.frzs u.tbls (fun m' hm => by
  obtain ⟨o',es',ep',ho',r'⟩:=hm
  rw [ho] at ho'; cases ho'
  exact ⟨_,es',ep',hL,r'⟩) hok I.bare
theorem Inv.call {g':Array GenState} {t':Nat} {d':Drawn} {ch:List Addr} (I:Inv X pins σ H s) (u:Un (frs X.stack) ch H H' s.heap h') (hok:HOk X.prog X.w H' h') (hg:AllBare g')
  (hch:∀ b∈ch,(b∈X.ex∨X.s₀.heap.objs.size≤b)∧b≠X.env.locals∧(∀ x c,X.env.cells.lookup x = some c→c≠b)∧∀ p∈X.pn++pins,p.1≠b) :
  Inv X pins σ H' { s with heap:=h',gens:=g',drawn:=d',toks:=t' }:=by
 obtain ⟨m,⟨o,es,ep,ho,r⟩,_⟩:=id I.loc
 obtain ⟨sl,hL⟩:=u.any ho I.free fun z => (hch _ z).2.1 rfl
 exact I.step (ch:=ch) hch (fun b o hL hb hc e n => u.keep b o e n (fun z => (List.mem_cons.mp (I.stkSub b z)).elim hL hb) hc) (fun b o _ _ hc e n => u.any e n hc) (fun b o hc e n => u.free b o e n hc) (fun b o hc e => u.there b o e hc) u.tups u.frzs u.tbls (fun m' hm => by
  obtain ⟨o',es',ep',ho',r'⟩:=hm
  rw [ho] at ho'; cases ho'
  exact ⟨_,es',ep',hL,r'⟩) hok hg
theorem Inv.turned {t':Nat} {it:Addr} (I:Inv X pins σ H s) (k:∀ b o,b≠it→s.heap.get? b = some o→h'.get? b = some o) (hn:H it = none) (hL:it≠X.env.locals)
  (h1:it∈X.ex∨X.s₀.heap.objs.size≤it) (h2:∀ x c,X.env.cells.lookup x = some c→c≠it) (h3:∀ p∈X.pn++pins,p.1≠it):Inv X pins σ H { s with heap:=h',toks:=t' }:=by
 have nit:∀ b u,H b = some u→b≠it:=fun b u e z => by rw [z,hn] at e; cases e
 refine I.step (g':=s.gens) (d':=s.drawn) (ch:=[it]) (fun b hb => ?_) (fun b o _ _ hc e _ => k b o (fun z => hc (by simp [z])) e) (fun b o _ _ hc e _ => ⟨o.slots,k b o (fun z => hc (by simp [z])) e⟩) (fun _ _ _ _ n => n)
  (fun b o hc e => ⟨o,k b o (fun z => hc (by simp [z])) e⟩) (fun _ _ e => e) (fun _ _ _ e => e) (fun b ps e => ⟨#[],by rw [e]; simp⟩) (fun m hm => ?_) (fun b u e => ?_) I.bare
 ·have e:b = it:=by simpa using hb
  subst e
  exact ⟨h1,hL,h2,h3⟩
 ·obtain ⟨o,es,ep,ho,r⟩:=hm
  exact ⟨o,es,ep,k _ o (Ne.symm hL) ho,r⟩
 ·refine (I.hok b u e).stay (fun c v hc q => k c v ?_ q) (fun _ q => q) fun _ _ q => q
  rcases hc with z | z
  ·rw [z]; exact nit b u e
  ·exact nit c _ z
theorem Inv.tok (I:Inv X pins σ H s) (t:Nat):Inv X pins σ H { s with toks:=t }:=I.un (h':=s.heap) (t':=t) Un.refl I.hok
theorem Inv.kept {t':Nat} (I:Inv X pins σ H s) (k:∀ b u,s.heap.get? b = some u→h'.get? b = some u):Inv X pins σ H { s with heap:=h',toks:=t' }:=I.un (Un.kept k) (I.hok.kept k)
theorem Inv.laid {a:Addr} {o:HO} {t':Nat} (I:Inv X pins σ H s) (k:∀ b u,s.heap.get? b = some u→h'.get? b = some u) (hp:s.heap.objs.size≤a) (new:ObjOk X.prog X.w (upd H a o) h' a o) :
  Inv X pins σ (upd H a o) { s with heap:=h',toks:=t' }:=I.un (Un.laid k hp (I.hok.fresh hp)) (I.hok.laid k hp new)
theorem Inv.write {x e:Addr} {o:HO} {t':Nat} (I:Inv X pins σ H s) (mu:Mut (H x)) (he:e = x∨H e = some (.own x)) (k:∀ b u,b≠e→s.heap.get? b = some u→h'.get? b = some u) (heo:∃ u,h'.get? e = some u)
  (new:ObjOk X.prog X.w (upd H x o) h' x o):Inv X pins σ (upd H x o) { s with heap:=h',toks:=t' }:=I.un (Un.write mu he k heo) (I.hok.write mu he k heo new)
theorem Inv.weak {σ':List (Option V)} (I:Inv X pins σ H s) (hl:σ'.length = σ.length) (w:∀ (i:Nat) v,σ'[i]? = some (some v)→σ[i]? = some (some v)):Inv X pins σ' H s :=
 ⟨I.ok,I.os,I.bare,I.base,let ⟨m,hn,hl'⟩:=I.loc; ⟨m,hn,fun i x v e1 e2 e3 => hl' i x v e1 (w i v e2) e3⟩,I.cell,I.free,I.freeC,I.pin,I.hok,hl.trans I.len⟩
theorem Inv.pins_of {pins':List (Addr×Obj)} (I:Inv X pins σ H s) (h:∀ p∈pins',s.heap.get? p.1 = some p.2∧H p.1 = none∧p.1≠X.env.locals∧p.1∉X.fs∧∀ v,p.2.data≠.cell v):Inv X pins' σ H s :=
 ⟨I.ok,I.os,I.bare,I.base,I.loc,I.cell,I.free,I.freeC,fun p hp => (List.mem_append.mp hp).elim (fun z => I.pin p (List.mem_append_left _ z)) (h p),I.hok,I.len⟩
theorem nodup_ix {N:List Str} (hN:N.Nodup) {i j:Nat} {x:Str} (a:N[i]? = some x) (b:N[j]? = some x):i = j:=by
 obtain ⟨h1,e1⟩:=List.getElem?_eq_some_iff.mp a
 obtain ⟨h2,e2⟩:=List.getElem?_eq_some_iff.mp b
 exact (List.getElem_inj hN).mp (e1.trans e2.symm)
theorem store_ok2 {M:Model} {A:Around} {E:Value→Shared→Prop} {i:Nat} {x:Str} {v:V} {u:Value} {Q:Unit→Shared→Prop} (I:Inv X pins σ H s) (hN:X.N.Nodup) (hi:X.N[i]? = some x) (hx:Loc X.env.scope x) (r:RelV v u)
  (h:∀ s',Inv X pins (σ.set i (some v)) H s'→(∃ a,Heap.SameBut a s.heap s'.heap∧(a = X.env.locals∨X.env.cells.lookup x = some a))→Q () s') (hf:X.fn x = true∨X.env.scope.names.lookup x = some .local:=by first | exact .inl rfl | exact .inr rfl | assumption):wpAny M A (storeName X.env x u) Q E s:=by
 obtain ⟨m,hn,hl⟩:=id I.loc
 have hcls:(X.env.scope.kind == .class || (X.env.scope.kind == .module && X.env.locals != X.env.globals)) = false:=by rw [I.ok.kind]; rfl
 have hiσ:i < σ.length:=by rw [I.len]; exact (List.getElem?_eq_some_iff.mp hi).1
 have cne:=I.cne
 have tracked:∀ {a:Addr} {h':Heap},(∃ o,s.heap.get? a = some o∧H a = none)→Heap.SameBut a s.heap h'→HOk X.prog X.w H h':=fun {a h'} ha hs b ob e => by
  obtain ⟨_,_,hfree⟩:=ha
  refine (I.hok b ob e).stay (fun c w' hc q => (hs.2 c ?_).trans q) (fun _ q => q) fun _ _ q => q
  rintro rfl
  rcases hc with rfl | hc
  ·rw [hfree] at e; cases e
  ·rw [hfree] at hc; cases hc
 rcases hx with hk | hk
 ·refine wpAny_storeName_local hk hn (fun h' hn' hs => ?_) hcls
  obtain ⟨oL,_,_,hoL,_⟩:=id hn
  refine h _ ⟨I.ok,I.os,I.bare,⟨fun b o e n hb hx => ?_,fun b o e n hb hx => ?_,I.base.free,fun b o e hx => ?_,I.base.tups,I.base.frzs,I.base.tbls⟩,⟨_,hn',fun j y v' e1 e2 e3 => ?_⟩,fun y c e => ?_,I.free,I.freeC,fun p hp => ?_,tracked ⟨oL,hoL,I.free⟩ hs,by simpa using I.len⟩ ⟨_,hs,.inl rfl⟩
  ·exact (hs.2 b (Nat.ne_of_lt (Nat.lt_of_lt_of_le (Heap.lt_size e) I.ok.above))).trans (I.base.keep b o e n hb hx)
  ·obtain ⟨sl,e1⟩:=I.base.slot b o e n hb hx
   exact ⟨sl,(hs.2 b (Nat.ne_of_lt (Nat.lt_of_lt_of_le (Heap.lt_size e) I.ok.above))).trans e1⟩
  ·obtain ⟨o',e1⟩:=I.base.there b o e hx
   exact ⟨o',(hs.2 b (Nat.ne_of_lt (Nat.lt_of_lt_of_le (Heap.lt_size e) I.ok.above))).trans e1⟩
  ·by_cases hj:j = i
   ·subst hj
    rw [hi] at e1; cases e1
    rw [List.getElem?_set_self hiσ] at e2
    cases e2
    exact ⟨u,r,.inl ⟨hk,by simp⟩⟩
   ·rw [List.getElem?_set_ne (Ne.symm hj)] at e2
    obtain ⟨u',r',q⟩:=hl j y v' e1 e2 e3
    refine ⟨u',r',?_⟩
    rcases q with ⟨k,e⟩ | ⟨k,c,e,z⟩
    ·refine .inl ⟨k,?_⟩
     have:y≠x:=fun e => hj (nodup_ix hN e1 (e▸hi))
     simp [this,e]
    ·exact .inr ⟨k,c,e,z.sameBut hs (cne y c e)⟩
  ·obtain ⟨w',z⟩:=I.cell y c e
   exact ⟨w',z.sameBut hs (cne y c e)⟩
  ·obtain ⟨e,n,ne,nf,d⟩:=I.pin p hp
   exact ⟨(hs.2 p.1 ne).trans e,n,ne,nf,d⟩
 ·have hfn:X.fn x = true:=by
   rcases hf with z | z
   ·exact z
   ·rw [z] at hk; cases hk
  obtain ⟨c,hc⟩:=I.ok.has x (.inl hk)
  obtain ⟨w',z⟩:=I.cell x c hc
  refine wpAny_storeName_cell I.ok.kind hk hc z (fun h' hc' hs => ?_)
  obtain ⟨oc,hoc,hocd⟩:=id z
  refine h { s with heap:=h' } ⟨I.ok,I.os,I.bare,⟨fun b o e n hb hx => ?_,fun b o e n hb hx => ?_,I.base.free,fun b o e hx => ?_,I.base.tups,I.base.frzs,I.base.tbls⟩,⟨m,hn.sameBut hs (Ne.symm (cne x c hc)),fun j y v' e1 e2 e3 => ?_⟩,fun y c' e => ?_,I.free,I.freeC,fun p hp => ?_,tracked ⟨oc,hoc,I.freeC x c hc⟩ hs,by simpa using I.len⟩ ⟨c,hs,.inr hc⟩
  ·exact (hs.2 b (Nat.ne_of_lt (Nat.lt_of_lt_of_le (Heap.lt_size e) (I.ok.cab x c hfn hc)))).trans (I.base.keep b o e n hb hx)
  ·obtain ⟨sl,e1⟩:=I.base.slot b o e n hb hx
   exact ⟨sl,(hs.2 b (Nat.ne_of_lt (Nat.lt_of_lt_of_le (Heap.lt_size e) (I.ok.cab x c hfn hc)))).trans e1⟩
  ·obtain ⟨o',e1⟩:=I.base.there b o e hx
   exact ⟨o',(hs.2 b (Nat.ne_of_lt (Nat.lt_of_lt_of_le (Heap.lt_size e) (I.ok.cab x c hfn hc)))).trans e1⟩
  ·by_cases hj:j = i
   ·subst hj
    rw [hi] at e1; cases e1
    rw [List.getElem?_set_self hiσ] at e2
    cases e2
    exact ⟨u,r,.inr ⟨.inl hk,c,hc,hc'⟩⟩
   ·rw [List.getElem?_set_ne (Ne.symm hj)] at e2
    obtain ⟨u',r',q⟩:=hl j y v' e1 e2 e3
    refine ⟨u',r',?_⟩
    rcases q with q | ⟨k,c',e,z'⟩
    ·exact .inl q
    ·refine .inr ⟨k,c',e,z'.sameBut hs ?_⟩
     rintro rfl
     exact hj (nodup_ix hN e1 (I.ok.inj _ _ _ e hc▸hi))
  ·by_cases hcc:c' = c
   ·subst hcc; exact ⟨_,hc'⟩
   ·obtain ⟨w2,z2⟩:=I.cell y c' e
    exact ⟨w2,z2.sameBut hs hcc⟩
  ·obtain ⟨e,n,ne,nf,d⟩:=I.pin p hp
   refine ⟨(hs.2 p.1 ?_).trans e,n,ne,nf,d⟩
   intro q
   rw [q,hoc] at e
   have q':oc = p.2:=Option.some.inj e
   exact d w' (by rw [← q']; exact hocd)
theorem store_ok {M:Model} {A:Around} {E:Value→Shared→Prop} {i:Nat} {x:Str} {v:V} {u:Value} {Q:Unit→Shared→Prop} (I:Inv X pins σ H s) (hN:X.N.Nodup) (hi:X.N[i]? = some x) (hx:Loc X.env.scope x) (r:RelV v u)
  (h:∀ s',Inv X pins (σ.set i (some v)) H s'→Q () s') (hf:X.fn x = true∨X.env.scope.names.lookup x = some .local:=by first | exact .inl rfl | exact .inr rfl | assumption):wpAny M A (storeName X.env x u) Q E s :=
 store_ok2 I hN hi hx r (fun s' I' _ => h s' I') hf
theorem Inv.call' {s':Shared} {ch:List Addr} (I:Inv X pins σ H s) (ho:s'.os = s.os) (u:Un (frs X.stack) ch H H' s.heap s'.heap) (hok:HOk X.prog X.w H' s'.heap) (hg:AllBare s'.gens)
  (hch:∀ b∈ch,(b∈X.ex∨X.s₀.heap.objs.size≤b)∧b≠X.env.locals∧(∀ x c,X.env.cells.lookup x = some c→c≠b)∧∀ p∈X.pn++pins,p.1≠b):Inv X pins σ H' s':=by
 obtain ⟨h',g',d',t',o'⟩:=s'
 have e:o' = s.os:=ho
 subst e
 exact I.call (g':=g') (t':=t') (d':=d') u hok hg hch
end
abbrev XK:=Value→Option Addr→Hp→Prop
abbrev St:=List (Option V)
abbrev VK:=V→Hp→Prop
abbrev TE:=St→Hp→VK→Prop
abbrev TT:=St→Hp→(Bool→Hp→Prop)→Prop
abbrev TA:=St→Hp→(List V→Hp→Prop)→Prop
structure Ends where
 nx:St→Hp→Prop
 rt:VK
 bk:St→Hp→Prop:=fun _ _ => False
 ct:St→Hp→Prop:=fun _ _ => False
abbrev TS:=Ends→St→Hp→Prop
def EP (X:Cx) (pins:List (Addr×Obj)) (σ:St) (Q:VK) (u:Value) (s':Shared):Prop:=∃ v H',Inv X pins σ H' s'∧RelV v u∧Q v H'
def TP (X:Cx) (pins:List (Addr×Obj)) (σ:St) (Q:Bool→Hp→Prop) (b:Bool) (s':Shared):Prop:=∃ H',Inv X pins σ H' s'∧Q b H'
def AP (X:Cx) (pins:List (Addr×Obj)) (σ:St) (Q:List V→Hp→Prop) (us:List Value) (s':Shared):Prop:=∃ vs H',Inv X pins σ H' s'∧Vals vs us∧Q vs H'
def SP (X:Cx) (pins:List (Addr×Obj)) (D:Ends) (f:Flow) (s':Shared):Prop :=
 match f with
 | .next => ∃ σ' H',Inv X pins σ' H' s'∧D.nx σ' H'
 | .brk => ∃ σ' H',Inv X pins σ' H' s'∧D.bk σ' H'
 | .cont => ∃ σ' H',Inv X pins σ' H' s'∧D.ct σ' H'
 | .ret u => ∃ v σ' H',Inv X pins σ' H' s'∧RelV v u∧D.rt v H'
def PE (X:Cx) (e:Expr) (t:TE):Prop :=
 ∀ (pins:List (Addr×Obj)) (s:Shared) (σ:St) (H:Hp) (Q:VK),Inv X pins σ H s→t σ H Q→wpAny (model X.prog X.w) X.A (eval e X.env) (EP X pins σ Q) X.xe s
def PT (X:Cx) (e:Expr) (t:TT):Prop :=
 ∀ (pins:List (Addr×Obj)) (s:Shared) (σ:St) (H:Hp) (Q:Bool→Hp→Prop),Inv X pins σ H s→t σ H Q→wpAny (model X.prog X.w) X.A (isTrue e X.env (eval e X.env)) (TP X pins σ Q) X.xe s
def PW (X:Cx) (e:Expr) (t:TT):Prop :=
 ∀ (whole:Sem Value) (pins:List (Addr×Obj)) (s:Shared) (σ:St) (H:Hp) (Q:Bool→Hp→Prop),Inv X pins σ H s→t σ H Q→wpAny (model X.prog X.w) X.A (isTrue e X.env whole) (TP X pins σ Q) X.xe s
theorem PW.pt {X:Cx} {e:Expr} {t:TT} (h:PW X e t):PT X e t:=h _
def PA (X:Cx) (es:List Expr) (t:TA):Prop :=
 ∀ (pos:Pos) (pins:List (Addr×Obj)) (s:Shared) (σ:St) (H:Hp) (Q:List V→Hp→Prop),Inv X pins σ H s→t σ H Q→wpAny (model X.prog X.w) X.A (spliced (backTo pos (starEach es X.env))) (AP X pins σ Q) X.xe s
def PS (X:Cx) (st:Stmt) (t:TS):Prop :=
 ∀ (pins:List (Addr×Obj)) (s:Shared) (σ:St) (H:Hp) (D:Ends),Inv X pins σ H s→t D σ H→wpAny (model X.prog X.w) X.A (exec st X.env) (SP X pins D) X.xe s
def PSs (X:Cx) (st:List Stmt) (t:TS):Prop :=
 ∀ (pins:List (Addr×Obj)) (s:Shared) (σ:St) (H:Hp) (D:Ends),Inv X pins σ H s→t D σ H→wpAny (model X.prog X.w) X.A (execs st X.env) (SP X pins D) X.xe s
theorem thn {α:Type} {t:Sem α} {Q Q':α→Shared→Prop} {M:Model} {A:Around} {E:Value→Shared→Prop} {s:Shared} (h:wpAny M A t Q E s) (hQ:∀ a s,Q a s→Q' a s):wpAny M A t Q' E s:=wpAny_mono h hQ fun _ _ x => x
section
variable {X:Cx}
def tVar (i:Nat):TE:=fun σ H Q => ∃ v,σ[i]? = some (some v)∧Q v H
def tC (v:V):TE:=fun _ H Q => Q v H
theorem pe_var {i:Nat} {x:Str} {pos:Pos} (hN:X.N[i]? = some x) (hv:Vis X.env.scope x) (hd:(x == ("__debug__" : Str)) = false:=by decide) (hcd:(x == ("__classdict__" : Str)) = false:=by decide):PE X (.Name x pos) (tVar i):=by
 intro pins s σ H Q I h
 obtain ⟨v,e,h⟩:=h
 obtain ⟨m,hn,hl⟩:=I.loc
 obtain ⟨u,r,l⟩:=hl i x v hN e hv
 have fin:EP X pins σ Q u s:=⟨v,H,I,r,h⟩
 rcases l with ⟨hk,hm⟩ | ⟨hk,c,hc,hcell⟩
 ·exact wpAny_Name (wpAny_loadName_local I.ok.kind hk hn hm fin) hd
 ·rcases hk with hk | hk
  ·exact wpAny_Name (wpAny_loadName_cell I.ok.kind hk hc hcell fin) hd
  ·exact wpAny_Name (wpAny_loadName_free I.ok.kind hk hc hcell fin hcd) hd
theorem pe_int {i j pos}:PE X (.Constant (.int i) j pos) (tC (.int i)):=fun _ _ _ H _ I h => wpAny_Constant_int ⟨.int i,H,I.tok _,⟨_,rfl⟩,h⟩
theorem pe_bl {b j pos}:PE X (.Constant (.bool b) j pos) (tC (.bl b)):=fun _ _ _ H _ I h => Constant_bool ⟨.bl b,H,I,rfl,h⟩
theorem pe_str {x j pos}:PE X (.Constant (.str x) j pos) (tC (.str x)):=fun _ _ _ H _ I h => Calls.Constant_str ⟨.str x,H,I.tok _,⟨_,rfl⟩,h⟩
def Gl (X:Cx) (x:Str):Prop:=X.env.kindOf x = some .globalImplicit
theorem ld_glob {E:Value→Shared→Prop} {pins:List (Addr×Obj)} {s:Shared} {σ:St} {H:Hp} {x:Str} {u:Value} {pos:Pos} {Q:Value→Shared→Prop} (I:Inv X pins σ H s) (hg:Gl X x) (hm:X.mg x = some u) (h:Q u s)
  (hd:(x == ("__debug__" : Str)) = false:=by decide):wpAny (model X.prog X.w) X.A (eval (.Name x pos) X.env) Q E s :=
 Calls.Name_function_global I.ok.kind hg (Calls.loadGlobal_global (by rw [I.ok.glob]; exact I.mod.glob.keeps I.bk) hm h) hd
theorem ld_blt {E:Value→Shared→Prop} {pins:List (Addr×Obj)} {s:Shared} {σ:St} {H:Hp} {x:Str} {u:Value} {pos:Pos} {Q:Value→Shared→Prop} (I:Inv X pins σ H s) (hg:Gl X x) (hm:X.mg x = none) (hv:bootBuiltins x = some u) (h:Q u s)
  (hn:x ≠ "__name__":=by decide) (hd:(x == ("__debug__" : Str)) = false:=by decide):wpAny (model X.prog X.w) X.A (eval (.Name x pos) X.env) Q E s:=by
 obtain ⟨mb,h1,h2⟩:=I.mod.blt
 exact Calls.Name_function_global I.ok.kind hg (Calls.loadGlobal_builtin (by rw [I.ok.glob]; exact I.mod.glob.keeps I.bk) hm (by rw [I.ok.blt]; exact h1.keeps I.bk) ((h2 x hn).trans hv) h) hd
theorem pe_bltn {x:Str} {v:V} {u:Value} {pos:Pos} (hg:Gl X x) (hm:X.mg x = none) (hv:bootBuiltins x = some u) (r:RelV v u) (hn:x ≠ "__name__":=by decide) (hd:(x == ("__debug__" : Str)) = false:=by decide):PE X (.Name x pos) (tC v) :=
 fun _ _ _ H _ I h => ld_blt I hg hm hv ⟨v,H,I,r,h⟩ hn hd
variable {a b:Expr} {ta tb:TE} {pos:Pos}
def tB (t:TE):TT:=fun σ H Q => t σ H fun x H1 => ∃ c,x = .bl c∧Q c H1
theorem pt_val {e:Expr} {t:TE} (h:PE X e t) (he:∀ whole,isTrue e X.env whole = (do let v ← whole; standAt e.pos; holding [v] (truthy v)):=by intro _; rfl):PT X e (tB t):=by
 intro pins s σ H Q I hw
 refine isTrue_plain (thn (h pins s σ H _ I hw) fun v s1 zz => ?_) (he _)
 obtain ⟨x,H1,I1,r1,q1⟩:=zz
 obtain ⟨d,rfl,q⟩:=q1
 cases r1
 exact wpAny_truthy_bool ⟨H1,I1,q⟩
variable {tA tB':TT} {rest:List Expr}
def tAnd (t u:TT):TT:=fun σ H Q => t σ H fun c H1 => if c = true then u σ H1 Q else Q false H1
def tOr (t u:TT):TT:=fun σ H Q => t σ H fun c H1 => if c = true then Q true H1 else u σ H1 Q
def tNot (t:TT):TT:=fun σ H Q => t σ H fun c H1 => Q (!c) H1
theorem pw_and1 (ha:PT X a tA):PW X (.BoolOp .And [a] pos) tA:=by
 intro wh pins s σ H Q I h
 refine isTrue_and (thn (ha pins s σ H Q I h) fun c s1 e => ?_)
 cases c with
 | true => exact isTrue_and_nil e
 | false => exact e
theorem pw_or1 (ha:PT X a tA):PW X (.BoolOp .Or [a] pos) tA:=by
 intro wh pins s σ H Q I h
 refine isTrue_or (thn (ha pins s σ H Q I h) fun c s1 e => ?_)
 cases c with
 | false => exact isTrue_or_nil e
 | true => exact e
theorem pw_and (ha:PT X a tA) (hb:PW X (.BoolOp .And (b::rest) pos) tB'):PW X (.BoolOp .And (a::b::rest) pos) (tAnd tA tB'):=by
 intro wh pins s σ H Q I h
 refine isTrue_and (thn (ha pins s σ H _ I h) fun c s1 zz => ?_)
 obtain ⟨H1,I1,q1⟩:=zz
 cases c with
 | true => exact hb wh pins s1 σ H1 Q I1 q1
 | false => exact ⟨H1,I1,q1⟩
theorem pw_or (ha:PT X a tA) (hb:PW X (.BoolOp .Or (b::rest) pos) tB'):PW X (.BoolOp .Or (a::b::rest) pos) (tOr tA tB'):=by
 intro wh pins s σ H Q I h
 refine isTrue_or (thn (ha pins s σ H _ I h) fun c s1 zz => ?_)
 obtain ⟨H1,I1,q1⟩:=zz
 cases c with
 | true => exact ⟨H1,I1,q1⟩
 | false => exact hb wh pins s1 σ H1 Q I1 q1
theorem pt_not (ha:PT X a tA):PT X (.UnaryOp .Not a pos) (tNot tA):=by
 intro pins s σ H Q I h
 exact isTrue_not (ha pins s σ H (fun c H1 => Q (!c) H1) I h)
def tAndV (ta tb:TE):TE:=fun σ H Q => ta σ H fun x H1 => ∃ c,x = .bl c∧if c = true then tb σ H1 Q else Q (.bl false) H1
def tNotV (ta:TE):TE:=fun σ H Q => ta σ H fun x H1 => ∃ c,x = .bl c∧Q (.bl (!c)) H1
theorem pe_one {op} {t:TE} (h:PE X a t):PE X (.BoolOp op [a] pos) t:=fun pins s σ H Q I hw => BoolOp_one (h pins s σ H Q I hw)
theorem pe_and (ha:PE X a ta) (hb:PE X (.BoolOp .And (b::rest) pos) tb):PE X (.BoolOp .And (a::b::rest) pos) (tAndV ta tb):=by
 intro pins s σ H Q I h
 refine BoolOp_and (thn (ha pins s σ H _ I h) fun v s1 zz => ?_)
 obtain ⟨x,H1,I1,r1,q1⟩:=zz
 obtain ⟨c,rfl,q1⟩:=q1
 cases r1
 refine wpAny_truthy_bool ?_
 cases c with
 | true => exact hb pins s1 σ H1 Q I1 q1
 | false => exact ⟨.bl false,H1,I1,rfl,q1⟩
theorem pe_not (ha:PE X a ta):PE X (.UnaryOp .Not a pos) (tNotV ta):=by
 intro pins s σ H Q I h
 refine UnaryOp_ (thn (ha pins s σ H _ I h) fun v s1 zz => ?_)
 obtain ⟨x,H1,I1,r1,q1⟩:=zz
 obtain ⟨c,rfl,q1⟩:=q1
 cases r1
 exact not_of (wpAny_truthy_bool ⟨.bl (!c),H1,I1,rfl,q1⟩)
end
def SqL (K:PySem.W.Frag) (H:Hp) (a:Addr) (xs:List V):Prop :=
 Rd H a (.lst xs) ∨
  ∃ (o:Obj) (its:Array Value) (n:Nat),K.lookup a = some o∧o.cls = .type "list"∧o.dict = none∧o.data = .seq its n∧its.size≤sizeLine∧Vals xs its.toList
def SqT (K:PySem.W.Frag) (H:Hp) (a:Addr) (xs:List V):Prop :=
 Rd H a (.tup xs) ∨
  ∃ (o:Obj) (its:Array Value) (n:Nat),K.lookup a = some o∧o.cls = .type "tuple"∧o.data = .seq its n∧its.size≤sizeLine∧Vals xs its.toList
def absV:Value→Option V
 | .none => some .non
 | .bool b => some (.bl b)
 | .int i _ => some (.int i)
 | .str x _ => some (.str x)
 | .bytes b _ => some (.byt b)
 | .float b _ => some (.flt b)
 | .ref a => some (.ref a)
 | .type n => some (.ty n)
 | _ => none
theorem RelV.abs {x:V} {u:Value} (r:RelV x u):absV u = some x:=by
 cases x with
 | non => cases r; rfl
 | bl _ => cases r; rfl
 | int _ => obtain ⟨t,rfl⟩:=r; rfl
 | str _ => obtain ⟨t,rfl⟩:=r; rfl
 | byt _ => obtain ⟨t,rfl⟩:=r; rfl
 | flt _ => obtain ⟨t,rfl⟩:=r; rfl
 | ref _ => cases r; rfl
 | ty _ => cases r; rfl
theorem RelV.inj {x y:V} {u:Value} (r:RelV x u) (q:RelV y u):x = y:=Option.some.inj (r.abs.symm.trans q.abs)
theorem Vals.inj:∀ {xs ys:List V} {us:List Value},Vals xs us→Vals ys us→xs = ys
 | _,_,_,.nil,.nil => rfl
 | _,_,_,.cons r t,.cons r' t' => by rw [r.inj r',Vals.inj t t']
section
variable {X:Cx} {pins:List (Addr×Obj)} {σ:St} {H:Hp} {s:Shared} {a:Addr} {xs ys:List V}
theorem SqL.of {K:PySem.W.Frag} (h:H a = some (.lst xs)):SqL K H a xs:=.inl (.inl h)
theorem SqT.of {K:PySem.W.Frag} (h:H a = some (.tup xs)):SqT K H a xs:=.inl (.inl h)
theorem Inv.list (I:Inv X pins σ H s) (h:SqL X.K H a xs):∃ its:List Value,Vals xs its∧PlainL s.heap a its.toArray∧xs.length≤sizeLine:=by
 rcases h with h | ⟨o,its,n,hk,hc,hd,hs,hz,r⟩
 ·obtain ⟨z,its,n,r,e⟩:=h.ok I.hok
  exact ⟨its,r,⟨_,n,e,rfl,rfl,rfl⟩,z⟩
 ·refine ⟨its.toList,r,⟨o,n,I.kIn a o hk,hc,hd,by simpa using hs⟩,?_⟩
  have e:=r.length
  simp only [Array.length_toList] at e
  omega
theorem Inv.tuple (I:Inv X pins σ H s) (h:SqT X.K H a xs):∃ its:List Value,Vals xs its∧IsTup s.heap a its.toArray∧xs.length≤sizeLine:=by
 rcases h with h | ⟨o,its,n,hk,hc,hs,hz,r⟩
 ·obtain ⟨z,its,r,p⟩:=h.ok I.hok
  exact ⟨its,r,p.tup,z⟩
 ·refine ⟨its.toList,r,⟨o,I.kIn a o hk,hc,n,by simpa using hs⟩,?_⟩
  have e:=r.length
  simp only [Array.length_toList] at e
  omega
theorem Inv.list_inj (I:Inv X pins σ H s) (h:SqL X.K H a xs) (h':SqL X.K H a ys):xs = ys:=by
 obtain ⟨its,r,⟨o,n,e,_,_,d⟩,_⟩:=I.list h
 obtain ⟨its',r',⟨o',n',e',_,_,d'⟩,_⟩:=I.list h'
 rw [e] at e'; cases e'
 rw [d] at d'
 injection d' with d1 _
 have:its = its':=by simpa using congrArg Array.toList d1
 subst this
 exact r.inj r'
theorem Inv.tuple_inj (I:Inv X pins σ H s) (h:SqT X.K H a xs) (h':SqT X.K H a ys):xs = ys:=by
 obtain ⟨its,r,⟨o,e,_,n,d⟩,_⟩:=I.tuple h
 obtain ⟨its',r',⟨o',e',_,n',d'⟩,_⟩:=I.tuple h'
 rw [e] at e'; cases e'
 rw [d] at d'
 injection d' with d1 _
 have:its = its':=by simpa using congrArg Array.toList d1
 subst this
 exact r.inj r'
end
abbrev Cx.wish (X:Cx) (E:Value→Shared→Prop):Cx:={ X with xe:=E }
abbrev Cx.nox (X:Cx):Cx:=X.wish fun _ _ => False
theorem Cx.Ok.wish {X:Cx} (ok:X.Ok) (E:Value→Shared→Prop):(X.wish E).Ok :=
 ⟨ok.mod,ok.kind,ok.glob,ok.blt,ok.above,ok.inj,ok.has,ok.cab,ok.hd,ok.frames,ok.stk,ok.exf,ok.bs,ok.bsz,ok.noex,ok.exfs,ok.funs,ok.frf⟩
theorem Cx.Ok.unwish {X:Cx} {E:Value→Shared→Prop} (ok:(X.wish E).Ok):X.Ok :=
 ⟨ok.mod,ok.kind,ok.glob,ok.blt,ok.above,ok.inj,ok.has,ok.cab,ok.hd,ok.frames,ok.stk,ok.exf,ok.bs,ok.bsz,ok.noex,ok.exfs,ok.funs,ok.frf⟩
section
variable {X:Cx} {pins:List (Addr×Obj)} {σ:St} {H:Hp} {s:Shared} {E:Value→Shared→Prop}
theorem Inv.wish (I:Inv X pins σ H s) (E:Value→Shared→Prop):Inv (X.wish E) pins σ H s:=⟨I.ok.wish E,I.os,I.bare,I.base,I.loc,I.cell,I.free,I.freeC,I.pin,I.hok,I.len⟩
theorem Inv.unwish (I:Inv (X.wish E) pins σ H s):Inv X pins σ H s:=⟨I.ok.unwish,I.os,I.bare,I.base,I.loc,I.cell,I.free,I.freeC,I.pin,I.hok,I.len⟩
theorem SP.unwish {D:Ends} {f:Flow} {s':Shared} (h:SP (X.wish E) pins D f s'):SP X pins D f s':=by
 cases f with
 | next => obtain ⟨σ',H',I,q⟩:=h; exact ⟨σ',H',I.unwish,q⟩
 | brk => obtain ⟨σ',H',I,q⟩:=h; exact ⟨σ',H',I.unwish,q⟩
 | cont => obtain ⟨σ',H',I,q⟩:=h; exact ⟨σ',H',I.unwish,q⟩
 | ret u => obtain ⟨v,σ',H',I,r,q⟩:=h; exact ⟨v,σ',H',I.unwish,r,q⟩
theorem PSs.nox {st:List Stmt} {t:TS} (h:PSs X.nox st t):PSs X st t:=fun pins s σ H D I hw =>
 wpAny_mono (h pins s σ H D (I.wish _) hw) (fun _ _ q => q.unwish) fun _ _ z => False.elim z
end
section
variable {X:Cx} {st:Stmt} {rest:List Stmt} {t u:TS} {e:Expr} {te:TE} {pos:Pos}
def tNext:TS:=fun D σ H => D.nx σ H
def tSeq (t u:TS):TS:=fun D σ H => t { D with nx:=u D } σ H
theorem pss_nil:PSs X [] tNext:=fun _ _ σ H _ I h => wpAny_execs_nil ⟨σ,H,I,h⟩
theorem pss_cons (h1:PS X st t) (h2:PSs X rest u):PSs X (st::rest) (tSeq t u):=by
 intro pins s σ H D I h
 refine wpAny_execs_cons (thn (h1 pins s σ H { D with nx:=u D } I h) fun f s1 q => ?_)
 cases f with
 | next =>
  obtain ⟨σ',H',I',q⟩:=q
  exact h2 pins s1 σ' H' D I' q
 | ret v => exact q
 | brk => exact q
 | cont => exact q
theorem pss_one (h1:PS X st t):PSs X [st] t:=by
 intro pins s σ H D I h
 refine wpAny_execs_cons (thn (h1 pins s σ H D I h) fun f s1 q => ?_)
 cases f with
 | next => exact wpAny_execs_nil q
 | ret v => exact q
 | brk => exact q
 | cont => exact q
theorem Inv.quiet {pins:List (Addr×Obj)} {σ:St} {H:Hp} {s:Shared} (I:Inv X pins σ H s):interactive X.env = false:=by simp [interactive,I.ok.kind]
def tDrop (te:TE):TS:=fun D σ H => te σ H fun _ H1 => D.nx σ H1
theorem ps_expr (he:PE X e te) (hs:swapsWith e none pos.line X.env = pure false:=by rfl):PS X (.Expr e pos) (tDrop te):=by
 intro pins s σ H D I h
 exact wpAny_Expr_any (thn (he pins s σ H _ I h) fun v s1 ⟨x,H1,I1,r1,q1⟩ => ⟨σ,H1,I1,q1⟩) I.quiet hs
def tRet (te:TE):TS:=fun D σ H => te σ H D.rt
theorem ps_ret (he:PE X e te):PS X (.Return (some e) pos) (tRet te):=by
 intro pins s σ H D I h
 exact wpAny_Return_some (thn (he pins s σ H _ I h) fun v s1 ⟨x,H1,I1,r1,q1⟩ => ⟨x,σ,H1,I1,r1,q1⟩)
def tIfS (c:TT) (t u:TS):TS:=fun D σ H => c σ H fun b H1 => if b = true then t D σ H1 else u D σ H1
theorem ps_if {c:Expr} {a b:List Stmt} {tc:TT} (hc:PT X c tc) (ha:PSs X a t) (hb:PSs X b u):PS X (.If c a b pos) (tIfS tc t u):=by
 intro pins s σ H D I h
 refine wpAny_If (thn (hc pins s σ H _ I h) fun d s1 zz => ?_)
 obtain ⟨H1,I1,q1⟩:=zz
 cases d with
 | true => exact ha pins s1 σ H1 D I1 q1
 | false => exact hb pins s1 σ H1 D I1 q1
end
abbrev TG:=V→St→Hp→(St→Hp→Prop)→Prop
abbrev TGs:=List V→St→Hp→(St→Hp→Prop)→Prop
def PG (X:Cx) (target:Expr) (t:TG):Prop :=
 ∀ (pins:List (Addr×Obj)) (s:Shared) (σ:St) (H:Hp) (v:V) (u:Value) (Q:St→Hp→Prop),Inv X pins σ H s→RelV v u→t v σ H Q →
  wpAny (model X.prog X.w) X.A (assign target X.env u) (fun _ s' => ∃ σ' H',Inv X pins σ' H' s'∧Q σ' H') X.xe s
def PGs (X:Cx) (ts:List Expr) (t:TGs):Prop :=
 ∀ (pins:List (Addr×Obj)) (s:Shared) (σ:St) (H:Hp) (vs:List V) (us:List Value) (Q:St→Hp→Prop),Inv X pins σ H s→Vals vs us→t vs σ H Q →
  wpAny (model X.prog X.w) X.A (assignInOrder ((assignEach ts X.env).map (·.2)) us) (fun _ s' => ∃ σ' H',Inv X pins σ' H' s'∧Q σ' H') X.xe s
section
variable {X:Cx} {pos:Pos}
def gName (i:Nat):TG:=fun v σ H Q => Q (σ.set i (some v)) H
theorem pg_name {i:Nat} {x:Str} (hN:X.N.Nodup) (hi:X.N[i]? = some x) (hx:Loc X.env.scope x) (hf:X.fn x = true∨X.env.scope.names.lookup x = some .local:=by first | exact .inl rfl | exact .inr rfl | assumption):PG X (.Name x pos) (gName i):=by
 intro pins s σ H v u Q I r h
 exact wpAny_assign_Name (store_ok I hN hi hx r (fun s' I' => ⟨_,H,I',h⟩) hf)
def gNil:TGs:=fun vs σ H Q => vs = []∧Q σ H
def gCons (t:TG) (u:TGs):TGs:=fun vs σ H Q => ∃ v r,vs = v::r∧t v σ H fun σ' H' => u r σ' H' Q
theorem pgs_nil:PGs X [] gNil:=by
 intro pins s σ H vs us Q I r h
 obtain ⟨e,h⟩:=h
 subst e
 cases r
 exact assignInOrder_nil ⟨σ,H,I,h⟩
theorem pgs_cons {e:Expr} {es:List Expr} {t:TG} {u:TGs} (h1:PG X e t) (h2:PGs X es u)
  (hs:(assignEach (e::es) X.env).map (·.2) = assign e X.env::(assignEach es X.env).map (·.2):=by rfl):PGs X (e::es) (gCons t u):=by
 intro pins s σ H vs us Q I r h
 obtain ⟨v,vr,e1,h⟩:=h
 subst e1
 cases r with
 | cons r rr =>
  rw [hs]
  refine assignInOrder_cons (thn (h1 pins s σ H _ _ _ I r h) fun _ s1 zz => ?_)
  obtain ⟨σ1,H1,I1,q1⟩:=zz
  exact h2 pins s1 σ1 H1 _ _ Q I1 rr q1
def gTup (K:PySem.W.Frag) (n:Nat) (t:TGs):TG:=fun v σ H Q => ∃ a xs,v = .ref a∧SqT K H a xs∧xs.length = n∧t xs σ H Q
theorem pg_tup {es:List Expr} {k:Nat} {t:TGs} {n:Nat} (hc:X.calm = true) (h:PGs X es t)
  (hn:(assignEach es X.env).length = n:=by rfl) (hst:(assignEach es X.env).findIdx? (·.1) = none:=by rfl):PG X (.Tuple es k pos) (gTup X.K n t):=by
 intro pins s σ H v u Q I r hw
 obtain ⟨a,xs,e1,hq,hl,hw⟩:=hw
 subst e1
 cases r
 obtain ⟨its,rv,ht,hz⟩:=I.tuple hq
 refine assign_Tuple_tuple (I.ok.hd hc) ht (by simp [hn,← hl,rv.length]) hst fun h' hx => ?_
 have I1:Inv X pins σ H { s with heap:=h' }:=I.kept (t':=s.toks) fun b o e => hx b o (Nat.ne_of_lt (Heap.lt_size e)) e
 exact h pins _ σ H xs _ Q I1 (by simpa using rv) hw
def tAsg (te:TE) (g:TG):TS:=fun D σ H => te σ H fun x H1 => g x σ H1 D.nx
theorem ps_asg {tg e:Expr} {te:TE} {g:TG} (he:PE X e te) (hg:PG X tg g) (hs:swapsWithSole [tg] e pos.line X.env = pure false:=by rfl) (hw:swappedStores [tg] e X.env = pure none:=by rfl)
  (h1:(assignEach [tg] X.env).map (·.2) = [assign tg X.env]:=by rfl):PS X (.Assign [tg] e pos) (tAsg te g):=by
 intro pins s σ H D I h
 refine wpAny_Assign_stores (thn (he pins s σ H _ I h) fun v s1 zz => ?_) hs hw
 obtain ⟨x,H1,I1,r1,q1⟩:=zz
 rw [h1]
 exact thn (hg pins s1 σ H1 x v _ I1 r1 q1) fun _ s2 q => q
theorem ps_set {i:Nat} {x:Str} {e:Expr} {te:TE} {pos':Pos} (hN:X.N.Nodup) (hi:X.N[i]? = some x) (hx:Loc X.env.scope x) (he:PE X e te) (hs:swapsWith e (some (.Name x pos')) pos.line X.env = pure false:=by rfl) (hf:X.fn x = true∨X.env.scope.names.lookup x = some .local:=by first | exact .inl rfl | exact .inr rfl | assumption) :
  PS X (.Assign [.Name x pos'] e pos) (tAsg te (gName i)):=by
 intro pins s σ H D I h
 refine wpAny_Assign_Name (thn (he pins s σ H _ I h) fun v s1 zz => ?_) hs
 obtain ⟨y,H1,I1,r1,q1⟩:=zz
 exact store_ok I1 hN hi hx r1 (fun s2 I2 => ⟨_,H1,I2,q1⟩) hf
end
section
variable {X:Cx} {pos:Pos}
def tWhile (c:TT) (tb:TS):TS:=fun D σ H => ∃ W:Nat→St→Hp→Prop,(∃ m,W m σ H)∧∀ m σ H,W m σ H →
 c σ H fun b H1 => if b = true then ∃ N:St→Hp→Prop,(∀ σ' H',N σ' H'→∃ m',m' < m∧W m' σ' H')∧tb { D with nx:=N,ct:=N,bk:=D.nx } σ H1 else D.nx σ H1
theorem ps_while {c:Expr} {body:List Stmt} {tc:TT} {tb:TS} (hp:PassesOwn (model X.prog X.w) X.A X.env X.xe) (hc:PT X c tc) (hb:PSs X body tb):PS X (.While c body [] pos) (tWhile tc tb):=by
 intro pins s σ H D I h
 obtain ⟨W,⟨m0,w0⟩,turn⟩:=h
 refine wpAny_While (codeAny_whileLoop (fun n s' => ∃ σ' H',Inv X pins σ' H' s'∧W n σ' H') ?_ m0 ⟨σ,H,I,w0⟩)
 rintro n s1 ⟨σ1,H1,I1,w1⟩
 refine wpAny_passesOwn hp (thn (hc pins s1 σ1 H1 _ I1 (turn n σ1 H1 w1)) fun b s2 zz => ?_)
 obtain ⟨H2,I2,q2⟩:=zz
 cases b with
 | true =>
  obtain ⟨N,hN,q2⟩:=q2
  rw [if_pos rfl]
  refine wpAny_passesOwn hp (thn (hb pins s2 σ1 H2 _ I2 q2) fun f s3 q3 => ?_)
  cases f with
  | next =>
   obtain ⟨σ3,H3,I3,n3⟩:=q3
   obtain ⟨m',hm,w3⟩:=hN σ3 H3 n3
   exact ⟨m',hm,σ3,H3,I3,w3⟩
  | cont =>
   obtain ⟨σ3,H3,I3,n3⟩:=q3
   obtain ⟨m',hm,w3⟩:=hN σ3 H3 n3
   exact ⟨m',hm,σ3,H3,I3,w3⟩
  | brk => exact q3
  | ret v => exact q3
 | false =>
  rw [if_neg Bool.false_ne_true]
  exact wpAny_execs_nil ⟨σ1,H2,I2,q2⟩
end
structure It where
 go:Nat→Hp→Prop
 yld:Nat→Hp→V→Hp→Prop
 stop:Nat→Hp→Prop
def FpOk (X:Cx) (pins:List (Addr×Obj)) (H:Hp) (b:Addr):Prop :=
 H b = none∧b≠X.env.locals∧b∉X.fs∧(b∈X.ex∨X.s₀.heap.objs.size≤b)∧(∀ x c,X.env.cells.lookup x = some c→c≠b)∧∀ p∈X.pn++pins,p.1≠b
theorem Inv.fpOk {X:Cx} {pins:List (Addr×Obj)} {σ:St} {H H':Hp} {s:Shared} {b:Addr} (I:Inv X pins σ H s) (hb:s.heap.objs.size≤b) (hn:H' b = none):FpOk X pins H' b:=by
 refine ⟨hn,Nat.ne_of_gt (Nat.lt_of_lt_of_le I.lt hb),I.nofs hb,.inr (Nat.le_trans I.sz hb),fun x c e z => ?_,fun p hp z => ?_⟩
 ·obtain ⟨v,q⟩:=I.cell x c e
  exact absurd (Nat.lt_of_lt_of_le q.lt (by rw [z]; exact hb)) (Nat.lt_irrefl _)
 ·exact absurd (Nat.lt_of_lt_of_le (Heap.lt_size (I.pin p hp).1) (by rw [z]; exact hb)) (Nat.lt_irrefl _)
structure Turn (P:Program) (w:World) (K:PySem.W.Frag) (tg:Expr) (J:It) (fp:List Addr) (it:Addr) (tn:Nat→Heap→Prop):Prop where
 mem:it∈fp
 obj:∀ i h,tn i h→∀ b∈fp,∃ o,h.get? b = some o∧∀ v,o.data≠.cell v
 keep:∀ i h h',tn i h→(∀ b∈fp,∀ o,h.get? b = some o→h'.get? b = some o)→tn i h'
 item:∀ (X:Cx),X.prog = P→X.w = w→X.K = K→X.calm = true→∀ (i:Nat) (pins:List (Addr×Obj)) (s:Shared) (σ:St) (H:Hp) (E:Value→Shared→Prop),Inv X pins σ H s→(∀ b∈fp,FpOk X pins H b)→tn i s.heap→J.go i H →
  wpAny (model P w) X.A (pyNext (.ref it)) (fun r s1 => ∃ u,r = some u ∧
   wpAny (model P w) X.A (letOwnedTupleGo tg (.ref it) u) (fun _ s2 => ∃ x H',Inv X pins σ H' s2∧RelV x u∧J.yld i H x H'∧tn (i + 1) s2.heap∧∀ b∈fp,H' b = none) E s1) E s
 done:∀ (X:Cx),X.prog = P→X.w = w→X.K = K→X.calm = true→∀ (i:Nat) (pins:List (Addr×Obj)) (s:Shared) (σ:St) (H:Hp) (E:Value→Shared→Prop),Inv X pins σ H s→(∀ b∈fp,FpOk X pins H b)→tn i s.heap→J.stop i H →
  wpAny (model P w) X.A (pyNext (.ref it)) (fun r s1 => r = none∧Inv X pins σ H s1) E s
 self:∀ (A:Around) (i:Nat) (s:Shared) (Q:Value→Shared→Prop) (E:Value→Shared→Prop),tn i s.heap→Q (.ref it) s→wpAny (model P w) A (pyIter (.ref it)) Q E s
abbrev TI:=St→Hp→(It→Hp→Prop)→Prop
def PIE (X:Cx) (pins:List (Addr×Obj)) (σ:St) (tg:Expr) (R:It→Hp→Prop) (itv:Value) (s2:Shared):Prop :=
 ∃ (it:Addr) (fp:List Addr) (tn:Nat→Heap→Prop) (J:It) (H':Hp),itv = .ref it∧Inv X pins σ H' s2∧Turn X.prog X.w X.K tg J fp it tn∧tn 0 s2.heap∧(∀ b∈fp,FpOk X pins H' b)∧R J H'
def PI (X:Cx) (tg iter:Expr) (wi:TI):Prop :=
 ∀ (pins:List (Addr×Obj)) (s:Shared) (σ:St) (H:Hp) (R:It→Hp→Prop),Inv X pins σ H s→wi σ H R →
  wpAny (model X.prog X.w) X.A (eval iter X.env) (fun v s1 => wpAny (model X.prog X.w) X.A (pyIter v) (PIE X pins σ tg R) X.xe s1) X.xe s
theorem go_of {M:Model} {A:Around} {E:Value→Shared→Prop} {s:Shared} {tg:Expr} {it:Addr} {u:Value} {o:Obj} {n:String} {vs:Array Value} {Q:Unit→Shared→Prop} (ho:s.heap.get? it = some o) (hc:o.cls = .type n) (hd:o.data = .fields vs)
  (hn:["enumerate", "zip", "dict_itemiterator", "dict_reverseitemiterator", "odict_iterator", "itertools.zip_longest", "itertools.pairwise"].contains n = false) (hQ:Q () s):wpAny M A (letOwnedTupleGo tg (.ref it) u) Q E s:=by
 unfold letOwnedTupleGo
 cases tg <;> first
  | exact wpAny_pure hQ
  | (cases u <;> first
    | exact wpAny_pure hQ
    | (refine wpAny_bind (wpAny_load ho ?_)
       rw [hc,hd]
       show wpAny M A (if (["enumerate", "zip", "dict_itemiterator", "dict_reverseitemiterator", "odict_iterator", "itertools.zip_longest", "itertools.pairwise"].contains n && vs[0]? == some (rawInt _)) = true then _ else _) Q E s
       rw [if_neg (by intro h; rw [hn,Bool.false_and] at h; cases h)]
       exact wpAny_pure hQ))
def Itl (K:PySem.W.Frag) (a:Addr):It :=
 ⟨fun i H => ∃ xs x,SqL K H a xs∧xs[i]? = some x,fun i H x H' => H' = H∧∀ xs,SqL K H a xs→xs[i]? = some x,fun i H => ∃ xs,SqL K H a xs∧xs.length≤i⟩
def Itt (K:PySem.W.Frag) (a:Addr):It :=
 ⟨fun i H => ∃ xs x,SqT K H a xs∧xs[i]? = some x,fun i H x H' => H' = H∧∀ xs,SqT K H a xs→xs[i]? = some x,fun i H => ∃ xs,SqT K H a xs∧xs.length≤i⟩
def Itr (lo:Int) (n:Nat):It:=⟨fun i _ => i < n,fun i H x H' => H' = H∧x = .int (lo + i),fun i _ => n≤i⟩
theorem turn_list {P:Program} {w:World} {K:PySem.W.Frag} {tg:Expr} (a it:Addr):Turn P w K tg (Itl K a) [it] it (fun i h => h.IsListIter it a i) where
 mem:=by simp
 obj:=fun i h st b hb => by
  have e:b = it:=by simpa using hb
  subst e
  obtain ⟨o,e,c,d⟩:=st
  exact ⟨o,e,fun v z => by rw [d] at z; cases z⟩
 keep:=fun i h h' st k => st.at fun o e => k it (by simp) o e
 item:=by
  intro X hP hw hK hc i pins s σ H E I hf st hg
  subst hP hw hK
  obtain ⟨xs,x,hq,hx⟩:=hg
  obtain ⟨its,rv,p,hz⟩:=I.list hq
  obtain ⟨u,hu,ru⟩:=rv.get hx
  obtain ⟨f0,f1,f2,f3,f4,f5⟩:=hf it (by simp)
  refine wpAny_pyNext_list_item st p.isList (x:=u) (by simpa using hu) fun h' st' sb => ?_
  have I1:Inv X pins σ H { s with heap:=h' }:=I.turned (t':=s.toks) (fun b o hb e => (sb.2 b hb).trans e) f0 f1 f3 f4 f5
  obtain ⟨o,e,c,d⟩:=id st'
  exact ⟨u,rfl,go_of (s:={ s with heap:=h' }) e c d (by decide) ⟨x,H,I1,ru,⟨rfl,fun ys hy => by rw [I.list_inj hy hq]; exact hx⟩,st',fun b hb => (hf b hb).1⟩⟩
 done:=by
  intro X hP hw hK hc i pins s σ H E I hf st hg
  subst hP hw hK
  obtain ⟨xs,hq,hx⟩:=hg
  obtain ⟨its,rv,p,hz⟩:=I.list hq
  obtain ⟨f0,f1,f2,f3,f4,f5⟩:=hf it (by simp)
  have hl:=rv.length
  exact wpAny_pyNext_list_end (I.ok.hd hc) st p.isList (by simp; omega) fun h' eb => ⟨rfl,I.turned (t':=s.toks) (fun b o hb e => eb b o hb e) f0 f1 f3 f4 f5⟩
 self:=fun _ _ _ _ _ st h => wpAny_pyIter_listiter st h
theorem turn_tuple {P:Program} {w:World} {K:PySem.W.Frag} {tg:Expr} (a it:Addr):Turn P w K tg (Itt K a) [it] it (fun i h => h.IsTupleIter it a i) where
 mem:=by simp
 obj:=fun i h st b hb => by
  have e:b = it:=by simpa using hb
  subst e
  obtain ⟨o,e,c,d⟩:=st
  exact ⟨o,e,fun v z => by rw [d] at z; cases z⟩
 keep:=fun i h h' st k => st.at fun o e => k it (by simp) o e
 item:=by
  intro X hP hw hK hc i pins s σ H E I hf st hg
  subst hP hw hK
  obtain ⟨xs,x,hq,hx⟩:=hg
  obtain ⟨its,rv,p,hz⟩:=I.tuple hq
  obtain ⟨u,hu,ru⟩:=rv.get hx
  obtain ⟨f0,f1,f2,f3,f4,f5⟩:=hf it (by simp)
  refine wpAny_pyNext_tuple_item st (show s.heap.IsTuple a its.toArray from p) (x:=u) (by simpa using hu) fun h' st' sb => ?_
  have I1:Inv X pins σ H { s with heap:=h' }:=I.turned (t':=s.toks) (fun b o hb e => (sb.2 b hb).trans e) f0 f1 f3 f4 f5
  obtain ⟨o,e,c,d⟩:=id st'
  exact ⟨u,rfl,go_of (s:={ s with heap:=h' }) e c d (by decide) ⟨x,H,I1,ru,⟨rfl,fun ys hy => by rw [I.tuple_inj hy hq]; exact hx⟩,st',fun b hb => (hf b hb).1⟩⟩
 done:=by
  intro X hP hw hK hc i pins s σ H E I hf st hg
  subst hP hw hK
  obtain ⟨xs,hq,hx⟩:=hg
  obtain ⟨its,rv,p,hz⟩:=I.tuple hq
  obtain ⟨f0,f1,f2,f3,f4,f5⟩:=hf it (by simp)
  have hl:=rv.length
  exact wpAny_pyNext_tuple_end (I.ok.hd hc) st (show s.heap.IsTuple a its.toArray from p) (by simp; omega) fun h' eb => ⟨rfl,I.turned (t':=s.toks) (fun b o hb e => eb b o hb e) f0 f1 f3 f4 f5⟩
 self:=fun _ _ _ _ _ st h => wpAny_pyIter_tupleiter st h
theorem turn_range {P:Program} {w:World} {K:PySem.W.Frag} {tg:Expr} (it:Addr) (lo:Int) (n:Nat):Turn P w K tg (Itr lo n) [it] it (fun i h => IsRangeIter h it (lo + (i:Nat) * 1) ((n:Int) - (i:Nat)) 1) where
 mem:=by simp
 obj:=fun i h st b hb => by
  have e:b = it:=by simpa using hb
  subst e
  exact ⟨_,st,fun v z => by
   have z':Data.fields _ = Data.cell v:=z
   cases z'⟩
 keep:=fun i h h' st k => k it (by simp) _ st
 item:=by
  intro X hP hw hK hc i pins s σ H E I hf st hg
  subst hP hw hK
  obtain ⟨f0,f1,f2,f3,f4,f5⟩:=hf it (by simp)
  have W:=Walks.range (prog:=X.prog) (w:=X.w) (I.ok.hd hc) it lo 1 n
  refine W.item i s _ _ hg st fun v h' tk hv st' kk => ?_
  obtain ⟨t,rfl⟩:=hv
  have I1:Inv X pins σ H { s with heap:=h',toks:=tk }:=I.turned (fun b o hb e => kk b o (by simpa using hb) e) f0 f1 f3 f4 f5
  refine ⟨_,rfl,go_of (s:={ s with heap:=h',toks:=tk }) (n := "range_iterator") st' rfl rfl (by decide) ⟨.int (lo + i),H,I1,⟨t,?_⟩,⟨rfl,rfl⟩,st',fun b hb => (hf b hb).1⟩⟩
  rw [Int.mul_one]
 done:=by
  intro X hP hw hK hc i pins s σ H E I hf st hg
  subst hP hw hK
  obtain ⟨f0,f1,f2,f3,f4,f5⟩:=hf it (by simp)
  exact wpAny_pyNext_range_end (I.ok.hd hc) st (by have:n≤i:=hg; omega) fun h' eb => ⟨rfl,I.turned (t':=s.toks) (fun b o hb e => eb b o hb e) f0 f1 f3 f4 f5⟩
 self:=fun _ _ _ _ _ st h => wpAny_pyIter_rangeiter st h
section
variable {X:Cx} {tg:Expr}
def iList (K:PySem.W.Frag) (tl:TE):TI:=fun σ H R => tl σ H fun x H1 => ∃ a,x = .ref a∧(∃ xs,SqL K H1 a xs)∧R (Itl K a) H1
def iTup (K:PySem.W.Frag) (tl:TE):TI:=fun σ H R => tl σ H fun x H1 => ∃ a,x = .ref a∧(∃ xs,SqT K H1 a xs)∧R (Itt K a) H1
theorem pi_list {l:Expr} {tl:TE} (hl:PE X l tl):PI X tg l (iList X.K tl):=by
 intro pins s σ H R I h
 refine thn (hl pins s σ H _ I h) fun v s1 zz => ?_
 obtain ⟨x,H1,I1,r1,q1⟩:=zz
 obtain ⟨a,e,⟨xs,hq⟩,q⟩:=q1
 subst e
 cases r1
 obtain ⟨its,rv,p,hz⟩:=I1.list hq
 refine wpAny_pyIter_list p.isList ?_
 refine ⟨s1.heap.objs.size,[s1.heap.objs.size],_,_,H1,rfl,I1.kept (t':=s1.toks) fun b o e => Heap.get?_push_of_some _ e,turn_list a _,⟨_,Heap.get?_push_size _ rfl,rfl,rfl⟩,fun b hb => ?_,q⟩
 have e:b = s1.heap.objs.size:=by simpa using hb
 subst e
 exact I1.fpOk (Nat.le_refl _) (I1.hok.fresh (Nat.le_refl _))
theorem pi_tup {l:Expr} {tl:TE} (hl:PE X l tl):PI X tg l (iTup X.K tl):=by
 intro pins s σ H R I h
 refine thn (hl pins s σ H _ I h) fun v s1 zz => ?_
 obtain ⟨x,H1,I1,r1,q1⟩:=zz
 obtain ⟨a,e,⟨xs,hq⟩,q⟩:=q1
 subst e
 cases r1
 obtain ⟨its,rv,p,hz⟩:=I1.tuple hq
 refine wpAny_pyIter_tuple (show s1.heap.IsTuple a its.toArray from p) ?_
 refine ⟨s1.heap.objs.size,[s1.heap.objs.size],_,_,H1,rfl,I1.kept (t':=s1.toks) fun b o e => Heap.get?_push_of_some _ e,turn_tuple a _,⟨_,Heap.get?_push_size _ rfl,rfl,rfl⟩,fun b hb => ?_,q⟩
 have e:b = s1.heap.objs.size:=by simpa using hb
 subst e
 exact I1.fpOk (Nat.le_refl _) (I1.hok.fresh (Nat.le_refl _))
def tFor (wi:TI) (g:TG) (tb:TS):TS:=fun D σ H => wi σ H fun J H1 => ∃ W:Nat→Nat→St→Hp→Prop,(∃ m,W 0 m σ H1)∧∀ i m σ H,W i m σ H →
 (J.stop i H∧D.nx σ H)∨(J.go i H∧∃ N:St→Hp→Prop,(∀ σ' H',N σ' H'→∃ m',m' < m∧W (i + 1) m' σ' H')∧∀ x H',J.yld i H x H'→g x σ H' fun σ2 H2 => tb { D with nx:=N,ct:=N,bk:=D.nx } σ2 H2)
def pinsAt (fp:List Addr) (h:Heap):List (Addr×Obj):=fp.filterMap fun b => (h.get? b).map fun o => (b,o)
theorem mem_pinsAt {fp:List Addr} {h:Heap} {b:Addr} {o:Obj} (hb:b∈fp) (e:h.get? b = some o):(b,o)∈pinsAt fp h:=List.mem_filterMap.mpr ⟨b,hb,by rw [e]; rfl⟩
theorem of_pinsAt {fp:List Addr} {h:Heap} {p:Addr×Obj} (hp:p∈pinsAt fp h):p.1∈fp∧h.get? p.1 = some p.2:=by
 obtain ⟨b,hb,e⟩:=List.mem_filterMap.mp hp
 cases q:h.get? b with
 | none => rw [q] at e; cases e
 | some o =>
  rw [q] at e
  have e':(b,o) = p:=Option.some.inj e
  subst e'
  exact ⟨hb,q⟩
theorem Inv.pinned {pins:List (Addr×Obj)} {σ:St} {H:Hp} {s:Shared} {fp:List Addr} (I:Inv X pins σ H s) (hf:∀ b∈fp,FpOk X pins H b) (ho:∀ b∈fp,∃ o,s.heap.get? b = some o∧∀ v,o.data≠.cell v):Inv X (pins++pinsAt fp s.heap) σ H s :=
 I.pins_of fun p hp => (List.mem_append.mp hp).elim (fun z => I.pin p (List.mem_append_right _ z)) fun z => by
  obtain ⟨hb,e⟩:=of_pinsAt z
  obtain ⟨f0,f1,f2,_⟩:=hf p.1 hb
  obtain ⟨o,e',d⟩:=ho p.1 hb
  rw [e] at e'; cases e'
  exact ⟨e,f0,f1,f2,d⟩
theorem Inv.unpinned {pins pl:List (Addr×Obj)} {σ:St} {H:Hp} {s:Shared} (I:Inv X (pins++pl) σ H s):Inv X pins σ H s:=I.pins_of fun p hp => I.pin p (List.mem_append_right _ (List.mem_append_left _ hp))
theorem ps_for {iter:Expr} {body:List Stmt} {wi:TI} {g:TG} {tb:TS} {pos:Pos} (hp:PassesOwn (model X.prog X.w) X.A X.env X.xe) (hc:X.calm = true) (hi:PI X tg iter wi) (hg:PG X tg g) (hb:PSs X body tb)
  (hs:∀ x,foldedSetIterable iter X.env x = pure x:=by intro _; rfl):PS X (.For tg iter body [] pos) (tFor wi g tb):=by
 intro pins s σ H D I h
 refine wpAny_For (thn (hi pins s σ H _ I h) fun v s1 h1 => thn h1 fun itv s2 h2 => ?_) hs
 obtain ⟨it,fp,tn,J,H2,e,I2,T,st2,f2,W,⟨m0,w0⟩,turn⟩:=h2
 subst e
 have stat:∀ {H':Hp},(∀ b∈fp,H' b = none)→∀ b∈fp,FpOk X pins H' b:=fun hn b hb => ⟨hn b hb,(f2 b hb).2⟩
 refine codeAny_forLoop_any (fun n s' => ∃ i σ' H',Inv X pins σ' H' s'∧tn i s'.heap∧(∀ b∈fp,H' b = none)∧W i n σ' H') ?_ m0 ⟨0,σ,H2,I2,st2,fun b hb => (f2 b hb).1,w0⟩
 rintro n s3 ⟨i,σ3,H3,I3,st3,fr3,w3⟩
 rcases turn i n σ3 H3 w3 with ⟨stop,qn⟩ | ⟨go,N,hN,step⟩
 ·refine wpAny_passesOwn hp (thn (T.done X rfl rfl rfl hc i pins s3 σ3 H3 X.xe I3 (stat fr3) st3 stop) fun r s4 zz => ?_)
  obtain ⟨hr,I4⟩:=zz
  subst hr
  exact wpAny_execs_nil ⟨σ3,H3,I4,qn⟩
 ·refine wpAny_passesOwn hp (thn (T.item X rfl rfl rfl hc i pins s3 σ3 H3 X.xe I3 (stat fr3) st3 go) fun r s4 zz => ?_)
  obtain ⟨u,hr,h4⟩:=zz
  subst hr
  refine wpAny_passesOwn hp (thn h4 fun _ s5 zz => ?_)
  obtain ⟨x,H5,I5,r5,y5,st5,fr5⟩:=zz
  have I5':=I5.pinned (stat fr5) (T.obj _ _ st5)
  refine wpAny_passesOwn hp (thn (hg _ s5 σ3 H5 x u _ I5' r5 (step x H5 y5)) fun _ s6 zz => ?_)
  obtain ⟨σ6,H6,I6,q6⟩:=zz
  refine wpAny_passesOwn hp (thn (hb _ s6 σ6 H6 _ I6 q6) fun f s7 q7 => ?_)
  have again:∀ {σ7:St} {H7:Hp},Inv X (pins++pinsAt fp s5.heap) σ7 H7 s7→N σ7 H7→∃ m,m < n∧∃ i σ' H',Inv X pins σ' H' s7∧tn i s7.heap∧(∀ b∈fp,H' b = none)∧W i m σ' H':=fun {σ7 H7} I7 n7 => by
   obtain ⟨m',hm,w7⟩:=hN σ7 H7 n7
   refine ⟨m',hm,i + 1,σ7,H7,I7.unpinned,T.keep _ _ _ st5 fun b hb o e => (I7.pin (b,o) (List.mem_append_right _ (List.mem_append_right _ (mem_pinsAt hb e)))).1,fun b hb => ?_,w7⟩
   obtain ⟨o,e,d⟩:=T.obj _ _ st5 b hb
   exact (I7.pin (b,o) (List.mem_append_right _ (List.mem_append_right _ (mem_pinsAt hb e)))).2.1
  cases f with
  | next => obtain ⟨σ7,H7,I7,n7⟩:=q7; exact again I7 n7
  | cont => obtain ⟨σ7,H7,I7,n7⟩:=q7; exact again I7 n7
  | brk => obtain ⟨σ7,H7,I7,q7⟩:=q7; exact ⟨σ7,H7,I7.unpinned,q7⟩
  | ret v => obtain ⟨x7,σ7,H7,I7,r7,q7⟩:=q7; exact ⟨x7,σ7,H7,I7.unpinned,r7,q7⟩
end
abbrev R2:=V→V→Hp→VK→Prop
def OpR (X:Cx) (f:Value→Value→Sem Value) (r:R2):Prop :=
 ∀ (pins:List (Addr×Obj)) (s:Shared) (σ:St) (H:Hp) (x y:V) (v u:Value) (Q:VK),Inv X pins σ H s→RelV x v→RelV y u→r x y H Q →
  wpAny (model X.prog X.w) X.A (f v u) (EP X pins σ Q) X.xe s
def UnR (X:Cx) (f:Value→Sem Value) (r:V→Hp→VK→Prop):Prop :=
 ∀ (pins:List (Addr×Obj)) (s:Shared) (σ:St) (H:Hp) (x:V) (v:Value) (Q:VK),Inv X pins σ H s→RelV x v→r x H Q →
  wpAny (model X.prog X.w) X.A (f v) (EP X pins σ Q) X.xe s
def CallR (X:Cx) (f:Value) (r:List V→Hp→VK→Prop):Prop :=
 ∀ (pins:List (Addr×Obj)) (s:Shared) (σ:St) (H:Hp) (xs:List V) (us:List Value) (Q:VK),Inv X pins σ H s→Vals xs us→r xs H Q →
  wpAny (model X.prog X.w) X.A (call f us) (EP X pins σ Q) X.xe s
def tOp (r:R2) (ta tb:TE):TE:=fun σ H Q => ta σ H fun x H1 => tb σ H1 fun y H2 => r x y H2 Q
def tUn (r:V→Hp→VK→Prop) (ta:TE):TE:=fun σ H Q => ta σ H fun x H1 => r x H1 Q
def rI (C:Int→Int→Prop) (g:Int→Int→V):R2:=fun x y H Q => ∃ i j,x = .int i∧y = .int j∧C i j∧Q (g i j) H
def rI0 (g:Int→Int→V):R2:=fun x y H Q => ∃ i j,x = .int i∧y = .int j∧Q (g i j) H
def rU (g:Int→V):V→Hp→VK→Prop:=fun x H Q => ∃ i,x = .int i∧Q (g i) H
section
variable {X:Cx} {a b c:Expr} {ta tb tc:TE} {pos:Pos}
theorem binT (ha:PE X a ta) (hb:PE X b tb) {pins:List (Addr×Obj)} {s:Shared} {σ:St} {H:Hp} {R:V→V→Hp→Prop} (I:Inv X pins σ H s)
  (h:ta σ H fun x H1 => tb σ H1 fun y H2 => R x y H2) {Q:Value→Shared→Prop} {f:Value→Value→Sem Value}
  (hf:∀ v u s2 x y H2,Inv X pins σ H2 s2→RelV x v→RelV y u→R x y H2→wpAny (model X.prog X.w) X.A (f v u) Q X.xe s2) :
  wpAny (model X.prog X.w) X.A (eval a X.env) (fun v s₁ => wpAny (model X.prog X.w) X.A (eval b X.env) (fun u s₂ => wpAny (model X.prog X.w) X.A (f v u) Q X.xe s₂) X.xe s₁) X.xe s:=by
 refine thn (ha pins s σ H _ I h) fun v s1 zz => ?_
 obtain ⟨x,H1,I1,r1,q1⟩:=zz
 refine thn (hb pins s1 σ H1 _ I1 q1) fun u s2 zz => ?_
 obtain ⟨y,H2,I2,r2,q2⟩:=zz
 exact hf v u s2 x y H2 I2 r1 r2 q2
theorem pe_op {op:Operator} {r:R2} (ho:OpR X (binaryOp op) r) (ha:PE X a ta) (hb:PE X b tb):PE X (.BinOp a op b pos) (tOp r ta tb):=by
 intro pins s σ H Q I h
 exact wpAny_BinOp (binT ha hb I h fun v u s2 x y H2 I2 rx ry q => ho pins s2 σ H2 x y v u Q I2 rx ry q)
theorem pe_un {op:UnaryOp} {r:V→Hp→VK→Prop} (ho:UnR X (unaryOp op) r) (ha:PE X a ta):PE X (.UnaryOp op a pos) (tUn r ta):=by
 intro pins s σ H Q I h
 exact UnaryOp_ (thn (ha pins s σ H _ I h) fun v s1 ⟨x,H1,I1,r1,q1⟩ => ho pins s1 σ H1 x v Q I1 r1 q1)
theorem opI {f:Value→Value→Sem Value} {C:Int→Int→Prop} {g:Int→Int→Int}
  (rule:∀ (i j:Int) (t u:Tok) (s:Shared) (Q:Value→Shared→Prop) (E:Value→Shared→Prop),C i j→Q (.int (g i j) s.toks) { s with toks:=s.toks + 1 }→wpAny (model X.prog X.w) X.A (f (.int i t) (.int j u)) Q E s) :
  OpR X f (rI C fun i j => .int (g i j)):=by
 intro pins s σ H x y v u Q I rx ry h
 obtain ⟨i,j,rfl,rfl,hc,q⟩:=h
 obtain ⟨t,rfl⟩:=rx
 obtain ⟨t',rfl⟩:=ry
 exact rule i j t t' s _ _ hc ⟨.int (g i j),H,I.tok _,⟨_,rfl⟩,q⟩
theorem opI0 {f:Value→Value→Sem Value} {g:Int→Int→Int}
  (rule:∀ (i j:Int) (t u:Tok) (s:Shared) (Q:Value→Shared→Prop) (E:Value→Shared→Prop),Q (.int (g i j) s.toks) { s with toks:=s.toks + 1 }→wpAny (model X.prog X.w) X.A (f (.int i t) (.int j u)) Q E s) :
  OpR X f (rI0 fun i j => .int (g i j)):=by
 intro pins s σ H x y v u Q I rx ry h
 obtain ⟨i,j,rfl,rfl,q⟩:=h
 obtain ⟨t,rfl⟩:=rx
 obtain ⟨t',rfl⟩:=ry
 exact rule i j t t' s _ _ ⟨.int (g i j),H,I.tok _,⟨_,rfl⟩,q⟩
theorem opB0 {f:Value→Value→Sem Value} {g:Int→Int→Bool}
  (rule:∀ (i j:Int) (t u:Tok) (s:Shared) (Q:Value→Shared→Prop) (E:Value→Shared→Prop),Q (.bool (g i j)) s→wpAny (model X.prog X.w) X.A (f (.int i t) (.int j u)) Q E s) :
  OpR X f (rI0 fun i j => .bl (g i j)):=by
 intro pins s σ H x y v u Q I rx ry h
 obtain ⟨i,j,rfl,rfl,q⟩:=h
 obtain ⟨t,rfl⟩:=rx
 obtain ⟨t',rfl⟩:=ry
 exact rule i j t t' s _ _ ⟨.bl (g i j),H,I,rfl,q⟩
def CMul (i j:Int):Prop:=(-(2 ^ 64) < i∧i < 2 ^ 64)∨(-(2 ^ 64) < j∧j < 2 ^ 64)
theorem CMul.ok {i j:Int} (h:CMul i j):IntMulOk i j:=by
 rcases h with ⟨h1,h2⟩ | ⟨h1,h2⟩
 ·exact .of_left (intBits_le_64 h1 h2)
 ·exact .of_right (intBits_le_64 h1 h2)
theorem op_add:OpR X (binaryOp .Add) (rI0 fun i j => .int (i + j)):=opI0 fun _ _ _ _ _ _ _ q => add_int q
theorem op_sub:OpR X (binaryOp .Sub) (rI0 fun i j => .int (i - j)):=opI0 fun _ _ _ _ _ _ _ q => sub_int q
theorem op_mod:OpR X (binaryOp .Mod) (rI (fun _ j => 0 < j) fun i j => .int (i % j)):=opI fun i j _ _ _ _ _ hc q => by
 have h1:(0:Int) < j:=hc
 exact mod_int' (by omega) (by rw [Int.fmod_eq_emod_of_nonneg i (by omega)]; exact q)
theorem op_modN:OpR X (binaryOp .Mod) (rI (fun _ j => j≠0) fun i j => .int (i.fmod j)):=opI fun _ _ _ _ _ _ _ hc q => mod_int' hc q
theorem unI {f:Value→Sem Value} {g:Int→Int}
  (rule:∀ (i:Int) (t:Tok) (s:Shared) (Q:Value→Shared→Prop) (E:Value→Shared→Prop),Q (.int (g i) s.toks) { s with toks:=s.toks + 1 }→wpAny (model X.prog X.w) X.A (f (.int i t)) Q E s) :
  UnR X f (rU fun i => .int (g i)):=by
 intro pins s σ H x v Q I rx h
 obtain ⟨i,rfl,q⟩:=h
 obtain ⟨t,rfl⟩:=rx
 exact rule i t s _ _ ⟨.int (g i),H,I.tok _,⟨_,rfl⟩,q⟩
theorem un_neg:UnR X (unaryOp .USub) (rU fun i => .int (-i)):=unI fun _ _ _ _ _ q => neg_int q
end
section
variable {X:Cx} {a b c:Expr} {ta tb tc:TE} {pos:Pos}
theorem op_lt:OpR X (compareOp .Lt) (rI0 fun i j => .bl (decide (i < j))):=opB0 fun _ _ _ _ _ _ _ q => lt_int q
theorem op_le:OpR X (compareOp .LtE) (rI0 fun i j => .bl (decide (i≤j))):=opB0 fun _ _ _ _ _ _ _ q => le_int q
theorem op_gt:OpR X (compareOp .Gt) (rI0 fun i j => .bl (decide (j < i))):=opB0 fun _ _ _ _ _ _ _ q => gt_int q
theorem nomark (b:Expr) {op:CmpOp} (h:op≠.In:=by decide) (h2:op≠.NotIn:=by decide):behindInMarks op b = false:=by
 have e1:(op == CmpOp.In) = false:=by cases op <;> first | rfl | exact absurd rfl h
 have e2:(op == CmpOp.NotIn) = false:=by cases op <;> first | rfl | exact absurd rfl h2
 cases b <;> simp [behindInMarks,e1,e2]
theorem pe_cmpR {op:CmpOp} {r:R2} (ho:OpR X (compareOp op) r) (ha:PE X a ta) (hb:PE X b tb) (hm:behindInMarks op b = false):PE X (.Compare a [op] [b] pos) (tOp r ta tb):=by
 intro pins s σ H Q I h
 exact wpAny_Compare1 (binT ha hb I h fun v u s2 x y H2 I2 rx ry q => ho pins s2 σ H2 x y v u Q I2 rx ry q) hm
def tTest (t:TE):TT:=fun σ H Q => t σ H fun x H' => ∃ k,x = .bl k∧Q k H'
theorem pt_cmpR {op:CmpOp} {r:R2} (ho:OpR X (compareOp op) r) (ha:PE X a ta) (hb:PE X b tb) (hm:behindInMarks op b = false):PT X (.Compare a [op] [b] pos) (tTest (tOp r ta tb)):=by
 intro pins s σ H Q I h
 refine wpAny_isTrue_Compare1 (thn (ha pins s σ H _ I h) fun v s1 ⟨x,H1,I1,r1,q1⟩ => thn (hb pins s1 σ H1 _ I1 q1) fun u s2 ⟨y,H2,I2,r2,q2⟩ =>
  thn (ho pins s2 σ H2 x y v u _ I2 r1 r2 q2) fun c s3 ⟨z,H3,I3,r3,k,e,q3⟩ => ?_) hm
 subst e
 cases r3
 exact wpAny_truthy_bool ⟨H3,I3,q3⟩
def tChain (r r':R2) (ta tb tc:TE):TE:=fun σ H Q => ta σ H fun x H1 => tb σ H1 fun y H2 => r x y H2 fun z H3 => ∃ k,z = .bl k ∧
 (if k = true then tc σ H3 fun w' H4 => r' y w' H4 Q else Q (.bl false) H3)
theorem pe_chain {op op':CmpOp} {r r':R2} (ho:OpR X (compareOp op) r) (ho':OpR X (compareOp op') r') (ha:PE X a ta) (hb:PE X b tb) (hc:PE X c tc)
  (hm:lastMarks [op,op'] [b,c] = false:=by with_unfolding_all rfl):PE X (.Compare a [op,op'] [b,c] pos) (tChain r r' ta tb tc):=by
 intro pins s σ H Q I h
 refine Compare_chain (thn (ha pins s σ H _ I h) fun v s1 ⟨x,H1,I1,r1,q1⟩ => chain_link (thn (hb pins s1 σ H1 _ I1 q1) fun u s2 ⟨y,H2,I2,r2,q2⟩ =>
  thn (ho pins s2 σ H2 x y v u _ I2 r1 r2 q2) fun d s3 ⟨z,H3,I3,r3,k,e,q3⟩ => ?_)) hm
 subst e
 cases r3
 refine wpAny_truthy_bool ?_
 cases k with
 | false => exact ite_ff ⟨.bl false,H3,I3,rfl,q3⟩
 | true => exact ite_tt (chain_last (thn (hc pins s3 σ H3 _ I3 q3) fun w' s4 ⟨z',H4,I4,r4,q4⟩ => ho' pins s4 σ H4 y z' u w' Q I4 r2 r4 q4))
theorem line63:(sizeLine:Nat) < 2 ^ 63:=by rw [sizeLine_eq]; decide
theorem op_add_str:OpR X (binaryOp .Add) (fun x y H Q => ∃ i j,x = .str i∧y = .str j∧i.length + j.length≤sizeLine∧Q (.str (i++j)) H):=by
 intro pins s σ H x y v u Q I rx ry h
 obtain ⟨i,j,rfl,rfl,hz,q⟩:=h
 obtain ⟨t,rfl⟩:=rx
 obtain ⟨t',rfl⟩:=ry
 exact add_str (fun t' tk => ⟨.str (i++j),H,I.tok _,⟨_,rfl⟩,q⟩) hz
theorem vals1 {x:V} {us:List Value} (r:Vals [x] us):∃ u,us = [u]∧RelV x u:=by
 cases r with
 | cons r1 r2 => cases r2; exact ⟨_,rfl,r1⟩
theorem vals2 {x y:V} {us:List Value} (r:Vals [x,y] us):∃ u w',us = [u,w']∧RelV x u∧RelV y w':=by
 cases r with
 | cons r1 r2 =>
  cases r2 with
  | cons r3 r4 => cases r4; exact ⟨_,_,rfl,r1,r3⟩
theorem call_abs:CallR X (.builtin "abs") (fun xs H Q => ∃ i,xs = [.int i]∧Q (.int (if i < 0 then -i else i)) H):=by
 intro pins s σ H xs us Q I r h
 obtain ⟨i,rfl,q⟩:=h
 obtain ⟨u,rfl,t,rfl⟩:=vals1 r
 exact call_abs_int fun u tk => ⟨.int (if i < 0 then -i else i),H,I.tok _,⟨_,rfl⟩,q⟩
end
structure ObjM (h:Heap) (x dx C:Addr) (mA:Str→Option Value):Prop where
 obj:h.get? x = some (PySem.W.instObj C dx)
 ns:h.Ns1 dx mA
 ne:dx≠x
theorem lookIn_ns {h:Heap} {dx:Addr} {mA:Str→Option Value} (n:h.Ns1 dx mA):∃ od,h.get? dx = some od∧∀ name,PySem.W.lookIn name od = some (mA name):=by
 obtain ⟨o,es,ep,ho,hd,hk,_,hm⟩:=n
 refine ⟨o,ho,fun name => ?_⟩
 have e:=hm name
 unfold nsFind findBy at e
 rw [← Array.find?_toList] at e
 unfold PySem.W.lookIn
 rw [hd]
 dsimp only
 split
 ·rename_i y q
  rw [q] at e
  exact congrArg some e
 ·rename_i q
  rw [q] at e
  have a:es.toList.any (·.refKey) = false:=by
   rw [List.any_eq_false]
   intro y hy
   obtain ⟨z,t,hkey⟩:=hk y (Array.mem_toList_iff.mp hy)
   simp [DictEntry.refKey,hkey]
  have a':¬ es.toList.any (·.refKey) = true:=by rw [a]; exact Bool.false_ne_true
  rw [if_neg a']
  exact congrArg some e
theorem ObjM.look {h:Heap} {x dx C:Addr} {mA:Str→Option Value} (I:ObjM h x dx C mA):∃ od,PySem.W.InstAt h x (PySem.W.instObj C dx) C (some od)∧∀ name,PySem.W.lookIn name od = some (mA name) :=
 let ⟨od,ho,hl⟩:=lookIn_ns I.ns
 ⟨od,⟨I.obj,rfl,rfl,ho⟩,hl⟩
section
variable {P:Program} {w:World} {H H':Hp} {h h':Heap} {a C dx:Addr} {fs fs':List (Str×V)}
theorem ins_get (hok:HOk P w H h) (e:H a = some (.ins C dx fs)):∃ mA,ObjM h a dx C mA∧(∀ f,RelO (fs.lookup f) (mA f))∧PySem.Within mA (fs.map (·.1))∧fs.length≤1000∧H dx = some (.own a):=by
 obtain ⟨d,z,ne,ob,mA,n,r,q⟩:=(show ObjOk P w H h a (.ins C dx fs) from hok a _ e)
 exact ⟨mA,⟨ob,n,ne⟩,r,q,z,d⟩
end
structure Cls (K:PySem.W.Frag) (C:Addr):Prop where
 pg:PySem.W.plainGet K C Str.empty = true
 hd:PySem.W.hasDictIn K C = true
 po:PySem.W.plainOver K C = true
 sa:PySem.W.findIn K (.ref C) "__setattr__" = some (some (.builtin "object.__setattr__"))
theorem Cls.get {K:PySem.W.Frag} {C:Addr} (c:Cls K C) (f:Str):PySem.W.plainGet K C f = true:=c.pg
section
variable {X:Cx} {pins:List (Addr×Obj)} {σ:St} {H:Hp} {s:Shared} {A:Around} {E:Value→Shared→Prop} {Q:Value→Shared→Prop} {c:Value} {b:Bool}
inductive TyOf (K:PySem.W.Frag) (H:Hp):V→Value→Prop where
 | non:TyOf K H .non (.type "NoneType")
 | bl (x:Bool):TyOf K H (.bl x) (.type "bool")
 | int (i:Int):TyOf K H (.int i) (.type "int")
 | str (x:Str):TyOf K H (.str x) (.type "str")
 | flt (x:UInt64):TyOf K H (.flt x) (.type "float")
 | lst {a:Addr} {xs:List V} (e:H a = some (.lst xs)):TyOf K H (.ref a) (.type "list")
 | frz {a:Addr} {o:Obj} {xs:List V} (e:H a = some (.frz o (.lst xs))):TyOf K H (.ref a) (.type "list")
 | tup {a:Addr} {xs:List V} (e:H a = some (.tup xs)):TyOf K H (.ref a) (.type "tuple")
 | dK {a:Addr} {kvs:List (Key×V)} (e:H a = some (.dK kvs)):TyOf K H (.ref a) (.type "dict")
 | dT {a:Addr} {kvs:List (List Key×V)} (e:H a = some (.dT kvs)):TyOf K H (.ref a) (.type "dict")
 | ins {a C dx:Addr} {fs:List (Str×V)} (e:H a = some (.ins C dx fs)) (cl:Cls K C) (ha:PySem.W.findIn K (.ref C) "__class__" = some (some (.builtin "object.__class__")))
   (hn:PySem.W.specialIn K (.builtin "object.__class__") "__get__" = some (some (.builtin "getset_descriptor.__get__"))) (htk:PySem.W.takesIn K (.builtin "object.__class__") = some true)
   (hm:PySem.W.mroIn K C (.type "object") = some true):TyOf K H (.ref a) (.ref C)
theorem isinst_ok {x:V} {u t:Value} (I:Inv X pins σ H s) (rx:RelV x u) (ty:TyOf X.K H x t) (e:PySem.W.kitOne X.K t c = some b) (h:∀ tk,Q (.bool b) { s with toks:=tk }) :
  wpAny (model X.prog X.w) A (call (.builtin "isinstance") [u,c]) Q E s:=by
 cases ty with
 | non => cases (show u = Value.none from rx); exact PySem.W.kia_one PySem.W.kitx_none I.kIn True.intro e (fun z => nomatch z) h
 | bl y => cases (show u = Value.bool y from rx); exact PySem.W.kia_one PySem.W.kitx_bool I.kIn True.intro e (fun z => nomatch z) h
 | int i => obtain ⟨t,q⟩:=(show ∃ t,u = Value.int i t from rx); cases q; exact PySem.W.kia_one PySem.W.kitx_int I.kIn True.intro e (fun z => nomatch z) h
 | str y => obtain ⟨t,q⟩:=(show ∃ t,u = Value.str y t from rx); cases q; exact PySem.W.kia_one PySem.W.kitx_str I.kIn True.intro e (fun z => nomatch z) h
 | flt y => obtain ⟨t,q⟩:=(show ∃ t,u = Value.float y t from rx); cases q; exact PySem.W.kia_one PySem.W.kitx_float I.kIn True.intro e (fun z => nomatch z) h
 | @lst a xs ea =>
  cases (show u = Value.ref a from rx)
  obtain ⟨_,_,n,_,h1⟩:=(show ObjOk X.prog X.w H s.heap a (.lst xs) from I.hok a _ ea)
  exact PySem.W.kia_one PySem.W.kitx_list I.kIn ⟨_,h1,rfl⟩ e (fun z => nomatch z) h
 | @frz a ob xs ea =>
  cases (show u = Value.ref a from rx)
  obtain ⟨_,_,_,n,_,h1⟩:=(show ObjOk X.prog X.w H s.heap a (.frz ob (.lst xs)) from I.hok a _ ea)
  exact PySem.W.kia_one PySem.W.kitx_list I.kIn ⟨_,h1,rfl⟩ e (fun z => nomatch z) h
 | @tup a xs ea =>
  cases (show u = Value.ref a from rx)
  obtain ⟨_,_,_,p⟩:=(show ObjOk X.prog X.w H s.heap a (.tup xs) from I.hok a _ ea)
  obtain ⟨o,h1,h2,_⟩:=p
  exact PySem.W.kia_one PySem.W.kitx_tuple I.kIn ⟨o,h1,h2⟩ e (fun z => nomatch z) h
 | @dK a kvs ea =>
  cases (show u = Value.ref a from rx)
  obtain ⟨_,_,vs,_,p⟩:=(show ObjOk X.prog X.w H s.heap a (.dK kvs) from I.hok a _ ea)
  obtain ⟨o,es,ep,h1,h2,_⟩:=p
  exact PySem.W.kia_one PySem.W.kitx_dict I.kIn ⟨o,h1,h2.1⟩ e (fun z => nomatch z) h
 | @dT a kvs ea =>
  cases (show u = Value.ref a from rx)
  obtain ⟨_,_,xs,_,o,es,ep,h1,h2,_⟩:=(show ObjOk X.prog X.w H s.heap a (.dT kvs) from I.hok a _ ea)
  exact PySem.W.kia_one PySem.W.kitx_dict I.kIn ⟨o,h1,h2.1⟩ e (fun z => nomatch z) h
 | @ins a C dx fs ea cl ha hn htk hm =>
  cases (show u = Value.ref a from rx)
  obtain ⟨mA,O,_⟩:=ins_get I.hok ea
  obtain ⟨od,J,_⟩:=O.look
  exact PySem.W.kia_one (PySem.W.kitx_own (cl.get _) cl.hd ha hn htk hm) I.kIn J e (fun z => nomatch z) h
end
structure Room (k:Nat) (A:Around):Prop where
 hd:A.handled = none
 dp:A.depth + 3 * k + 5 < recursionLimit
 un:A.units + 16 * k + 200 < cLine
theorem Room.mono {j k:Nat} {A:Around} (r:Room k A) (h:j≤k):Room j A:=⟨r.hd,by have:=r.dp; omega,by have:=r.un; omega⟩
theorem Room.deeper {k:Nat} {A:Around} (r:Room (k + 1) A) (env:Env):Room k (A.deeper env) :=
 ⟨r.hd,by have:=r.dp; show A.depth + 1 + 3 * k + 5 < _; omega,by have:=r.un; show A.units + 3 + 16 * k + 200 < _; omega⟩
theorem Room.depth {k:Nat} {A:Around} (r:Room k A):A.depth < recursionLimit:=by have:=r.dp; omega
theorem Room.units {k:Nat} {A:Around} (r:Room k A):A.units + 64 < cLine:=by have:=r.un; omega
theorem Room.units0 {k:Nat} {A:Around} (r:Room k A):A.units < cLine:=by have:=r.un; omega
def tNil:TA:=fun _ H Q => Q [] H
def tCons (ta:TE) (tr:TA):TA:=fun σ H Q => ta σ H fun x H1 => tr σ H1 fun xs H2 => Q (x::xs) H2
section
variable {X:Cx} {e:Expr} {es:List Expr} {te:TE} {t:TA} {pos:Pos}
theorem pa_nil:PA X [] tNil:=fun _ _ _ _ H Q I h => Calls.spliced_nil ⟨[],H,I,.nil,h⟩
theorem pa_cons (ha:PE X e te) (hr:PA X es t) (hs:starEach (e::es) X.env = (false,eval e X.env)::starEach es X.env:=by rfl):PA X (e::es) (tCons te t):=by
 intro pos pins s σ H Q I h
 rw [hs]
 show wpAny _ _ (spliced ((false,eval e X.env)::backTo pos (starEach es X.env))) _ _ s
 refine Calls.spliced_cons (thn (ha pins s σ H _ I h) fun u s1 zz => ?_)
 obtain ⟨x,H1,I1,r1,q1⟩:=zz
 exact thn (hr pos pins s1 σ H1 _ I1 q1) fun us s2 ⟨xs,H2,I2,r2,q2⟩ => ⟨x::xs,H2,I2,.cons r1 r2,q2⟩
def tTup (t:TA):TE:=fun σ H Q => t σ H fun xs H1 => xs.length≤sizeLine∧∀ p,H1 p = none→Q (.ref p) (upd H1 p (.tup xs))
def tLst (t:TA):TE:=fun σ H Q => t σ H fun xs H1 => xs.length≤sizeLine∧∀ p,H1 p = none→Q (.ref p) (upd H1 p (.lst xs))
theorem pe_tup {x1} (h:PA X es t):PE X (.Tuple es x1 pos) (tTup t):=by
 intro pins s σ H Q I hq
 refine wpAny_Tuple_spliced (thn (h pos pins s σ H _ I hq) fun us s1 ⟨xs,H1,I1,r,z,q⟩ => ⟨by rw [← r.length]; exact z,?_⟩)
 have hf:H1 s1.heap.objs.size = none:=I1.hok.fresh (Nat.le_refl _)
 refine ⟨.ref s1.heap.objs.size,upd H1 s1.heap.objs.size (.tup xs),I1.laid (t':=s1.toks) (fun b u e => Heap.get?_push_of_some _ e) (Nat.le_refl _) ?_,rfl,q _ hf⟩
 exact ⟨z,us,r,⟨_,Heap.get?_push_size _ rfl,rfl,_,rfl,rfl⟩⟩
theorem pe_lst (h:PA X es t):PE X (.List es pos) (tLst t):=by
 intro pins s σ H Q I hq
 refine wpAny_List_spliced (thn (h pos pins s σ H _ I hq) fun us s1 ⟨xs,H1,I1,r,z,q⟩ => ⟨by rw [← r.length]; exact z,?_⟩)
 have hf:H1 s1.heap.objs.size = none:=I1.hok.fresh (Nat.le_refl _)
 refine ⟨.ref s1.heap.objs.size,upd H1 s1.heap.objs.size (.lst xs),I1.laid (t':=s1.toks) (fun b u e => Heap.get?_push_of_some _ e) (Nat.le_refl _) ?_,rfl,q _ hf⟩
 exact ⟨z,us,0,r,Heap.get?_push_size _ rfl⟩
end
abbrev Sp:=List V→Hp→VK→XK→Prop
abbrev CXT:=List Env→Hp→Shared→XK→Value→Shared→Prop
structure Env0 (P:Program) (w:World) (K:PySem.W.Frag) (mg:Str→Option Value) (base:Heap) (A:Around) (outer:List Env) (s:Shared) (H:Hp):Prop where
 frames:A.frames = some outer
 mod:Mod K mg base
 bs:∀ b o,base.get? b = some o→s.heap.get? b = some o∧H b = none
 bsz:base.objs.size≤s.heap.objs.size
 funs:s.heap.FunFrames base outer
 frf:∀ b∈frs outer,H b = none
 hok:HOk P w H s.heap
 bare:AllBare s.gens
def CE (outer:List Env) (P:Program) (w:World) (H:Hp) (s:Shared) (Q:VK) (u:Value) (s':Shared):Prop :=
 ∃ v H',s'.os = s.os∧AllBare s'.gens∧Un (frs outer) [] H H' s.heap s'.heap∧HOk P w H' s'.heap∧RelV v u∧Q v H'
def CR (CX:CXT) (outer:List Env) (P:Program) (w:World) (H:Hp) (s:Shared) (Q:VK) (E:XK) (r:Result) (s':Shared):Prop :=
 match r with
 | .ok (.ret u) => CE outer P w H s Q u s'
 | .ok _ => False
 | .error e => CX outer H s E e s'
structure FnOk (P:Program) (w:World) (K:PySem.W.Frag) (mg:Str→Option Value) (base:Heap) (CX:CXT) (k:Nat) (f:Addr) (fd:FuncData) (ps:List Str) (sp:Sp):Prop where
 len:∀ vs H Q E,sp vs H Q E→vs.length = ps.length
 run:∀ (A:Around) (outer:List Env) (s:Shared) (H:Hp) (args:Args) (us:List Value) (vs:List V) (Q:VK) (E:XK),Room k A→Env0 P w K mg base A outer s H→BindsTo s fd args (ps.zip us)→Vals vs us→sp vs H Q E →
  codeAny (model P w) A (.call (.ref f) args) (CR CX outer P w H s Q E) s
section
variable {X:Cx} {pins:List (Addr×Obj)} {σ:St} {H:Hp} {s s':Shared}
theorem Inv.env0 (I:Inv X pins σ H s):Env0 X.prog X.w X.K X.mg X.base X.A X.stack s H :=
 ⟨I.ok.frames,I.ok.mod,I.bs,Nat.le_trans I.ok.bsz I.sz,I.stack,I.stkFree,I.hok,I.bare⟩
theorem Inv.after {Q:VK} {u:Value} (I:Inv X pins σ H s) (h:CE X.stack X.prog X.w H s Q u s'):EP X pins σ Q u s':=by
 obtain ⟨v,H',os,bare,un,hok,r,q⟩:=h
 obtain ⟨hh,g,d,t,os'⟩:=s'
 obtain rfl:os' = s.os:=os
 exact ⟨v,H',I.call (h':=hh) (g':=g) (d':=d) (t':=t) (ch:=[]) un hok bare (fun b z => absurd z (by simp)),r,q⟩
end
def tCall (sp:Sp) (dvs:List V) (E:XK) (t:TA):TE:=fun σ H Q => t σ H fun vs H1 => sp (vs++dvs) H1 Q E
def Binds (K:PySem.W.Frag) (fd:FuncData) (ps:List Str) (ds:List Value):Prop :=
 ∀ (s:Shared) (us:List Value),K.In s.heap→(us++ds).length = ps.length→BindsTo s fd ⟨us,[]⟩ (ps.zip (us++ds))
theorem Binds.all {K:PySem.W.Frag} {fd:FuncData} {ps:List Str} (h:∀ us:List Value,us.length = ps.length→bindArgs fd ⟨us,[]⟩ = pure (ps.zip us)):Binds K fd ps []:=fun s us _ hl => by
 rw [List.append_nil] at hl ⊢
 exact .of_eq (h us hl)
def Passes (CX:CXT) (X:Cx) (E:XK):Prop:=∀ (pins:List (Addr×Obj)) (σ:St) (H:Hp) (s:Shared) (e:Value) (s':Shared),Inv X pins σ H s→CX X.stack H s E e s'→X.xe e s'
section
variable {X:Cx} {CX:CXT} {k:Nat} {f C:Addr} {fd:FuncData} {ps:List Str} {sp:Sp} {dvs:List V} {ds:List Value} {E:XK} {x m:Str} {p pos apos:Pos} {e o:Expr} {es:List Expr} {ta:TE} {t:TA}
theorem run_fn {pins:List (Addr×Obj)} {σ:St} {H:Hp} {s:Shared} {Q:VK} {us:List Value} {vs:List V} (F:FnOk X.prog X.w X.K X.mg X.base CX k f fd ps sp) (hr:Room k X.A) (hb:Binds X.K fd ps ds) (hd:Vals dvs ds) (hx:Passes CX X E)
  (I:Inv X pins σ H s) (r:Vals vs us) (h:sp (vs++dvs) H Q E):wpAny (model X.prog X.w) X.A (call (.ref f) us) (EP X pins σ Q) X.xe s:=by
 have r2:Vals (vs++dvs) (us++ds):=r.append hd
 have hl:(us++ds).length = ps.length:=by rw [← r2.length]; exact F.len _ _ _ _ h
 refine wpAny_call (codeAny_mono (F.run X.A X.stack s H ⟨us,[]⟩ (us++ds) (vs++dvs) Q E hr I.env0 (hb s us I.kIn hl) r2 h) fun r s' hq => ?_)
 cases r with
 | error e => exact hx pins σ H s e s' I hq
 | ok fl =>
  cases fl with
  | ret u => exact I.after hq
  | next => exact False.elim hq
  | brk => exact False.elim hq
  | cont => exact False.elim hq
theorem pe_call (F:FnOk X.prog X.w X.K X.mg X.base CX k f fd ps sp) (hr:Room k X.A) (hg:Gl X x) (hm:X.mg x = some (.ref f)) (hk:PySem.W.keepIn X.K (.ref f) = true) (hb:Binds X.K fd ps ds) (hd:Vals dvs ds) (hx:Passes CX X E)
  (ha:PA X (e::es) t) (hdb:(x == ("__debug__" : Str)) = false:=by decide) (he:starEach (e::es) X.env = (false,eval e X.env)::starEach es X.env:=by rfl) (hpl:(backTo pos (starEach es X.env)).any (·.1) = false:=by rfl) :
  PE X (.Call (.Name x p) (e::es) [] pos) (tCall sp dvs E t):=by
 intro pins s σ H Q I h
 refine wpAny_Call_Name_kw (ld_glob I hg hm ?_ hdb)
 refine PySem.W.callWith_K (h₀:=X.base) I.ok.mod.kin hk (thn (ha pos pins s σ H _ I h) fun us s1 ⟨vs,H1,I1,r,q⟩ => ⟨I1.kIn,?_⟩) he hpl
 exact run_fn F hr hb hd hx I1 r q
end
structure FnScope (N P:List Str) (sc:Scope):Prop where
 kind:sc.kind = .function
 co:sc.isCoroutine = false
 gen:sc.isGenerator = false
 nd:N.Nodup
 pre:N.take P.length = P
 par:∀ x∈P,sc.names.lookup x = some .local∨sc.names.lookup x = some .cell
 nofree:∀ y∈sc.names,y.2≠.free
theorem bindL_out {kindOf:Str→Option NameKind} {x:Str}:∀ {binds:List (Str×Value)} {m:Str→Option Value},(∀ v,(x,v)∉binds)→bindL kindOf binds m x = m x
 | [],_,_ => rfl
 | (n,v)::r,m,h => by
  unfold bindL
  rw [bindL_out fun w hw => h w (List.mem_cons_of_mem _ hw)]
  split
  ·have:x≠n:=by rintro rfl; exact h v List.mem_cons_self
   simp [this]
  ·rfl
theorem bindC_out {kindOf:Str→Option NameKind} {x:Str}:∀ {binds:List (Str×Value)} {m:Str→Option Value},(∀ v,(x,v)∉binds)→bindC kindOf binds m x = m x
 | [],_,_ => rfl
 | (n,v)::r,m,h => by
  unfold bindC
  rw [bindC_out fun w hw => h w (List.mem_cons_of_mem _ hw)]
  split
  ·rfl
  ·have:x≠n:=by rintro rfl; exact h v List.mem_cons_self
   simp [this]
theorem bindL_get {kindOf:Str→Option NameKind} {x:Str} {v:Value}:∀ {P:List Str} {vs:List Value} {i:Nat} {m:Str→Option Value},P.Nodup→P[i]? = some x→vs[i]? = some v→kindOf x = some .local →
  bindL kindOf (P.zip vs) m x = some v
 | [],_,_,_,_,h,_,_ => by simp at h
 | _::_,[],_,_,_,_,h,_ => by simp at h
 | p::P,w::vs,0,m,nd,h1,h2,hk => by
  simp at h1 h2; subst h1; subst h2
  show bindL kindOf ((p,w)::P.zip vs) m p = _
  unfold bindL
  rw [bindL_out fun v hv => (List.nodup_cons.mp nd).1 (List.of_mem_zip hv).1,if_pos hk]
  simp
 | p::P,w::vs,i + 1,m,nd,h1,h2,hk => by
  show bindL kindOf ((p,w)::P.zip vs) m x = _
  unfold bindL
  exact bindL_get (i:=i) (List.nodup_cons.mp nd).2 (by simpa using h1) (by simpa using h2) hk
theorem bindC_get {kindOf:Str→Option NameKind} {x:Str} {v:Value}:∀ {P:List Str} {vs:List Value} {i:Nat} {m:Str→Option Value},P.Nodup→P[i]? = some x→vs[i]? = some v→kindOf x≠some .local →
  bindC kindOf (P.zip vs) m x = some v
 | [],_,_,_,_,h,_,_ => by simp at h
 | _::_,[],_,_,_,_,h,_ => by simp at h
 | p::P,w::vs,0,m,nd,h1,h2,hk => by
  simp at h1 h2; subst h1; subst h2
  show bindC kindOf ((p,w)::P.zip vs) m p = _
  unfold bindC
  rw [bindC_out fun v hv => (List.nodup_cons.mp nd).1 (List.of_mem_zip hv).1,if_neg hk]
  simp
 | p::P,w::vs,i + 1,m,nd,h1,h2,hk => by
  show bindC kindOf ((p,w)::P.zip vs) m x = _
  unfold bindC
  exact bindC_get (i:=i) (List.nodup_cons.mp nd).2 (by simpa using h1) (by simpa using h2) hk
def start (N:List Str) (vs:List V):St:=vs.map some++List.replicate (N.length - vs.length) none
def cxOf (CX:CXT) (P:Program) (w:World) (K:PySem.W.Frag) (mg:Str→Option Value) (base:Heap) (N:List Str) (qual:Str) (scope:Scope) (f:Addr) (cd:Value) (A:Around) (outer:List Env) (s:Shared) (H:Hp) (E:XK):Cx where
 prog:=P
 w:=w
 K:=K
 mg:=mg
 base:=base
 A:=A.deeper (envOfC qual scope s.heap.objs.size f cd)
 N:=N
 s₀:=s
 H₀:=H
 env:=envOfC qual scope s.heap.objs.size f cd
 outer:=outer
 stack:=envOfC qual scope s.heap.objs.size f cd::outer
 ex:=[]
 calm:=true
 fn:=fun _ => true
 pn:=[]
 xe:=fun e s' => wpAny (model P w) (A.deeper (envOfC qual scope s.heap.objs.size f cd)) (leaving (envOfC qual scope s.heap.objs.size f cd) e) (fun _ s'' => CX outer H s E e s'') (fun e' s'' => CX outer H s E e' s'') s'
theorem cell_has {sc:Scope} {n:Nat} {x:Str} (h:sc.names.lookup x = some .cell):∃ c,(cellsFrom n sc.names []).lookup x = some c:=by
 have q:=PySem.W.cellsFrom_some sc.names n [] (.inl h)
 exact Option.isSome_iff_exists.mp q
theorem inv_start {CX:CXT} {P:Program} {w:World} {K:PySem.W.Frag} {mg:Str→Option Value} {base:Heap} {N ps:List Str} {qual:Str} {scope:Scope} {f:Addr} {cd:Value} {A:Around} {outer:List Env} {s s1:Shared} {H:Hp} {E:XK} {us:List Value} {vs:List V}
  (S:FnScope N ps scope) (hd:A.handled = none) (e0:Env0 P w K mg base A outer s H) (hl:vs.length = ps.length) (r:Vals vs us)
  (x:InCallC s s.heap.objs.size (bindL (envOfC qual scope s.heap.objs.size f cd).kindOf (ps.zip us) fun _ => none) (cellsFrom (s.heap.objs.size + 1) scope.names []) (bindC (envOfC qual scope s.heap.objs.size f cd).kindOf (ps.zip us) fun _ => none) s1) :
  Inv (cxOf CX P w K mg base N qual scope f cd A outer s H E) [] (start N vs) H s1:=by
 have hpl:ps.length≤N.length:=by have:=congrArg List.length S.pre; rw [List.length_take] at this; omega
 obtain ⟨h1,tk,rfl,hk⟩:=x.done
 have noA:∀ b:Addr,b∉(cxOf CX P w K mg base N qual scope f cd A outer s H E).ex:=fun b z => absurd (show b∈([]:List Addr) from z) (by simp)
 refine ⟨⟨e0.mod,S.kind,rfl,rfl,Nat.le_refl _,fun y z c h1 h2 => ?_,fun y hy => ?_,fun y c _ h => ?_,fun _ => hd,Around.frames_deeper e0.frames,.inr ⟨rfl,rfl⟩,fun b z => absurd z (noA b),e0.bs,e0.bsz,fun b _ _ => noA b,fun b z => absurd z (noA b),e0.funs,e0.frf⟩,
  rfl,e0.bare,Un.kept hk,⟨_,x.toInCall.ns,fun i y v h1 h2 h3 => ?_⟩,fun y c h => ⟨_,x.cell y c h⟩,e0.hok.fresh (Nat.le_refl _),fun y c h => ?_,fun p hp => absurd (show p∈([]:List (Addr×Obj)) from hp) (by simp),e0.hok.kept hk,?_⟩
 ·exact name_of_addr x.apart (PySem.mem_of_lookup h1) (PySem.mem_of_lookup h2)
 ·have hy:scope.names.lookup y = some .cell∨scope.names.lookup y = some .free:=hy
  rcases hy with hy | hy
  ·exact cell_has hy
  ·exact absurd rfl (S.nofree _ (PySem.mem_of_lookup hy))
 ·exact Nat.le_of_lt (x.above y c (PySem.mem_of_lookup h))
 ·have hi:i < vs.length:=by
   unfold start at h2
   by_cases hi:i < vs.length
   ·exact hi
   ·rw [List.getElem?_append_right (by simpa using hi)] at h2
    rw [List.getElem?_replicate] at h2
    split at h2 <;> cases h2
  have ha:vs[i]? = some v:=by
   unfold start at h2
   rw [List.getElem?_append_left (by simpa using hi),List.getElem?_map] at h2
   cases e:vs[i]? with
   | none => rw [e] at h2; cases h2
   | some a => rw [e] at h2; cases h2; rfl
  obtain ⟨u,hu,rv⟩:=r.get ha
  have hp:ps[i]? = some y:=by
   rw [← S.pre,List.getElem?_take_of_lt (by omega)]; exact h1
  have ndP:ps.Nodup:=by rw [← S.pre]; exact S.nd.sublist (List.take_sublist _ _)
  refine ⟨u,rv,?_⟩
  rcases S.par y (List.mem_of_getElem? hp) with k | k
  ·exact .inl ⟨k,bindL_get ndP hp hu k⟩
  ·obtain ⟨c,e⟩:=cell_has (n:=s.heap.objs.size + 1) k
   refine .inr ⟨.inl k,c,e,?_⟩
   have q:=x.cell y c e
   rw [bindC_get ndP hp hu (by show scope.names.lookup y≠_; rw [k]; decide)] at q
   exact q
 ·exact e0.hok.fresh (Nat.le_of_lt (x.above y c (PySem.mem_of_lookup h)))
 ·unfold start
  show _ = N.length
  rw [List.length_append,List.length_map,List.length_replicate]
  omega
theorem fn_of {CX:CXT} {P:Program} {w:World} {K:PySem.W.Frag} {mg:Str→Option Value} {base:Heap} {k:Nat} {f:Addr} {name qual:Str} {params:Arguments} {body:List Stmt} {scope:Scope} {dV kV doc pm cdv ct oc:Value} {an od:Option Addr}
  {osl:Array (Option Value)} {N ps:List Str} {sp:Sp} (lk:K.lookup f = some ⟨oc,od,.func (PySem.W.fnOf name qual params body scope dV kV doc pm an cdv ct),osl⟩) (hcd:PySem.W.codeIn K cdv qual = true) (S:FnScope N ps scope)
  (len:∀ vs H Q E,sp vs H Q E→vs.length = ps.length)
  (hbody:∀ (A:Around) (outer:List Env) (s:Shared) (H:Hp) (vs:List V) (Q:VK) (E:XK),Room k (A.deeper (envOfC qual scope s.heap.objs.size f cdv))→sp vs H Q E →
   ∃ t,PSs (cxOf CX P w K mg base N qual scope f cdv A outer s H E) body t∧t { nx:=fun _ H' => Q .non H',rt:=Q } (start N vs) H) :
  FnOk P w K mg base CX (k + 1) f (PySem.W.fnOf name qual params body scope dV kV doc pm an cdv ct) ps sp:=by
 refine ⟨len,fun A outer s H args us vs Q E hr e0 hb r hsp => ?_⟩
 have hl:=len _ _ _ _ hsp
 have KX:K.In s.heap:=e0.mod.kin.keeps fun b o e => (e0.bs b o e).1
 have lim:s.heap.NoLimit:=e0.mod.nolimit.keeps fun b o e => (e0.bs b o e).1
 have hkind:∀ y∈ps.zip us,scope.names.lookup y.1 = some .local∨(scope.names.lookup y.1 = some .cell∧((cellsFrom (s.heap.objs.size + 1) scope.names []).lookup y.1).isSome = true):=fun ⟨n,v⟩ hy => by
  rcases S.par n (List.of_mem_zip hy).1 with q | q
  ·exact .inl q
  ·exact .inr ⟨q,PySem.W.cellsFrom_some _ _ _ (.inl q)⟩
 refine codeAny_call_function hr.depth (KX _ _ lk) rfl S.co S.gen rfl (PySem.W.codeRec_of KX hcd) (hb _ _ _ _ ?_)
 refine wpAny_newFunctionEnv_cells S.kind hkind fun env he s1 x => ?_
 subst he
 refine ⟨lim.keeps x.toInCall.keep,codeAny_func ?_⟩
 obtain ⟨t,ht,hq⟩:=hbody A outer s H vs Q E (hr.deeper _) hsp
 have I:Inv (cxOf CX P w K mg base N qual scope f cdv A outer s H E) [] (start N vs) H s1:=inv_start S hr.hd e0 hl r x
 refine wpAny_mono (ht [] s1 (start N vs) H _ I hq) (fun fl s' hs => ?_) fun e s' hs => hs
 have fin:∀ {σ':St} {H':Hp} {v:V} {u:Value},Inv (cxOf CX P w K mg base N qual scope f cdv A outer s H E) [] σ' H' s'→RelV v u→Q v H'→CE outer P w H s Q u s' :=
  fun {σ' H' v u} J rv q => ⟨v,H',J.os,J.bare,J.base,J.hok,rv,q⟩
 cases fl with
 | ret u =>
  obtain ⟨v,σ',H',J,rv,q⟩:=hs
  exact fin J rv q
 | next =>
  obtain ⟨σ',H',J,q⟩:=hs
  exact fin (v:=V.non) (u:=Value.none) J rfl q
 | brk =>
  obtain ⟨_,_,_,q⟩:=hs
  exact False.elim q
 | cont =>
  obtain ⟨_,_,_,q⟩:=hs
  exact False.elim q
section
variable {X:Cx} {x:Str} {p pos:Pos} {e:Expr} {es:List Expr} {t:TA} {id T:String} {r:List V→Hp→VK→Prop}
def tCB (r:List V→Hp→VK→Prop) (t:TA):TE:=fun σ H Q => t σ H fun vs H1 => r vs H1 Q
theorem pe_callB (hc:CallR X (.builtin id) r) (hg:Gl X x) (hm:X.mg x = none) (hv:bootBuiltins x = some (.builtin id)) (ha:PA X (e::es) t) (hn:x ≠ "__name__":=by decide) (hdb:(x == ("__debug__" : Str)) = false:=by decide)
  (he:starEach (e::es) X.env = (false,eval e X.env)::starEach es X.env:=by rfl) (hpl:(backTo pos (starEach es X.env)).any (·.1) = false:=by rfl):PE X (.Call (.Name x p) (e::es) [] pos) (tCB r t):=by
 intro pins s σ H Q I h
 refine wpAny_Call_Name_kw (ld_blt I hg hm hv ?_ hn hdb)
 exact PyProof.Rows.callWith_builtin1 (thn (ha pos pins s σ H _ I h) fun us s1 ⟨vs,H1,I1,r1,q1⟩ => hc pins s1 σ H1 vs us Q I1 r1 q1) he hpl
theorem pe_callTy (hc:CallR X (.type T) r) (hg:Gl X x) (hm:X.mg x = none) (hv:bootBuiltins x = some (.type T)) (ha:PA X (e::es) t) (hn:x ≠ "__name__":=by decide) (hdb:(x == ("__debug__" : Str)) = false:=by decide)
  (he:starEach (e::es) X.env = (false,eval e X.env)::starEach es X.env:=by rfl) (hpl:(backTo pos (starEach es X.env)).any (·.1) = false:=by rfl):PE X (.Call (.Name x p) (e::es) [] pos) (tCB r t):=by
 intro pins s σ H Q I h
 refine wpAny_Call_Name_kw (ld_blt I hg hm hv ?_ hn hdb)
 exact PyProof.Rows.callWith_type1 (thn (ha pos pins s σ H _ I h) fun us s1 ⟨vs,H1,I1,r1,q1⟩ => hc pins s1 σ H1 vs us Q I1 r1 q1) he hpl
end
end L2
namespace HT
open PySem PyProof.Rows
def lexLt:List Int→List Int→Bool
 | [],[] => false
 | [],_::_ => true
 | _::_,[] => false
 | x::xs,y::ys => if x = y then lexLt xs ys else decide (x < y)
theorem lexLt_cons (x y:Int) (xs ys:List Int):lexLt (x::xs) (y::ys) = if x = y then lexLt xs ys else decide (x < y):=rfl
theorem lexLt_nil_nil:lexLt [] [] = false:=rfl
theorem lexLt_nil_cons (y:Int) (ys:List Int):lexLt [] (y::ys) = true:=rfl
theorem lexLt_cons_nil (x:Int) (xs:List Int):lexLt (x::xs) [] = false:=rfl
theorem eqAt_int (A:Around) (s:Shared) (a:Int) (t:Tok) (c:Int) (u:Tok):∃ e,SeqAt.EqAt A s (.int a t) (.int c u) e∧(e = true↔a = c) :=
 ⟨(a == c),SeqAt.EqAt.int_int a t c u,by simp⟩
theorem rcLt_int (A:Around) (s:Shared) (a:Int) (t:Tok) (c:Int) (u:Tok) (prog:Program) (w:World) (E:Value→Shared→Prop) (Q:Value→Shared→Prop) (h:Q (.bool (decide (a < c))) s) :
  wpAny (model prog w) A (richCompare .Lt (.int a t) (.int c u)) Q E s :=
 (PyProof.Rows.lt_int h:wpAny (model prog w) A (compareOp .Lt (.int a t) (.int c u)) Q E s)
section
open PySem.SeqAt
open PySem.AutoSeq1 (wpAny_loadPart')
open PySem.MeetsSeq PySem.MeetsSeq2 PySem.MeetsSeq3
theorem tuple_lt_ints (l b:Addr) (items items2:Array Value) (n n2:Nat) (dd dd2:Option Addr) (sl sl2:Array (Option Value)) (ns ms:List Int) (hi:IntsAre items.toList ns) (hj:IntsAre items2.toList ms) :
  Meets (Builtin.«tuple.__lt__» ⟨[.ref l,.ref b],[]⟩)
   (fun _ R s => s.heap.get? l = some { cls:=.type "tuple",dict:=dd,data:=.seq items n,slots:=sl }∧s.heap.get? b = some { cls:=.type "tuple",dict:=dd2,data:=.seq items2 n2,slots:=sl2 } ∧
    R (.ok (.ret (.bool (lexLt ns ms)))) s) :=
 .of_wp fun prog w A R s h => by
  obtain ⟨hp,g,d,tk,os⟩:=s; obtain ⟨hl,hb,h⟩:=h
  have f2:=AutoSeq1.sub_tuple_tuple
  have z1:items.size = ns.length:=by rw [← hi.length]; simp
  have z2:items2.size = ms.length:=by rw [← hj.length]; simp
  wp_walk using wpAny_loadPart' hl,wpAny_loadPart' hb,wpAny_forIn_list _ (fun rest b s' => b.1 = none∧s' = ⟨hp,g,d,tk,os⟩∧∃ (vs ws:List Value) (ns' ms':List Int),rest = vs.zip ws ∧
   IntsAre vs ns'∧IntsAre ws ms'∧ns'.length + items2.size = ms'.length + items.size∧R (.ok (.ret (.bool (lexLt ns' ms')))) ⟨hp,g,d,tk,os⟩) _
  case turn =>
   rintro ⟨y,x⟩ rest b s' ⟨hb',rfl,vs,ws,ns',ms',hz,hvi,hwi,hlen,hR⟩
   cases hvi with
   | nil => rw [List.zip_nil_left] at hz; cases hz
   | cons a t hvi' =>
    cases hwi with
    | nil => rw [List.zip_nil_right] at hz; cases hz
    | cons c u hwi' =>
     rw [List.zip_cons_cons] at hz
     injection hz with hyx hrest
     injection hyx with hy hx
     subst hy hx
     rw [lexLt_cons] at hR
     simp only [List.length_cons] at hlen
     obtain ⟨e,he,hiff⟩:=eqAt_int A.in1 ⟨hp,g,d,tk,os⟩ a t c u
     refine wpAny_bind (he prog w _ _ ?_)
     cases e with
     | true =>
      rw [if_pos (hiff.mp rfl)] at hR
      wp_walk
      exact ⟨rfl,rfl,_,_,_,_,hrest,hvi',hwi',by omega,hR⟩
     | false =>
      rw [if_neg (fun q => absurd (hiff.mpr q) Bool.false_ne_true)] at hR
      have hri:=rcLt_int A.in1 ⟨hp,g,d,tk,os⟩ a t c u prog w
      wp_walk using hri
      exact ⟨_,rfl,by simpa using hR⟩
  case fin =>
   rintro ⟨b1,b2⟩ s' ⟨hb',rfl,vs,ws,ns',ms',hz,hvi,hwi,hlen,hR⟩
   simp only at hb'
   subst hb'
   have hv:lexLt ns' ms' = decide (items.size < items2.size):=by
    cases hvi with
    | nil =>
     cases hwi with
     | nil =>
      simp only [List.length_nil] at hlen
      rw [lexLt_nil_nil]
      exact (decide_eq_false (by omega)).symm
     | cons c u hw =>
      simp only [List.length_nil,List.length_cons] at hlen
      rw [lexLt_nil_cons]
      exact (decide_eq_true (by omega)).symm
    | cons a t hv =>
     cases hwi with
     | nil =>
      simp only [List.length_nil,List.length_cons] at hlen
      rw [lexLt_cons_nil]
      exact (decide_eq_false (by omega)).symm
     | cons c u hw =>
      rw [List.zip_cons_cons] at hz
      cases hz
   rw [hv] at hR
   wp_walk
   exact ⟨_,rfl,by simpa [Builtin.Tuple.tupleCompareSizes] using hR⟩
  case h =>
   exact ⟨rfl,rfl,items.toList,items2.toList,ns,ms,rfl,hi,hj,by omega,h⟩
end
section
variable {prog:Program} {w:World} {A:Around} {E:Value→Shared→Prop} {s:Shared}
theorem lt_tupInts {l b:Addr} {items items2:Array Value} {ns ms:List Int} {Q:Value→Shared→Prop} (hl:IsTup s.heap l items) (hb:IsTup s.heap b items2) (hi:IntsAre items.toList ns) (hj:IntsAre items2.toList ms)
  (hu:A.units < cLine) (h:Q (.bool (lexLt ns ms)) s):wpAny (model prog w) A (compareOp .Lt (.ref l) (.ref b)) Q E s:=by
 obtain ⟨⟨cls,dd,data,sl⟩,ho,hc,n,hd⟩:=id hl
 obtain ⟨⟨cls2,dd2,data2,sl2⟩,ho2,hc2,n2,hd2⟩:=id hb
 simp only at hc hd hc2 hd2
 subst hc hd hc2 hd2
 exact richCompare_meets_room (op:=.Lt) ⟨_,ho,rfl⟩ ⟨_,ho2,rfl⟩ PySem.F.slot_tuple_lt PySem.F.entry_tuple_lt (PySem.F.args_tuple_lt_2 _ _) (tuple_lt_ints l b items items2 n n2 dd dd2 sl sl2 ns ms hi hj)
  ⟨ho,ho2,show Value.bool (lexLt ns ms)≠Value.notImplemented∧Q (.bool (lexLt ns ms)) s from ⟨(fun x => nomatch x),h⟩⟩ hu
def sIx (n d:Nat):Option Int→Nat
 | none => d
 | some v => if v < 0 then (v + (n:Int)).toNat else min v.toNat n
theorem sIx_le (n d:Nat) (hd:d≤n) (o:Option Int):sIx n d o≤n:=by
 cases o with
 | none => exact hd
 | some v =>
  show (if v < 0 then (v + (n:Int)).toNat else min v.toNat n)≤n
  by_cases hv:v < 0
  ·rw [if_pos hv]; omega
  ·rw [if_neg hv]; exact Nat.min_le_right _ _
theorem clip_eq (v:Int) (n d:Nat):(if v < 0 then max (v + (n:Int)) 0 else min v (n:Int)) = ((sIx n d (some v):Nat):Int):=by
 show (if v < 0 then max (v + (n:Int)) 0 else min v (n:Int)) = (((if v < 0 then (v + (n:Int)).toNat else min v.toNat n):Nat):Int)
 by_cases hv:v < 0
 ·simp only [if_pos hv]; omega
 ·simp only [if_neg hv]; omega
theorem adjust_gen (lo hi:Option Int) (n:Nat):Builtin.Slice.sliceAdjust lo hi 1 (n:Int) = (((sIx n 0 lo:Nat):Int),((sIx n n hi:Nat):Int)):=by
 have h1:¬ ((1:Int) < 0):=by omega
 unfold Builtin.Slice.sliceAdjust
 simp only [h1,if_false]
 refine Prod.ext ?_ ?_
 ·cases lo with
  | none => rfl
  | some v => exact clip_eq v n 0
 ·cases hi with
  | none => rfl
  | some v => exact clip_eq v n n
theorem places_gen (i j:Nat):Builtin.Slice.slicePlaces (i:Int) (j:Int) 1 = j - i:=by
 unfold Builtin.Slice.slicePlaces
 have h1:(1:Int) > 0:=by omega
 simp only [h1,if_true,Int.ediv_one]
 split <;> omega
theorem slicePart_ {v:Value} {o:Option Int} {Q:Option Int→Shared→Prop} (p:IsPart v o) (h:Q o s):wpAny (model prog w) A (Builtin.Slice.slicePartIndex v) Q E s:=by
 cases p with
 | none => exact slicePart_none h
 | int i t => exact slicePart_int h
theorem sliceApplied_gen {sl:Addr} {vl vu:Value} {lo hi:Option Int} {n:Nat} {Q:Int×Int×Nat→Shared→Prop} (hs:s.heap.IsSliceOf sl vl vu .none) (pl:IsPart vl lo) (pu:IsPart vu hi)
  (h:Q (((sIx n 0 lo:Nat):Int),1,sIx n n hi - sIx n 0 lo) s):wpAny (model prog w) A (Builtin.Slice.sliceApplied (.ref sl) (pure (n:Int))) Q E s:=by
 obtain ⟨os,hos,hcs,hds⟩:=id hs
 unfold Builtin.Slice.sliceApplied Builtin.Slice.sliceFields
 refine wpAny_bind (wpAny_bind (wpAny_field hos hds (x:=vl) rfl (wpAny_bind (wpAny_field hos hds (x:=vu) rfl (wpAny_bind (wpAny_field hos hds (x:=.none) rfl (wpAny_pure ?_)))))))
 refine wpAny_bind (slicePart_none ?_)
 show wpAny _ _ (if ((1:Int) == 0) = true then _ else _) _ _ s
 rw [if_neg (by decide)]
 refine wpAny_bind (slicePart_ pl (wpAny_bind (slicePart_ pu (wpAny_bind (wpAny_pure ?_)))))
 show wpAny _ _ (match Builtin.Slice.sliceAdjust lo hi 1 (n:Int) with | (lo,hi) => pure (lo,(1:Int),Builtin.Slice.slicePlaces lo hi 1)) _ _ s
 rw [adjust_gen lo hi n]
 show wpAny _ _ (pure (((sIx n 0 lo:Nat):Int),(1:Int),Builtin.Slice.slicePlaces ((sIx n 0 lo:Nat):Int) ((sIx n n hi:Nat):Int) 1)) _ _ s
 rw [places_gen]
 exact wpAny_pure h
theorem pick_gen (xs:Array Value) (i k:Nat):((List.range k).filterMap fun (m:Nat) => xs[((i:Int) + (m:Int) * 1).toNat]?).toArray = ((xs.toList.drop i).take k).toArray:=by
 have e:(fun (m:Nat) => xs[((i:Int) + (m:Int) * 1).toNat]?) = fun m => xs[i + m]?:=by
  funext m
  have:((i:Int) + (m:Int) * 1).toNat = i + m:=by omega
  rw [this]
 rw [e]
 have:=pick_run xs i k
 rw [List.filterMap_map] at this
 have e2:((fun x => xs[x]?)∘fun x => i + x) = fun m => xs[i + m]?:=rfl
 rw [e2] at this
 rw [this]
theorem getItem_tuple_cut {t sl:Addr} {items:Array Value} {vl vu:Value} {lo hi:Option Int} {Q:Value→Shared→Prop} (ht:IsTup s.heap t items) (hs:s.heap.IsSliceOf sl vl vu .none) (pl:IsPart vl lo) (pu:IsPart vu hi)
  (hw:¬ (sIx items.size 0 lo = 0∧sIx items.size items.size hi = items.size))
  (h:Q (.ref s.heap.objs.size) { s with heap:=s.heap.push { cls:=.type "tuple",data:=.seq ((items.toList.drop (sIx items.size 0 lo)).take (sIx items.size items.size hi - sIx items.size 0 lo)).toArray } })
  (hsz:items.size≤sizeLine):wpAny (model prog w) A (getItem (.ref t) (.ref sl)) Q E s:=by
 have htake:sizeOk (.seq ((items.toList.drop (sIx items.size 0 lo)).take (sIx items.size items.size hi - sIx items.size 0 lo)).toArray):=by
  show ((items.toList.drop (sIx items.size 0 lo)).take (sIx items.size items.size hi - sIx items.size 0 lo)).toArray.size≤sizeLine
  rw [List.size_toArray,List.length_take,List.length_drop,Array.length_toList]
  omega
 have hj:sIx items.size items.size hi≤items.size:=sIx_le _ _ (Nat.le_refl _) hi
 obtain ⟨os,hos,hcs,hds⟩:=id hs
 have hTs:s.TypeIs (.ref sl) "slice":=⟨os,hos,hcs⟩
 unfold getItem
 try with_reducible refine wpAny_holding ?_
 first | refine wpAny_bind (wpAny_pure ?_) | skip
 refine wpAny_bind (wpAny_sequenceKey ht.typeIs (by decide) ?_)
 refine wpAny_bind (wpAny_callSpecial?_slot (name:=Str.ofString "__getitem__") ht.typeIs PyProof.Rows.slot_tuple_getitem
  (wpAny_call_entry PyProof.Rows.slot_tuple_getitem ht.typeIs entry_tuple_getitem ?_ (args_tuple_getitem _ _)))
 show wpAny _ _ (Builtin.Tuple.tupleItemsOf (.ref t) >>= _) _ _ s
 refine wpAny_bind (tupleItemsOf_ ht ?_)
 refine wpAny_bind (wpAny_typeOf hTs ?_)
 rw [if_pos (by decide)]
 refine wpAny_bind (sliceApplied_gen hs pl pu ?_)
 have hno:¬ ((((sIx items.size 0 lo:Nat):Int) == 0 && (1:Int) == 1 && (sIx items.size items.size hi - sIx items.size 0 lo) == items.size) = true):=by
  intro q
  rw [Bool.and_eq_true,Bool.and_eq_true] at q
  have q1:((sIx items.size 0 lo:Nat):Int) = 0:=eq_of_beq q.1.1
  have q2:sIx items.size items.size hi - sIx items.size 0 lo = items.size:=eq_of_beq q.2
  exact hw ⟨by omega,by omega⟩
 show wpAny _ _ (if (((sIx items.size 0 lo:Nat):Int) == 0 && (1:Int) == 1 && (sIx items.size items.size hi - sIx items.size 0 lo) == items.size) = true then _ else _) _ _ s
 rw [if_neg hno,pick_gen]
 first
  | exact wpAny_bind (m:=Builtin.Tuple.tupleExact _) (wpAny_newObj_type (wpAny_pure ⟨_,rfl,wpAny_pure h⟩) htake)
  | exact wpAny_bind (m:=Builtin.Tuple.tupleExact _) (wpAny_newObj_type (wpAny_bind (wpAny_pure (wpAny_pure ⟨_,rfl,wpAny_pure h⟩))) htake)
  | exact wpAny_bind (wpAny_bind (m:=Builtin.Tuple.tupleExact _) (wpAny_newObj_type (wpAny_pure (wpAny_pure ⟨_,rfl,wpAny_pure h⟩)) htake))
  | exact wpAny_bind (wpAny_bind (m:=Builtin.Tuple.tupleExact _) (wpAny_newObj_type (wpAny_pure ⟨_,rfl,wpAny_pure h⟩) htake))
end
end HT
namespace L2
open PySem PySem.Spec PyProof.Rows
abbrev TO:=St→Hp→(Option Int→Hp→Prop)→Prop
def PO (X:Cx) (e:Option Expr) (t:TO):Prop :=
 ∀ (pins:List (Addr×Obj)) (s:Shared) (σ:St) (H:Hp) (Q:Option Int→Hp→Prop),Inv X pins σ H s→t σ H Q →
  wpAny (model X.prog X.w) X.A (evalPart e X.env) (fun u s' => ∃ o H',Inv X pins σ H' s'∧IsPart u o∧Q o H') X.xe s
def tNoPart:TO:=fun _ H Q => Q none H
def tPart (t:TE):TO:=fun σ H Q => t σ H fun x H1 => ∃ i,x = .int i∧Q (some i) H1
theorem intsAre_of {ns:List Int}:∀ {us:List Value},Vals (ns.map V.int) us→IntsAre us ns:=by
 induction ns with
 | nil => intro us r; rw [List.map_nil] at r; cases r; exact .nil
 | cons n ns ih =>
  intro us r
  rw [List.map_cons] at r
  cases r with
  | cons r1 r2 =>
   obtain ⟨t,e⟩:=r1
   subst e
   exact .cons n t (ih r2)
section
variable {X:Cx} {e:Expr} {te:TE} {lo hi:Option Expr} {tl th:TO} {pos p2:Pos}
theorem po_none:PO X none tNoPart:=by
 intro pins s σ H Q I h
 rw [evalPart_none]
 exact wpAny_pure ⟨none,H,I,.none,h⟩
theorem po_some (h:PE X e te):PO X (some e) (tPart te):=by
 intro pins s σ H Q I hw
 rw [evalPart_some]
 refine thn (h pins s σ H _ I hw) fun u s1 zz => ?_
 obtain ⟨x,H1,I1,r1,q1⟩:=zz
 obtain ⟨i,rfl,q⟩:=q1
 obtain ⟨t,rfl⟩:=r1
 exact ⟨some i,H1,I1,.int i t,q⟩
def SlR (X:Cx) (r:V→Option Int→Option Int→Hp→VK→Prop):Prop :=
 ∀ (pins:List (Addr×Obj)) (s:Shared) (σ:St) (H:Hp) (x:V) (v vl vu:Value) (lo hi:Option Int) (sl:Addr) (Q:VK),Inv X pins σ H s→RelV x v→s.heap.IsSliceOf sl vl vu .none→IsPart vl lo→IsPart vu hi→r x lo hi H Q →
  ∃ T id,typeLookup (.type T) "__getitem__" = pure (some (.builtin id))∧s.TypeIs v T∧wpAny (model X.prog X.w) X.A (getItem v (.ref sl)) (EP X pins σ Q) X.xe s
def tSl (r:V→Option Int→Option Int→Hp→VK→Prop) (te:TE) (tl th:TO):TE:=fun σ H Q => te σ H fun x H1 => tl σ H1 fun l H2 => th σ H2 fun u H3 => r x l u H3 Q
theorem pe_slice {r:V→Option Int→Option Int→Hp→VK→Prop} (hr:SlR X r) (he:PE X e te) (hl:PO X lo tl) (hu:PO X hi th):PE X (.Subscript e (.Slice lo hi none p2) pos) (tSl r te tl th):=by
 intro pins s σ H Q I h
 refine Subscript_ (thn (he pins s σ H _ I h) fun v s1 zz => ?_)
 obtain ⟨x,H1,I1,r1,q1⟩:=zz
 refine wpAny_Slice (thn (hl pins s1 σ H1 _ I1 q1) fun vl s2 ⟨l,H2,I2,pl,q2⟩ => thn (hu pins s2 σ H2 _ I2 q2) fun vu s3 zz => ?_)
 obtain ⟨u,H3,I3,pu,q3⟩:=zz
 rw [evalPart_none]
 refine wpAny_pure ?_
 have I4:Inv X pins σ H3 { s3 with heap:=s3.heap.push { cls:=.type "slice",data:=.fields #[vl,vu,.none] } }:=I3.kept (t':=s3.toks) fun b ob q => Heap.get?_push_of_some _ q
 obtain ⟨T,id,hT,ht,hg⟩:=hr pins { s3 with heap:=s3.heap.push { cls:=.type "slice",data:=.fields #[vl,vu,.none] } } σ H3 x v vl vu l u s3.heap.objs.size Q I4 r1 (Heap.IsSliceOf.new ..) pl pu q3
 show wpAny (model X.prog X.w) X.A (subscriptTail e (.Slice lo hi none p2) v (.ref s3.heap.objs.size)) (EP X pins σ Q) X.xe { s3 with heap:=s3.heap.push { cls:=.type "slice",data:=.fields #[vl,vu,.none] } }
 exact tail_any (ops:=[.ref s3.heap.objs.size,v]) ht hT hg (by with_unfolding_all rfl)
def cutV (xs:List V) (lo hi:Option Int):List V:=(xs.drop (HT.sIx xs.length 0 lo)).take (HT.sIx xs.length xs.length hi - HT.sIx xs.length 0 lo)
theorem cutV_length (xs:List V) (lo hi:Option Int):(cutV xs lo hi).length≤xs.length:=by
 unfold cutV
 rw [List.length_take,List.length_drop]
 exact Nat.le_trans (Nat.min_le_right _ _) (Nat.sub_le _ _)
def rSlT (K:PySem.W.Frag):V→Option Int→Option Int→Hp→VK→Prop:=fun x lo hi H Q => ∃ a xs,x = .ref a∧SqT K H a xs ∧
 ¬ (HT.sIx xs.length 0 lo = 0∧HT.sIx xs.length xs.length hi = xs.length)∧∀ p,H p = none→Q (.ref p) (upd H p (.tup (cutV xs lo hi)))
theorem sl_tup:SlR X (rSlT X.K):=by
 intro pins s σ H x v vl vu lo hi sl Q I rx hs pl pu h
 obtain ⟨a,xs,rfl,hx,hw,q⟩:=h
 cases rx
 obtain ⟨its,r,ht,hz⟩:=I.tuple hx
 have hlen:its.toArray.size = xs.length:=by rw [List.size_toArray]; exact r.length.symm
 refine ⟨"tuple",_,PyProof.Rows.slot_tuple_getitem.lookup,ht.typeIs,?_⟩
 refine HT.getItem_tuple_cut ht hs pl pu (by rw [hlen]; exact hw) ?_ (by rw [hlen]; exact hz)
 rw [hlen]
 refine ⟨.ref s.heap.objs.size,_,I.laid (t':=s.toks) (o:=.tup (cutV xs lo hi)) (fun b ob q => Heap.get?_push_of_some _ q) (Nat.le_refl _) ?_,rfl,q _ (I.hok.fresh (Nat.le_refl _))⟩
 exact ⟨Nat.le_trans (cutV_length xs lo hi) hz,_,(r.drop (HT.sIx xs.length 0 lo)).take (HT.sIx xs.length xs.length hi - HT.sIx xs.length 0 lo),TupD.new _ _⟩
def rLtT (K:PySem.W.Frag):R2:=fun x y H Q => ∃ a b ns ms,x = .ref a∧y = .ref b∧SqT K H a (ns.map V.int)∧SqT K H b (ms.map V.int)∧Q (.bl (HT.lexLt ns ms)) H
theorem op_ltT (hu:X.A.units < cLine):OpR X (compareOp .Lt) (rLtT X.K):=by
 intro pins s σ H x y v u Q I rx ry h
 obtain ⟨a,b,ns,ms,rfl,rfl,ha,hb,q⟩:=h
 cases rx
 cases ry
 obtain ⟨its,r1,p1,_⟩:=I.tuple ha
 obtain ⟨its2,r2,p2,_⟩:=I.tuple hb
 have i1:IntsAre its.toArray.toList ns:=intsAre_of r1
 have i2:IntsAre its2.toArray.toList ms:=intsAre_of r2
 exact HT.lt_tupInts p1 p2 i1 i2 hu ⟨.bl (HT.lexLt ns ms),H,I,rfl,q⟩
end
def ixN (n:Nat) (i:Int):Option Nat:=if 0≤i then (if i < n then some i.toNat else none) else if -(n:Int)≤i then some (i + n).toNat else none
def atI {α:Type} (xs:List α) (i:Int):Option α:=(ixN xs.length i).bind fun j => xs[j]?
theorem ixN_seq {n:Nat} {i:Int} {j:Nat} (h:ixN n i = some j):seqIndex? i n = some j∧j < n∧-(n:Int)≤i∧i < n:=by
 unfold ixN at h
 by_cases h0:0≤i
 ·rw [if_pos h0] at h
  by_cases h1:i < n
  ·rw [if_pos h1] at h
   have e:i.toNat = j:=Option.some.inj h
   exact ⟨by rw [seqIndex_of h0 h1,e],by omega,by omega,h1⟩
  ·rw [if_neg h1] at h; cases h
 ·rw [if_neg h0] at h
  by_cases h1 : -(n:Int)≤i
  ·rw [if_pos h1] at h
   have e:(i + n).toNat = j:=Option.some.inj h
   exact ⟨by rw [seqIndex_neg (by omega) h1,e],by omega,h1,by omega⟩
  ·rw [if_neg h1] at h; cases h
theorem atI_get {α:Type} {xs:List α} {i:Int} {v:α} (h:atI xs i = some v):∃ j,seqIndex? i xs.length = some j∧xs[j]? = some v∧j < xs.length∧-(xs.length:Int)≤i∧i < xs.length:=by
 unfold atI at h
 cases e:ixN xs.length i with
 | none => rw [e] at h; cases h
 | some j =>
  rw [e] at h
  obtain ⟨h1,h2,h3,h4⟩:=ixN_seq e
  exact ⟨j,h1,h,h2,h3,h4⟩
def PlainIx (b:Expr):Prop:=∀ o i,subscripted b false o i = operate [o,i] (getItem o i)
def IxR (X:Cx) (r:R2):Prop :=
 ∀ (value slice:Expr) (pins:List (Addr×Obj)) (s:Shared) (σ:St) (H:Hp) (x y:V) (v u:Value) (Q:VK),Inv X pins σ H s→RelV x v→RelV y u→r x y H Q →
  subscripted slice false v u = operate [v,u] (getItem v u)→wpAny (model X.prog X.w) X.A (subscriptTail value slice v u) (EP X pins σ Q) X.xe s
def MtR (X:Cx) (id:String) (r:V→List V→Hp→VK→Prop):Prop :=
 ∀ (pins:List (Addr×Obj)) (s:Shared) (σ:St) (H:Hp) (x:V) (xs:List V) (v:Value) (us:List Value) (Q:VK),Inv X pins σ H s→RelV x v→Vals xs us→r x xs H Q →
  wpAny (model X.prog X.w) X.A (call (.builtin id) (v::us)) (EP X pins σ Q) X.xe s
section
variable {X:Cx} {a b:Expr} {ta tb:TE} {pos:Pos}
theorem pe_ix {r:R2} (hr:IxR X r) (ha:PE X a ta) (hb:PE X b tb) (hs:PlainIx b):PE X (.Subscript a b pos) (tOp r ta tb):=by
 intro pins s σ H Q I h
 exact Subscript_ (binT ha hb I h fun v u s2 x y H2 I2 rx ry q => hr a b pins s2 σ H2 x y v u Q I2 rx ry q (hs _ _))
def rIxL (K:PySem.W.Frag):R2:=fun x y H Q => ∃ p xs i v,x = .ref p∧y = .int i∧SqL K H p xs∧atI xs i = some v∧Q v H
def rIxT (K:PySem.W.Frag):R2:=fun x y H Q => ∃ p xs i v,x = .ref p∧y = .int i∧SqT K H p xs∧atI xs i = some v∧Q v H
def rIxS:R2:=fun x y H Q => ∃ z i c,x = .str z∧y = .int i∧z.length≤sizeLine∧atI z.cps.toList i = some c∧Q (.str ⟨#[c]⟩) H
theorem ix_list:IxR X (rIxL X.K):=by
 intro value slice pins s σ H x y v u Q I rx ry h hs
 obtain ⟨p,xs,i,z,rfl,rfl,hq,he,q⟩:=h
 cases rx
 obtain ⟨t,rfl⟩:=ry
 obtain ⟨its,r,pl,hz⟩:=I.list hq
 obtain ⟨j,h1,h2,h3,h4,h5⟩:=atI_get he
 obtain ⟨w,ew,rw'⟩:=r.get h2
 have hl:=r.length
 have hn:=line63
 have fin:EP X pins σ Q w s:=⟨z,H,I,rw',q⟩
 by_cases h0:0≤i
 ·have hj:i.toNat = j:=by
   rw [seqIndex_of h0 h5] at h1
   exact Option.some.inj h1
  exact item_listR pl.isList h0 (by omega) (by rw [hj]; simpa using ew) fin hs
 ·have hj:(i + (its.toArray.size:Int)).toNat = j:=by
   rw [seqIndex_neg (by omega) h4] at h1
   rw [List.size_toArray,← hl]
   exact Option.some.inj h1
  exact subscriptTail_builtinR (x:=w) pl.isList.typeIs slot_list_getitem.lookup
   (wpAny_getItem_list_neg (Q:=fun r s' => r = w∧EP X pins σ Q r s') pl.isList (by omega) (by rw [List.size_toArray] <;> omega) (by omega) (by rw [hj]; simpa using ew) ⟨rfl,fin⟩) hs
theorem ix_tup:IxR X (rIxT X.K):=by
 intro value slice pins s σ H x y v u Q I rx ry h hs
 obtain ⟨p,xs,i,z,rfl,rfl,hq,he,q⟩:=h
 cases rx
 obtain ⟨t,rfl⟩:=ry
 obtain ⟨its,r,pl,hz⟩:=I.tuple hq
 obtain ⟨j,h1,h2,h3,h4,h5⟩:=atI_get he
 obtain ⟨w,ew,rw'⟩:=r.get h2
 have hl:=r.length
 have hn:=line63
 have fin:EP X pins σ Q w s:=⟨z,H,I,rw',q⟩
 exact subscriptTail_builtinR (x:=w) pl.typeIs slot_tuple_getitem.lookup
  (getItem_tuple (j:=j) (Q:=fun r s' => r = w∧EP X pins σ Q r s') pl (by omega) (by omega) (by rw [List.size_toArray,← hl]; exact h1) (by simpa using ew) ⟨rfl,fin⟩) hs
theorem ix_str:IxR X rIxS:=by
 intro value slice pins s σ H x y v u Q I rx ry h hs
 obtain ⟨z,i,c,rfl,rfl,hz,he,q⟩:=h
 obtain ⟨t,rfl⟩:=rx
 obtain ⟨t',rfl⟩:=ry
 obtain ⟨j,h1,h2,h3,h4,h5⟩:=atI_get he
 have hl:z.cps.toList.length = z.length:=by simp [Str.length]
 rw [hl] at h1 h4 h5
 have hn:=line63
 exact tail_any (typeIs_str s z t) slot_str_getitem.lookup (getItem_str (c:=c) (by
  have e1:decide (i < -(2 ^ 63:Int)) = false:=decide_eq_false (by omega)
  have e2:decide (i ≥ 2 ^ 63) = false:=decide_eq_false (by omega)
  rw [e1,e2,Bool.or_false]) (by rw [h1]; simpa using h2) ⟨.str ⟨#[c]⟩,H,I.tok _,⟨_,rfl⟩,q⟩) hs
theorem call_len_seq:CallR X (.builtin "len") (fun xs H Q => ∃ p ys,xs = [.ref p]∧(SqL X.K H p ys∨SqT X.K H p ys)∧Q (.int ys.length) H):=by
 intro pins s σ H xs us Q I r h
 obtain ⟨p,ys,rfl,hq,q⟩:=h
 obtain ⟨u,rfl,rx⟩:=vals1 r
 cases rx
 have hn:=line63
 rcases hq with hq | hq
 ·obtain ⟨its,r',pl,hz⟩:=I.list hq
  have hlen:=r'.length
  exact Calls.call_len_list pl.isList (by simp only [List.size_toArray] <;> omega) ⟨.int ys.length,H,I.tok _,⟨s.toks + 1,by rw [List.size_toArray,hlen]⟩,q⟩
 ·obtain ⟨its,r',pl,hz⟩:=I.tuple hq
  have hlen:=r'.length
  exact len_tuple pl (by simp only [List.size_toArray] <;> omega) ⟨.int ys.length,H,I.tok _,⟨s.toks + 1,by rw [List.size_toArray,hlen]⟩,q⟩
theorem call_len_str:CallR X (.builtin "len") (fun xs H Q => ∃ z,xs = [.str z]∧z.length≤sizeLine∧Q (.int z.length) H):=by
 intro pins s σ H xs us Q I r h
 obtain ⟨z,rfl,hz,q⟩:=h
 obtain ⟨u,rfl,t,rfl⟩:=vals1 r
 have hn:=line63
 exact len_str (by omega) ⟨.int z.length,H,I.tok _,⟨_,rfl⟩,q⟩
theorem call_list_of:CallR X (.type "list") (fun xs H Q => ∃ p ys,xs = [.ref p]∧(SqL X.K H p ys∨SqT X.K H p ys)∧∀ l,H l = none→Q (.ref l) (upd H l (.lst ys))):=by
 intro pins s σ H xs us Q I r h
 obtain ⟨p,ys,rfl,hq,q⟩:=h
 obtain ⟨u,rfl,rx⟩:=vals1 r
 cases rx
 have fin:∀ (its:List Value),Vals ys its→ys.length≤sizeLine→∀ (h':Heap) (c':Nat),(∀ b o',s.heap.get? b = some o'→h'.get? b = some o') →
   h'.get? s.heap.objs.size = some { cls:=.type "list",dict:=none,data:=.seq its.toArray c',slots:=#[] }→EP X pins σ Q (.ref s.heap.objs.size) { s with heap:=h' }:=fun its r' hz h' c' kp e =>
  ⟨.ref s.heap.objs.size,_,I.laid (t':=s.toks) kp (Nat.le_refl _) (show ObjOk X.prog X.w _ h' _ (.lst ys) from ⟨hz,its,c',r',e⟩),rfl,q _ (I.hok.fresh (Nat.le_refl _))⟩
 rcases hq with hq | hq
 ·obtain ⟨its,r',pl,hz⟩:=I.list hq
  have hlen:=r'.length
  obtain ⟨o,ho,hc,n,hd⟩:=pl.isList
  exact call_list_seq p (.inl rfl) ho hc hd (fun h' c' kp e => fin its r' hz h' c' kp e) (by simp only [List.size_toArray] <;> omega)
 ·obtain ⟨its,r',pl,hz⟩:=I.tuple hq
  have hlen:=r'.length
  obtain ⟨o,ho,hc,n,hd⟩:=pl
  exact call_list_seq p (.inr rfl) ho hc hd (fun h' c' kp e => fin its r' hz h' c' kp e) (by simp only [List.size_toArray] <;> omega)
theorem call_tuple_of:CallR X (.type "tuple") (fun xs H Q => ∃ p ys,xs = [.ref p]∧((SqL X.K H p ys∧∀ l,H l = none→Q (.ref l) (upd H l (.tup ys)))∨(SqT X.K H p ys∧Q (.ref p) H))):=by
 intro pins s σ H xs us Q I r h
 obtain ⟨p,ys,rfl,h⟩:=h
 obtain ⟨u,rfl,rx⟩:=vals1 r
 cases rx
 rcases h with ⟨hq,q⟩ | ⟨hq,q⟩
 ·obtain ⟨its,r',pl,hz⟩:=I.list hq
  have hlen:=r'.length
  refine call_tuple_list pl.isList (fun h' kp => ?_) (by simp only [List.size_toArray] <;> omega)
  have I1:Inv X pins σ H { s with heap:=h' }:=I.kept (t':=s.toks) kp
  have I2:Inv X pins σ (upd H h'.objs.size (.tup ys)) { s with heap:=h'.push { cls:=.type "tuple",data:=.seq its.toArray } } :=
   I1.laid (t':=s.toks) (fun b o e => Heap.get?_push_of_some _ e) (Nat.le_refl _) (show ObjOk X.prog X.w _ _ _ (.tup ys) from ⟨hz,its,r',TupD.new _ _⟩)
  exact ⟨.ref h'.objs.size,_,I2,rfl,q _ (I1.hok.fresh (Nat.le_refl _))⟩
 ·obtain ⟨its,r',pl,hz⟩:=I.tuple hq
  exact call_tuple_same pl ⟨.ref p,H,I,rfl,q⟩
def tyV (K:PySem.W.Frag) (T:String) (x:V) (H:Hp):Prop:=match x with
 | .str _ => T = "str"
 | .int _ => T = "int"
 | .ref p => (T = "list"∧∃ xs,SqL K H p xs)∨(T = "tuple"∧∃ o,K.lookup p = some o∧o.cls = .type "tuple"∧o.dict = none) ∨
   (T = "dict"∧((∃ kvs,H p = some (.dK kvs))∨∃ kvs,H p = some (.dT kvs)))∨(T = "set"∧∃ S n,H p = some (.set S n))
 | _ => False
theorem tyV_is {pins:List (Addr×Obj)} {σ:St} {H:Hp} {s:Shared} {T:String} {x:V} {v:Value} (I:Inv X pins σ H s) (r:RelV x v) (ty:tyV X.K T x H) :
  s.TypeIs v T∧∀ a,v = .ref a→∃ ob,s.heap.get? a = some ob∧ob.dict = none:=by
 cases x with
 | str z =>
  obtain ⟨t,rfl⟩:=r
  cases (show T = "str" from ty)
  exact ⟨typeIs_str s z t,fun _ e => nomatch e⟩
 | int i =>
  obtain ⟨t,rfl⟩:=r
  cases (show T = "int" from ty)
  exact ⟨typeIs_int s i t,fun _ e => nomatch e⟩
 | ref p =>
  cases r
  rcases ty with ⟨rfl,xs,hq⟩ | ⟨rfl,o,hk,hc,hd⟩ | ⟨rfl,hk⟩ | ⟨rfl,S,n,hk⟩
  ·obtain ⟨its,_,pl,_⟩:=I.list hq
   refine ⟨pl.isList.typeIs,fun a e => ?_⟩
   cases e
   obtain ⟨o,n,e,c,hd,_⟩:=pl
   exact ⟨o,e,hd⟩
  ·refine ⟨⟨o,I.kIn p o hk,hc⟩,fun a e => ?_⟩
   cases e
   exact ⟨o,I.kIn _ o hk,hd⟩
  ·have z:∃ o,s.heap.get? p = some o∧o.ExactDict:=by
    rcases hk with ⟨kvs,hk⟩ | ⟨kvs,hk⟩
    ·obtain ⟨_,_,_,_,o,_,_,e,ex,_⟩:=I.hok p _ hk
     exact ⟨o,e,ex⟩
    ·obtain ⟨_,_,_,_,o,_,_,e,ex,_⟩:=I.hok p _ hk
     exact ⟨o,e,ex⟩
   obtain ⟨o,e,ex⟩:=z
   refine ⟨⟨o,e,ex.1⟩,fun a e2 => ?_⟩
   cases e2
   exact ⟨o,e,ex.2.1⟩
  ·obtain ⟨o,_,_,_,e,ex,_⟩:=I.hok p _ hk
   refine ⟨⟨o,e,ex.1⟩,fun a e2 => ?_⟩
   cases e2
   exact ⟨o,e,ex.2.1⟩
 | _ => exact False.elim ty
def tBM (K:PySem.W.Frag) (T:String) (r:V→List V→Hp→VK→Prop) (to:TE) (t:TA):TE:=fun σ H Q => to σ H fun x H1 => tyV K T x H1∧t σ H1 fun xs H2 => r x xs H2 Q
variable {o e:Expr} {es:List Expr} {to:TE} {t:TA} {name:Str} {apos cpos:Pos} {T id:String} {r:V→List V→Hp→VK→Prop}
theorem pe_bm (pa:PlainAttrs T) (slot:Slot T name id) (hty:typeOf (.builtin id) = pure (.type "method_descriptor")) (hm:MtR X id r) (ho:PE X o to) (ha:PA X (e::es) t)
  (hbase:attributeBase o name X.env (eval o X.env) = eval o X.env:=by rfl)
  (hfew:((backTo cpos (starEach (e::es) X.env)).all (fun x => !x.1) && (backToKw cpos (keywordEach [] X.env)).all (fun x => x.1.isSome)
   && decide ((e::es).length + ([]:List Keyword).length + (if ([]:List Keyword).isEmpty then 0 else 1) < 30)) = true:=by rfl)
  (hline:(apos.endLine == cpos.line) = true:=by rfl) (hs:starEach (e::es) X.env = (false,eval e X.env)::starEach es X.env:=by rfl) (hplain:(backTo cpos (starEach es X.env)).any (·.1) = false:=by rfl) :
  PE X (.Call (.Attribute o name apos) (e::es) [] cpos) (tBM X.K T r to t):=by
 intro pins s σ H Q I h
 refine wpAny_Call_method_late hbase hfew hline rfl (thn (ho pins s σ H _ I h) fun v s1 zz => ?_)
 obtain ⟨x,H1,I1,r1,ty,q1⟩:=zz
 obtain ⟨h1,h2⟩:=tyV_is I1 r1 ty
 refine ⟨T,id,pa,slot,hty,h1,h2,?_⟩
 have hA:=ha cpos pins s1 σ H1 _ I1 q1
 rw [hs] at hA ⊢
 refine Calls.callWith_builtin (by show (false || (backTo cpos (starEach es X.env)).any (·.1)) = false; rw [hplain] <;> rfl) (Calls.evalArgs_plain ?_)
 exact thn hA fun us s2 ⟨vs,H2,I2,r2,q2⟩ => hm pins s2 σ H2 x vs v us Q I2 r1 r2 q2
/- xs.append(e),list.index on a module's tuple .. are MtR facts of 06m -/
end
def MtM (X:Cx) (id:String) (r:V→List V→Hp→VK→Prop):Prop :=
 ∀ (pins:List (Addr×Obj)) (s:Shared) (σ:St) (H:Hp) (x:V) (xs:List V) (v:Value) (us:List Value) (Q:VK),Inv X pins σ H s→RelV x v→Vals xs us→r x xs H Q →
  wpAny (model X.prog X.w) X.A (call (.builtin id) (v::us)) (EP X pins σ Q) X.xe s
theorem Vals.one {x:V} {us:List Value} (h:Vals [x] us):∃ u,us = [u]∧RelV x u:=by
 cases h with
 | cons r t => cases t; exact ⟨_,rfl,r⟩
theorem Vals.eraseIdx:∀ {xs:List V} {us:List Value} (i:Nat),Vals xs us→Vals (xs.eraseIdx i) (us.eraseIdx i)
 | _,_,_,.nil => .nil
 | _,_,0,.cons _ t => t
 | _,_,i + 1,.cons r t => .cons r (Vals.eraseIdx i t)
theorem len_erase {α:Type}:∀ (l:List α) (i:Nat),(l.eraseIdx i).length≤l.length
 | [],_ => Nat.le_refl _
 | _::_,0 => Nat.le_succ _
 | _::r,i + 1 => Nat.succ_le_succ (len_erase r i)
section
variable {X:Cx} {pins:List (Addr×Obj)} {σ:St} {H:Hp} {s:Shared} {l b:Addr} {xs ys zs:List V}
theorem Inv.lset {its its':List Value} {n:Nat} {f:Array Value→Array Value} {t':Nat} (I:Inv X pins σ H s) (hH:H l = some (.lst xs))
  (e:s.heap.get? l = some { cls:=.type "list",data:=.seq its.toArray n }) (hf:f its.toArray = its'.toArray) (hv:Vals ys its') (hz:ys.length≤sizeLine) :
  Inv X pins σ (upd H l (.lst ys)) { s with heap:=s.heap.update l (Obj.mapSeq f),toks:=t' }:=by
 have q:=PySem.IsL.update e f
 rw [hf] at q
 refine I.write (x:=l) (e:=l) (by rw [hH]; exact trivial) (.inl rfl) (fun b' u hb hu => (Heap.get?_update_other s.heap (Obj.mapSeq f) (Ne.symm hb)).trans hu) ⟨_,q⟩ ?_
 exact ⟨hz,its',_,hv,q⟩
theorem Inv.lnew {its:List Value} {t':Nat} (I:Inv X pins σ H s) (hv:Vals ys its) (hz:ys.length≤sizeLine) :
  Inv X pins σ (upd H s.heap.objs.size (.lst ys)) { s with heap:=s.heap.push { cls:=.type "list",data:=.seq its.toArray },toks:=t' } :=
 I.laid (fun _ _ q => Heap.get?_push_of_some _ q) (Nat.le_refl _) ⟨hz,its,0,hv,Heap.get?_push_size _ rfl⟩
theorem Inv.fresh (I:Inv X pins σ H s):H s.heap.objs.size = none:=I.hok.fresh (Nat.le_refl _)
theorem Inv.lstM (I:Inv X pins σ H s) (hH:H l = some (.lst xs)):xs.length≤sizeLine∧∃ (its:List Value) (n:Nat),Vals xs its∧xs.length = its.length∧s.heap.get? l = some { cls:=.type "list",data:=.seq its.toArray n }:=by
 obtain ⟨z,its,n,r,e⟩:=I.hok l _ hH
 exact ⟨z,its,n,r,r.length,e⟩
theorem notLongL {n:Nat} (h:n≤sizeLine):Builtin.List.listTooLong n = false:=by
 unfold Builtin.List.listTooLong
 exact decide_eq_false (by omega)
end
section
variable {X:Cx}
def rAppend:V→List V→Hp→VK→Prop:=fun x vs H Q => ∃ l xs y,x = .ref l∧vs = [y]∧H l = some (.lst xs)∧xs.length < sizeLine∧Q .non (upd H l (.lst (xs++[y])))
theorem mt_append:MtM X "list.append" rAppend:=by
 intro pins s σ H x vs v us Q I rx rv h
 obtain ⟨l,xs,y,rfl,rfl,hH,hz,q⟩:=h
 cases rx
 obtain ⟨u,rfl,ru⟩:=rv.one
 obtain ⟨z,its,n,r,hl,e⟩:=I.lstM hH
 refine call_meets F.slot_list_append ⟨_,e,rfl⟩ F.entry_list_append (F.args_list_append_2 _ _) (PySem.list_append l its.toArray n u (by rw [List.size_toArray]; omega)) ⟨e,?_⟩
 refine ⟨.non,_,I.lset (its':=its++[u]) hH e (by simp) (r.append (.cons ru .nil)) ?_,rfl,q⟩
 rw [List.length_append,List.length_singleton]
 omega
def rExtend:V→List V→Hp→VK→Prop:=fun x vs H Q => ∃ l b xs zs,x = .ref l∧vs = [.ref b]∧H l = some (.lst xs)∧H b = some (.lst zs)∧xs.length + zs.length≤sizeLine∧Q .non (upd H l (.lst (xs++zs)))
theorem mt_extend:MtM X "list.extend" rExtend:=by
 intro pins s σ H x vs v us Q I rx rv h
 obtain ⟨l,b,xs,zs,rfl,rfl,hH,hB,hz,q⟩:=h
 cases rx
 obtain ⟨u,rfl,ru⟩:=rv.one
 cases ru
 obtain ⟨z,its,n,r,hl,e⟩:=I.lstM hH
 obtain ⟨z2,its2,n2,r2,hl2,e2⟩:=I.lstM hB
 have hsz:its.toArray.size + its2.toArray.size≤sizeLine:=by rw [List.size_toArray,List.size_toArray]; omega
 have hlong:¬ (!its.toArray.isEmpty && Builtin.List.listTooLong (its.toArray.size + its2.toArray.size)) = true:=by
  rw [notLongL hsz,Bool.and_false]
  exact Bool.false_ne_true
 refine call_meets F.slot_list_extend ⟨_,e,rfl⟩ F.entry_list_extend (F.args_list_extend_2 _ _)
  (AutoSeq1.list_extend_list_list_0 l its.toArray n b its2.toArray n2 hlong (by rw [List.size_toArray]; omega) (by omega)) ⟨e,e2,?_⟩
 refine ⟨.non,_,I.lset (its':=its++its2) hH e (by simp) (r.append r2) ?_,rfl,q⟩
 rw [List.length_append]
 omega
def rCat:R2:=fun x y H Q => ∃ l b xs zs,x = .ref l∧y = .ref b∧H l = some (.lst xs)∧H b = some (.lst zs)∧xs.length + zs.length≤sizeLine∧∀ p,H p = none→Q (.ref p) (upd H p (.lst (xs++zs)))
theorem op_cat:OpR X (binaryOp .Add) rCat:=by
 intro pins s σ H x y v u Q I rx ry h
 obtain ⟨l,b,xs,zs,rfl,rfl,hH,hB,hz,q⟩:=h
 cases rx
 cases ry
 obtain ⟨z,its,n,r,hl,e⟩:=I.lstM hH
 obtain ⟨z2,its2,n2,r2,hl2,e2⟩:=I.lstM hB
 refine PySem.P.add_list e e2 ?_ (by rw [List.size_toArray,List.size_toArray]; omega)
 have ea:its.toArray++its2.toArray = (its++its2).toArray:=by simp
 rw [ea]
 exact ⟨.ref _,_,I.lnew (t':=s.toks) (r.append r2) (by rw [List.length_append]; omega),rfl,q _ I.fresh⟩
end
end L2
namespace Att
open PySem PySem.W PySem.Calls PyProof.Rows
theorem ints_of_wellAll {P:Params} {h:Heap}:∀ (ns:List Int) (vs:List Value),WellAll P h vs (ns.map WData.int)→IntsAre vs ns:=by
 intro ns
 induction ns with
 | nil =>
  intro vs w
  rw [List.map_nil] at w
  cases w
  exact .nil
 | cons n ns ih =>
  intro vs w
  rw [List.map_cons] at w
  cases w with
  | cons a b =>
   cases a
   exact .cons _ _ (ih _ b)
theorem script_of {l:OpenLaw} {n:Nat} (hn:l.most = some n) {P:Params} {h:Heap} {args:List WData} {vals:List Value}
  (hpre:l.row.toRowW.claim.pre args = true) (hwl:WellAll P h vals args) :
  ∃ a vs ns,vals = [Value.ref a]∧args = [WData.list (ns.map WData.int)]∧h.get? a = some { cls:=.type "list",data:=.seq vs.toArray }∧IntsAre vs ns∧ns.length≤n:=by
 have hsh:WShape.hasAll [] args [.list .int] = true:=(pre_splitW hpre).1
 have hc:l.pre.holds [] { args:=args } = true:=(pre_splitW hpre).2
 obtain ⟨d,r,rfl,h1,h2⟩:=hasAllW_cons hsh
 obtain rfl:=hasAllW_nil h2
 obtain ⟨xs,rfl,h3⟩:=hasW_list h1
 obtain ⟨ns,rfl⟩:=items_int h3
 have hlen:ns.length≤n:=by
  unfold OpenLaw.pre at hc
  have h4:(WTm.not (.lt (.lit (.int (n:Int))) (.len (.arg 0)))).holds [] { args:=[.list (ns.map .int)] } = true:=by
   have h4:=(holds_andW hc).1
   rw [hn] at h4
   exact h4
  have h5:=condW_of h4 (w_not (w_lt w_lit (w_len_list (w_arg rfl))))
  rw [List.length_map] at h5
  refine Nat.le_of_not_lt fun q => ?_
  have q':(n:Int) < ((ns.length:Nat):Int):=by omega
  first
   | (rw [decide_eq_true q'] at h5; exact absurd h5 (by decide))
   | (simp at h5; omega)
 cases hwl with
 | cons w1 w2 =>
  cases w2
  cases w1 with
  | list ho hall => exact ⟨_,_,ns,rfl,rfl,ho,ints_of_wellAll ns _ hall,hlen⟩
theorem post_true (l:OpenLaw) (args:List WData):l.row.toRowW.claim.post args (.bool true) args = true :=
 postW_of (r:=l.row.toRowW) (X:=(true == true))
  (show WShape.has [] (.bool true) .bool = true by first | rfl | decide | simp [WShape.has,WShape.arms,WShape.armsAll])
  (show (WTm.eq .res (.lit (.bool true))).value [] { args:=args,res:=some (.bool true),after:=args } = some (.bool (true == true)) from w_eq_bool (w_res rfl) w_lit) rfl
theorem attach_call {l:OpenLaw} {n:Nat} {q:Program} {loose:List Str} {XP:(Str→Option Value)→Heap→Prop} {YP:World→Heap→Prop} {d:DefRec}
  (hn:l.most = some n) (hdf:d.params.defaults = [])
  (call:∀ (w:World) (s₀ s₁:Shared) (mg mb:Str→Option Value) (fa:Addr) (o:Obj) (pm cd doc:Value) (a:Addr) (vs:List Value) (ns:List Int),
   Ground q loose [] XP w s₀ mg mb s₁.heap→YP w s₁.heap →
   s₁.heap.get? fa = some o→o.data = .func (docDef d.name d.params d.body d.scope pm cd doc)→s₁.heap.CodeRec cd d.name→mg d.name = some (.ref fa) →
   s₁.heap.get? a = some { cls:=.type "list",data:=.seq vs.toArray }→IntsAre vs ns→ns.length≤n→s₁.gens = #[] →
   codeAny (model l.prog w) callerA (.call (.ref fa) ⟨[.ref a],[]⟩) (fun r s' => r = .ok (.ret (.bool true))∧OldK s₁.heap s'.heap∧s'.os = s₁.os∧AllBare s'.gens) s₁) :
  WalkO q loose XP YP l.row.toRowW d [] (fun f vs => PySem.call f vs):=by
 intro w s₀ s₁ mg mb G Y fa o pm cd doc dV kV ho hd hcd hD hmg hg args vals as hpre hlay hrd hwl hlo
 obtain rfl:dV = .none:=Dflts.none hD hdf
 obtain rfl:kV = .none:=Dflts.noKw hD
 obtain ⟨a,vs,ns,rfl,rfl,hobj,hints,hlen⟩:=script_of hn hpre hwl
 refine enter_call (codeAny_mono (call w s₀ s₁ mg mb fa o pm cd doc a vs ns G Y ho (fd_plain hd) hcd hmg hobj hints hlen hg) fun r s' hq => ?_)
 obtain ⟨rfl,h2,h3,h4⟩:=hq
 exact ⟨.inl ⟨.bool true,.bool true,[],rfl,fun _ => rfl,.bool true,post_true l _,fun _ => ⟨List.Pairwise.nil,fun _ hm => (nomatch hm)⟩⟩,h2,h3,h4⟩
section
variable {prog:Program} {w:World} {A:Around} {E:Value→Shared→Prop} {s:Shared} {K:Frag}
def ledger (h:Heap) (L d:Addr):List (Addr×Obj):=(List.range h.objs.size).filterMap fun a => if a = L∨a = d then none else (h.get? a).map fun o => (a,o)
end
end Att
namespace L2
open PySem PySem.Spec PyProof.Rows
theorem vals_ints:∀ {vs:List Value} {ns:List Int},IntsAre vs ns→Vals (ns.map V.int) vs
 | _,_,.nil => .nil
 | _,_,.cons n t h => .cons ⟨t,rfl⟩ (vals_ints h)
def Only (H:Hp):Prop:=∀ b,H b = none∨∃ o xs,H b = some (.frz o (.lst xs))
theorem law_call {P:Program} {w:World} {K:PySem.W.Frag} {mg mb:Str→Option Value} {CX:CXT} {k:Nat} {fa a:Addr} {fd:FuncData} {x:Str} {sp:Sp} {s₁:Shared} {vs:List Value} {ns:List Int}
  (KX:K.In s₁.heap) (hns:s₁.heap.Ns mainGlobals mg) (hb:s₁.heap.Ns builtinsNs mb) (hbb:∀ x:Str,x ≠ "__name__"→mb x = bootBuiltins x) (hlim:s₁.heap.NoLimit) (hg:s₁.gens = #[])
  (ha:s₁.heap.get? a = some { cls:=.type "list",data:=.seq vs.toArray }) (hi:IntsAre vs ns) (hl:ns.length≤sizeLine) (hr:Room k callerA)
  (F:∀ base:Heap,K.In base→base.Ns mainGlobals mg→FnOk P w K mg base CX k fa fd [x] sp) (hbind:∀ (s:Shared) (u:Value),BindsTo s fd ⟨[u],[]⟩ [(x,u)])
  (hsp:∀ H:Hp,Only H→SqL K H a (ns.map V.int)→sp [.ref a] H (fun v _ => v = .bl true) fun _ _ _ => False)
  (hCX:∀ H e s',CX [] H s₁ (fun _ _ _ => False) e s'→False) :
  codeAny (model P w) callerA (.call (.ref fa) ⟨[.ref a],[]⟩) (fun r s' => r = .ok (.ret (.bool true))∧OldK s₁.heap s'.heap∧s'.os = s₁.os∧AllBare s'.gens) s₁:=by
 have rv:=vals_ints hi
 have lenV:=hi.length
 have core:∀ H:Hp,Only H→SqL K H a (ns.map V.int)→HOk P w H s₁.heap→(∀ b,H b≠none→b = a)→(H a≠none→K.lookup a = none) →
   codeAny (model P w) callerA (.call (.ref fa) ⟨[.ref a],[]⟩) (fun r s' => r = .ok (.ret (.bool true))∧OldK s₁.heap s'.heap∧s'.os = s₁.os∧AllBare s'.gens) s₁:=by
  intro H hO hS hok hA hK
  have base_of:∀ {b:Addr} {o:Obj},s₁.heap.get? b = some o→H b = none→(hidT s₁.heap H).get? b = some o:=fun e n => hidT_get e n
  have noA:∀ {b:Addr} {o:Obj} {es:Array DictEntry} {ep:Nat},s₁.heap.get? b = some o→o.data = .dict es ep→H b = none:=fun {b o es ep} e d => by
   cases q:H b with
   | none => rfl
   | some u =>
    have e':b = a:=hA b (by rw [q]; simp)
    subst e'
    rw [ha] at e; cases e
    have d':Data.seq vs.toArray _ = Data.dict es ep:=d
    cases d'
  have nsK:∀ {b:Addr} {m:Str→Option Value},s₁.heap.Ns b m→(hidT s₁.heap H).Ns b m:=fun {b m} ⟨o,es,ep,e,d,r⟩ => ⟨o,es,ep,base_of e (noA e d),d,r⟩
  have hKb:K.In (hidT s₁.heap H):=fun b o e => base_of (KX b o e) (by
   cases q:H b with
   | none => rfl
   | some u =>
    have e':b = a:=hA b (by rw [q]; simp)
    subst e'
    rw [hK (by rw [q]; simp)] at e; cases e)
  have hM:Mod K mg (hidT s₁.heap H):=⟨hKb,nsK hns,⟨mb,nsK hb,hbb⟩,let ⟨mc,h1,h2⟩:=hlim; ⟨mc,nsK h1,h2⟩⟩
  have e0:Env0 P w K mg (hidT s₁.heap H) callerA [] s₁ H:=⟨rfl,hM,fun b o e => of_hidT e,Nat.le_of_eq (hidT_size _ _),trivial,fun b hb => absurd (show b∈([]:List Addr) from hb) (by simp),hok,.of_eq hg⟩
  refine codeAny_mono ((F _ hKb (nsK hns)).run callerA [] s₁ H ⟨[.ref a],[]⟩ [.ref a] [.ref a] _ _ hr e0 (hbind s₁ (.ref a)) (.cons rfl .nil) (hsp H hO hS)) fun r s' h => ?_
  cases r with
  | error e => exact (hCX H e s' h).elim
  | ok fl =>
   cases fl with
   | next => exact False.elim h
   | brk => exact False.elim h
   | cont => exact False.elim h
   | ret u =>
    obtain ⟨v,H',os,bare,un,hok',r',q⟩:=h
    have q':v = .bl true:=q
    subst q'
    obtain rfl:u = Value.bool true:=r'
    refine ⟨rfl,OldK.of_keep fun b o e => ?_,os,bare⟩
    cases q:H b with
    | none => exact un.keep b o e q (by intro z; exact absurd (show b∈([]:List Addr) from z) (by simp)) (by simp)
    | some u =>
     rcases hO b with z | ⟨ob,xs,z⟩
     ·rw [q] at z; cases z
     ·have z2:=un.frzs b ob _ z
      obtain ⟨e1,_⟩:=hok b _ z
      obtain ⟨e2,_⟩:=hok' b _ z2
      rw [e] at e1; cases e1
      exact e2
 cases hk:K.lookup a with
 | some o =>
  have e:=KX a o hk
  rw [ha] at e
  cases e
  refine core (fun _ => none) (fun _ => .inl rfl) (.inr ⟨_,vs.toArray,_,hk,rfl,rfl,rfl,by rw [List.size_toArray,lenV]; exact hl,by simpa using rv⟩) (fun b u z => by have z':(none:Option HO) = some u:=z; cases z') (fun b z => absurd rfl z) fun z => absurd rfl z
 | none =>
  refine core (fun b => if b = a then some (.frz { cls:=.type "list",data:=.seq vs.toArray } (.lst (ns.map V.int))) else none) (fun b => ?_) (.inl (.inr ⟨{ cls:=.type "list",data:=.seq vs.toArray },if_pos rfl⟩)) (fun b u z => ?_) (fun b z => ?_) fun _ => hk
  ·by_cases hb:b = a
   ·exact .inr ⟨_,_,if_pos hb⟩
   ·exact .inl (if_neg hb)
  ·by_cases hb:b = a
   ·have z':=(if_pos hb).symm.trans z
    cases z'
    subst hb
    exact ⟨ha,by rw [List.length_map]; exact hl,vs,_,rv,ha⟩
   ·have z':=(if_neg hb).symm.trans z
    cases z'
  ·by_cases hb:b = a
   ·exact hb
   ·exact absurd (if_neg hb) z
theorem walk_of {l:PySem.W.OpenLaw} {n k:Nat} {q:Program} {loose:List Str} {XP:(Str→Option Value)→Heap→Prop} {YP:World→Heap→Prop} {d:DefRec} {K:Params→PySem.W.Frag} {CX:World→CXT} {sp:World→Sp} {x:Str}
  (hn:l.most = some n) (hn2:n≤sizeLine) (hdf:d.params.defaults = []) (hr:Room k callerA)
  (hY:∀ (w:World) (h:Heap),YP w h→(K w.params).In h)
  (F:∀ (w:World) (mg:Str→Option Value) (fa:Addr) (h:Heap),(K w.params).In h→h.Ns mainGlobals mg→mg d.name = some (.ref fa) →
   ∃ fd:FuncData,(∀ (s:Shared) (u:Value),BindsTo s fd ⟨[u],[]⟩ [(x,u)]) ∧
    ∀ base:Heap,(K w.params).In base→base.Ns mainGlobals mg→FnOk l.prog w (K w.params) mg base (CX w) k fa fd [x] (sp w))
  (hsp:∀ (w:World) (H:Hp) (a:Addr) (ns:List Int),ns.length≤n→Only H→SqL (K w.params) H a (ns.map V.int)→sp w [.ref a] H (fun v _ => v = .bl true) fun _ _ _ => False)
  (hCX:∀ (w:World) (H:Hp) (s:Shared) (e:Value) (s':Shared),CX w [] H s (fun _ _ _ => False) e s'→False) :
  PySem.W.WalkO q loose XP YP l.row.toRowW d [] (fun f vs => PySem.call f vs):=by
 refine Att.attach_call hn hdf fun w s₀ s₁ mg mb fa o pm cd doc a vs ns G Y ho hd hcd hmg hobj hints hlen hg => ?_
 have KX:=hY w _ Y
 obtain ⟨fd,hb,hF⟩:=F w mg fa _ KX G.T.g hmg
 exact law_call KX G.T.g G.T.b G.T.builtins G.T.nolimit hg hobj hints (Nat.le_trans hlen hn2) hr hF hb (fun H hO hS => hsp w H a ns hlen hO hS) fun H e s' => hCX w H s₁ e s'
theorem walk_ofK {l:PySem.W.OpenLaw} {n k:Nat} {q:Program} {loose:List Str} {XP:(Str→Option Value)→Heap→Prop} {YP:World→Heap→Prop} {d:DefRec} {K:Params→PySem.W.Frag} {CX:CXT} {sp:PySem.W.Frag→Sp} {x:Str}
  (hn:l.most = some n) (hn2:n≤sizeLine) (hdf:d.params.defaults = []) (hr:Room k callerA)
  (hY:∀ (w:World) (h:Heap),YP w h→(K w.params).In h)
  (F:∀ (w:World) (mg:Str→Option Value) (fa:Addr) (h:Heap),(K w.params).In h→h.Ns mainGlobals mg→mg d.name = some (.ref fa) →
   ∃ fd:FuncData,(∀ (s:Shared) (u:Value),BindsTo s fd ⟨[u],[]⟩ [(x,u)]) ∧
    ∀ base:Heap,(K w.params).In base→base.Ns mainGlobals mg→FnOk l.prog w (K w.params) mg base CX k fa fd [x] (sp (K w.params)))
  (hsp:∀ (K:PySem.W.Frag) (H:Hp) (a:Addr) (ns:List Int),ns.length≤n→Only H→SqL K H a (ns.map V.int)→sp K [.ref a] H (fun v _ => v = .bl true) fun _ _ _ => False)
  (hCX:∀ (H:Hp) (s:Shared) (e:Value) (s':Shared),CX [] H s (fun _ _ _ => False) e s'→False) :
  PySem.W.WalkO q loose XP YP l.row.toRowW d [] (fun f vs => PySem.call f vs) :=
 walk_of (K:=K) (CX:=fun _ => CX) (sp:=fun w => sp (K w.params)) hn hn2 hdf hr hY F (fun w H a ns h1 h2 h3 => hsp (K w.params) H a ns h1 h2 h3) fun _ H s e s' => hCX H s e s'
end L2
namespace L2
open PySem PySem.Spec PyProof.Rows
abbrev CX0:CXT:=fun _ _ _ _ _ _ => False
abbrev E0:XK:=fun _ _ _ => False
theorem pass0 {X:Cx}:Passes CX0 X E0:=fun _ _ _ _ _ _ _ h => h.elim
structure Fun (K:PySem.W.Frag) (x qual:Str) (st:Stmt) (f:Addr) (fd:FuncData):Prop where
 ex:∃ (oc:Value) (od:Option Addr) (kV doc pm:Value) (an:Option Addr) (cdv ct:Value) (osl:Array (Option Value)),
  fd = PySem.W.fnOf x qual (defArgs st) (defBody st) (defScope st) .none kV doc pm an cdv ct∧K.lookup f = some ⟨oc,od,.func fd,osl⟩∧PySem.W.codeIn K cdv qual = true
 kp:PySem.W.keepIn K (.ref f) = true
section
variable {P:Program} {w:World} {K:PySem.W.Frag} {mg:Str→Option Value} {base:Heap}
theorem Fun.ok {x qual:Str} {st:Stmt} {f:Addr} {fd:FuncData} {N ps:List Str} {k:Nat} {sp:Sp} (F:Fun K x qual st f fd) (S:FnScope N ps (defScope st)) (len:∀ vs H Q E,sp vs H Q E→vs.length = ps.length)
  (hbody:∀ (cdv:Value) (A:Around) (outer:List Env) (s:Shared) (H:Hp) (vs:List V) (Q:VK) (E:XK),Room k (A.deeper (envOfC qual (defScope st) s.heap.objs.size f cdv))→sp vs H Q E →
   ∃ t,PSs (cxOf CX0 P w K mg base N qual (defScope st) f cdv A outer s H E).nox (defBody st) t∧t { nx:=fun _ H' => Q .non H',rt:=Q } (start N vs) H):FnOk P w K mg base CX0 (k + 1) f fd ps sp:=by
 obtain ⟨oc,od,kV,doc,pm,an,cdv,ct,osl,rfl,lk,hcd⟩:=F.ex
 refine fn_of lk hcd S len fun A outer s H vs Q E hr hsp => ?_
 obtain ⟨t,h,q⟩:=hbody cdv A outer s H vs Q E hr hsp
 exact ⟨t,h.nox,q⟩
theorem Fun.binds {x qual:Str} {st:Stmt} {f:Addr} {fd:FuncData} {ps:List Str} (F:Fun K x qual st f fd)
  (h:∀ (kV doc pm:Value) (an:Option Addr) (cdv ct:Value) (us:List Value),us.length = ps.length→bindArgs (PySem.W.fnOf x qual (defArgs st) (defBody st) (defScope st) .none kV doc pm an cdv ct) ⟨us,[]⟩ = pure (ps.zip us)):Binds K fd ps []:=by
 obtain ⟨oc,od,kV,doc,pm,an,cdv,ct,osl,rfl,lk,hcd⟩:=F.ex
 exact .all (h kV doc pm an cdv ct)
theorem fun_mk {x qual:Str} {st:Stmt} {f:Addr} {oc:Value} {od an:Option Addr} {osl:Array (Option Value)} {kV doc pm cdv ct:Value} (l:K.lookup f = some ⟨oc,od,.func (PySem.W.fnOf x qual (defArgs st) (defBody st) (defScope st) .none kV doc pm an cdv ct),osl⟩)
  (c:PySem.W.codeIn K cdv qual = true) (k:PySem.W.keepIn K (.ref f) = true):Fun K x qual st f (PySem.W.fnOf x qual (defArgs st) (defBody st) (defScope st) .none kV doc pm an cdv ct):=⟨⟨oc,od,kV,doc,pm,an,cdv,ct,osl,rfl,l,c⟩,k⟩
end
theorem small1000 {n:Nat} (h:n≤1000):n < sizeLine:=Nat.lt_of_le_of_lt h (by decide)
section
variable {X:Cx}
theorem pv (i:Nat) {x:Str} {pos:Pos} (hN:X.N[i]? = some x:=by rfl) (hv:Vis X.env.scope x:=by first | exact Or.inl rfl | exact Or.inr (Or.inl rfl) | exact Or.inr (Or.inr rfl)) (hd:(x == ("__debug__" : Str)) = false:=by decide)
  (hcd:(x == ("__classdict__" : Str)) = false:=by decide):PE X (.Name x pos) (tVar i):=pe_var hN hv hd hcd
end
section
variable {κ:Type} [DecidableEq κ]
def valV (kvs:List (κ×V)) (k:κ):Option V:=(kvs.find? fun kv => decide (kv.1 = k)).map (·.2)
theorem valV_pos {p:κ×V} {r:List (κ×V)} {k:κ} (e:p.1 = k):valV (p::r) k = some p.2:=by simp [valV,List.find?_cons,e]
theorem valV_neg {p:κ×V} {r:List (κ×V)} {k:κ} (e:¬ p.1 = k):valV (p::r) k = valV r k:=by simp [valV,List.find?_cons,e]
theorem RelO.isSome_eq {o:Option V} {u:Option Value} (r:RelO o u):o.isSome = u.isSome:=by
 cases o with
 | none => cases u with
  | none => rfl
  | some _ => exact (show False from r).elim
 | some _ => cases u with
  | none => exact (show False from r).elim
  | some _ => rfl
theorem KV.val {kvs:List (κ×V)} {vs:List (κ×Value)} (r:KV kvs vs) (k:κ):RelO (valV kvs k) (valueAt vs k):=by
 unfold KV at r
 induction r with
 | nil => exact True.intro
 | @cons p q ps qs h t ih =>
  obtain ⟨h1,h2⟩:=h
  by_cases e:p.1 = k
  ·have e':q.1 = k:=h1.symm.trans e
   have b:valueAt (q::qs) k = some q.2:=by simp [valueAt,List.find?_cons,e']
   rw [valV_pos e,b]; exact h2
  ·have e':¬ q.1 = k:=fun z => e (h1.trans z)
   have b:valueAt (q::qs) k = valueAt qs k:=by simp [valueAt,List.find?_cons,e']
   rw [valV_neg e,b]; exact ih
end
theorem kV_is {P:Program} {w:World} {k:Key} {u:Value} (r:RelV (kV k) u):(mixKind P w).is k u = true:=by
 cases k with
 | inl i => obtain ⟨t,e⟩:=(show ∃ t,u = Value.int i t from r); subst e; exact mixKind_int P w i t
 | inr x => obtain ⟨t,e⟩:=(show ∃ t,u = Value.str x t from r); subst e; exact mixKind_str P w x t
theorem items_are {P:Program} {w:World}:∀ {ks:List Key} {us:List Value},Vals (ks.map kV) us→ItemsAre (mixKind P w) ks us
 | [],_,r => by rw [List.map_nil] at r; cases r; exact .nil
 | k::ks,_,r => by
  rw [List.map_cons] at r
  cases r with
  | cons h t => exact .cons (kV_is h) (items_are t)
abbrev KT (H:Hp):List (List Key×V)→List (List Key×Addr×Value)→Prop:=Paired fun p q => p.1 = q.1∧H q.2.1 = some (.tup (p.1.map kV))∧RelV p.2 q.2.2
theorem KT.val {H:Hp} {kvs:List (List Key×V)} {xs:List (List Key×Addr×Value)} (r:KT H kvs xs) (k:List Key):RelO (valV kvs k) ((atKey xs k).map (·.2)):=by
 induction r with
 | nil => exact True.intro
 | @cons p q ps qs h t ih =>
  obtain ⟨h1,_,h2⟩:=h
  by_cases e:p.1 = k
  ·have e':q.1 = k:=h1.symm.trans e
   have b:atKey (q::qs) k = some q.2:=by simp [atKey,List.find?_cons,e']
   rw [valV_pos e,b]; exact h2
  ·have e':¬ q.1 = k:=fun z => e (h1.trans z)
   have b:atKey (q::qs) k = atKey qs k:=by simp [atKey,List.find?_cons,e']
   rw [valV_neg e,b]; exact ih
section
variable {P:Program} {w:World} {H:Hp} {h:Heap} {a:Addr}
theorem rd_of {u:HO} (ok:HOk P w H h) (e:Rd H a u):ObjOk P w H h a u:=e.ok ok
theorem dk_rd {kvs:List (Key×V)} (ok:HOk P w H h) (e:Rd H a (.dK kvs)):kvs.length≤sizeLine∧(a == sysModules) = false∧∃ vs,KV kvs vs∧h.DictOf (mixKind P w) a vs :=
 show ObjOk P w H h a (.dK kvs) from rd_of ok e
theorem key_of {ks:List Key} (ok:HOk P w H h) (e:H a = some (.tup (ks.map kV))):(tupleKind (mixKind P w)).is h ks a:=by
 obtain ⟨_,its,r,o,h1,h2,n,h3,_⟩:=(show ObjOk P w H h a (.tup (ks.map kV)) from ok a _ e)
 exact ⟨o,its.toArray,n,h1,h2,h3,by simpa using items_are r⟩
theorem dt_rd {kvs:List (List Key×V)} (ok:HOk P w H h) (e:Rd H a (.dT kvs)):kvs.length≤sizeLine∧(a == sysModules) = false ∧
  ∃ xs,KT H kvs xs∧h.DictOfH (tupleKind (mixKind P w)) a xs:=by
 obtain ⟨z,y,xs,r,o,es,ep,h1,h2,h3,h4,h5⟩:=(show ObjOk P w H h a (.dT kvs) from rd_of ok e)
 refine ⟨z,y,xs,r,o,es,ep,h1,h2,h3,h4,fun x hx => ?_,h5⟩
 have all:∀ {l:List (List Key×V)} {m:List (List Key×Addr×Value)},KT H l m→∀ x∈m,(tupleKind (mixKind P w)).is h x.1 x.2.1:=by
  intro l m q
  induction q with
  | nil => intro x hx; exact nomatch hx
  | @cons p q ps qs hq t ih =>
   intro x hx
   rcases List.mem_cons.mp hx with e | hx
   ·subst e
    exact key_of ok (by rw [← hq.1]; exact hq.2.1)
   ·exact ih x hx
 exact all r x hx
end
def DGet (H:Hp) (a:Addr) (y:V) (r:Option V):Prop :=
 (∃ kvs k,Rd H a (.dK kvs)∧y = kV k∧r = valV kvs k)∨∃ kvs k b,Rd H a (.dT kvs)∧y = .ref b∧H b = some (.tup (k.map kV))∧r = valV kvs k
theorem DGet.t {H:Hp} {a b:Addr} {kvs:List (List Key×V)} {k:List Key} (e:H a = some (.dT kvs)) (eb:H b = some (.tup (k.map kV))):DGet H a (.ref b) (valV kvs k):=.inr ⟨kvs,k,b,.inl e,rfl,eb,rfl⟩
section
variable {X:Cx} {pins:List (Addr×Obj)} {σ:St} {H:Hp} {s:Shared} {a:Addr} {y v:V} {u r:Value} {o:Option V} {A:Around} {E:Value→Shared→Prop}
theorem d_notIn {Q:Value→Shared→Prop} (hu:A.units + 1 < cLine) (I:Inv X pins σ H s) (g:DGet H a y o) (ry:RelV y u) (h:∀ s',Inv X pins σ H s'→Q (.bool (!o.isSome)) s') :
  wpAny (model X.prog X.w) A (compareOp .NotIn u (.ref a)) Q E s:=by
 rcases g with ⟨kvs,k,e,ey,l⟩ | ⟨kvs,k,b,e,ey,eb,l⟩
 ·subst ey
  obtain ⟨z,hd,vs,rel,dd⟩:=dk_rd I.hok e
  refine wpAny_notIn_of (kV_is ry) hd dd.mapOf ?_
  rw [← (rel.val k).isSome_eq,← l]
  exact h _ (I.tok _)
 ·subst ey
  cases (show u = Value.ref b from ry)
  obtain ⟨z,hd,xs,rel,dd⟩:=dt_rd I.hok e
  refine wpAny_notIn_heap (tupleKind_room_in1 hu) (key_of I.hok eb) hd dd ?_
  have q:=(rel.val k).isSome_eq
  rw [Option.isSome_map] at q
  rw [← q,← l]
  exact h _ (I.tok _)
end
def NoSl (i:Expr):Prop:=∀ ov iv,subscripted i false ov iv = operate [ov,iv] (getItem ov iv)
theorem subD_of {prog:Program} {w:World} {A:Around} {E:Value→Shared→Prop} {s:Shared} {env:Env} {value slice:Expr} {pos:Pos} {T id:String} {Q:Value→Shared→Prop}
  (hl:typeLookup (.type T) "__getitem__" = pure (some (.builtin id))) (hs:NoSl slice)
  (h:wpAny (model prog w) A (eval value env) (fun o s₁ => wpAny (model prog w) A (eval slice env) (fun i s₂ => s₂.TypeIs o T∧wpAny (model prog w) A (getItem o i) Q E s₂) E s₁) E s) :
  wpAny (model prog w) A (eval (.Subscript value slice pos) env) Q E s:=by
 refine Subscript_ (wpAny_mono h (fun o s₁ h₁ => wpAny_mono h₁ (fun i s₂ h₂ => ?_) fun _ _ x => x) fun _ _ x => x)
 obtain ⟨hT,h₂⟩:=h₂
 unfold subscriptTail
 refine wpAny_bind ?_
 rw [getitemInPython_of_ne hT.not_modules]
 refine wpAny_bind (wpAny_specialOf hT hl ?_)
 have fin:wpAny (model prog w) A (subscripted slice false o i) (fun r s₃ => wpAny (model prog w) A (letTemporaryGo value o r >>= fun _ => pure r) Q E s₃) E s₂:=by
  rw [hs o i]
  exact wpAny_operating (wpAny_mono h₂ (fun r s₃ h₃ => wpAny_bind (wpAny_letTemporaryGo (wpAny_pure h₃))) fun _ _ x => x)
 first
  | exact wpAny_pure (wpAny_bind fin)
  | exact wpAny_bind (wpAny_pure (wpAny_bind fin))
  | exact wpAny_bind fin
end L2
namespace L3
open PySem PySem.Spec PyProof.Rows L2
abbrev St:=L2.St
inductive D where
 | non | bl (b:Bool) | int (i:Int) | str (x:Str) | tup (ds:List D) | fl (ds:List D) | ref (a:Addr) | ty (n:String) | ktup (ds:List D)
def FzL (K:PySem.W.Frag) (H:Hp) (a:Addr) (xs:List V):Prop :=
 (∃ o,H a = some (.frz o (.lst xs))) ∨
  ∃ (o:Obj) (its:Array Value) (n:Nat),K.lookup a = some o∧o.cls = .type "list"∧o.dict = none∧o.data = .seq its n∧its.size≤sizeLine∧Vals xs its.toList
theorem FzL.sq {K:PySem.W.Frag} {H:Hp} {a:Addr} {xs:List V} (h:FzL K H a xs):SqL K H a xs:=by
 rcases h with ⟨o,h⟩ | h
 ·exact .inl (.inr ⟨o,h⟩)
 ·exact .inr h
def KTp (K:PySem.W.Frag) (a:Addr) (xs:List V):Prop:=∃ (o:Obj) (its:Array Value) (n:Nat),K.lookup a = some o∧o.cls = .type "tuple"∧o.data = .seq its n∧its.size≤sizeLine∧Vals xs its.toList
theorem KTp.sq {K:PySem.W.Frag} {H:Hp} {a:Addr} {xs:List V} (h:KTp K a xs):SqT K H a xs:=.inr h
mutual
inductive Rep (K:PySem.W.Frag) (H:Hp):D→V→Prop
 | non:Rep K H .non .non
 | bl (b:Bool):Rep K H (.bl b) (.bl b)
 | int (i:Int):Rep K H (.int i) (.int i)
 | str (x:Str):Rep K H (.str x) (.str x)
 | ty (n:String):Rep K H (.ty n) (.ty n)
 | ref (a:Addr):Rep K H (.ref a) (.ref a)
 | tup {a:Addr} {xs:List V} {ds:List D}:H a = some (.tup xs)→RepL K H ds xs→Rep K H (.tup ds) (.ref a)
 | fl {a:Addr} {xs:List V} {ds:List D}:FzL K H a xs→RepL K H ds xs→Rep K H (.fl ds) (.ref a)
 | ktup {a:Addr} {xs:List V} {ds:List D}:KTp K a xs→RepL K H ds xs→Rep K H (.ktup ds) (.ref a)
inductive RepL (K:PySem.W.Frag) (H:Hp):List D→List V→Prop
 | nil:RepL K H [] []
 | cons {d:D} {v:V} {ds:List D} {vs:List V}:Rep K H d v→RepL K H ds vs→RepL K H (d::ds) (v::vs)
end
structure TK (H H':Hp):Prop where
 tup:∀ a xs,H a = some (.tup xs)→H' a = some (.tup xs)
 frz:∀ a o u,H a = some (.frz o u)→H' a = some (.frz o u)
theorem TK.refl {H:Hp}:TK H H:=⟨fun _ _ h => h,fun _ _ _ h => h⟩
theorem TK.trans {H H1 H2:Hp} (a:TK H H1) (b:TK H1 H2):TK H H2:=⟨fun c xs h => b.tup c xs (a.tup c xs h),fun c o u h => b.frz c o u (a.frz c o u h)⟩
theorem TK.fresh {H:Hp} {p:Addr} {o:HO} (n:H p = none):TK H (upd H p o) :=
 ⟨fun a xs h => by rw [upd_ne (ne_of_none h n)]; exact h,fun a o' u h => by rw [upd_ne (ne_of_none h n)]; exact h⟩
theorem TK.lst {H:Hp} {p:Addr} {o:HO} {xs:List V} (n:H p = some (.lst xs)):TK H (upd H p o) :=
 ⟨fun a ys h => by rw [upd_ne (ne_of h n (by intro z; cases z))]; exact h,fun a o' u h => by rw [upd_ne (ne_of h n (by intro z; cases z))]; exact h⟩
theorem TK.sqT {K:PySem.W.Frag} {H H':Hp} (t:TK H H') {a:Addr} {xs:List V} (h:SqT K H a xs):SqT K H' a xs:=by
 rcases h with (h | ⟨o,h⟩) | h
 ·exact .inl (.inl (t.tup _ _ h))
 ·exact .inl (.inr ⟨o,t.frz _ _ _ h⟩)
 ·exact .inr h
theorem TK.fzL {K:PySem.W.Frag} {H H':Hp} (t:TK H H') {a:Addr} {xs:List V} (h:FzL K H a xs):FzL K H' a xs:=by
 rcases h with ⟨o,h⟩ | h
 ·exact .inl ⟨o,t.frz _ _ _ h⟩
 ·exact .inr h
theorem Rep.mono {K:PySem.W.Frag} {H H':Hp} (t:TK H H') {d:D} {v:V} (h:Rep K H d v):Rep K H' d v :=
 Rep.rec (motive_1:=fun d v _ => Rep K H' d v) (motive_2:=fun ds vs _ => RepL K H' ds vs) .non .bl .int .str .ty .ref (fun h _ r => .tup (t.tup _ _ h) r) (fun h _ r => .fl (t.fzL h) r) (fun h _ r => .ktup h r) .nil (fun _ _ r s => .cons r s) h
theorem RepL.mono {K:PySem.W.Frag} {H H':Hp} (t:TK H H') {ds:List D} {vs:List V} (h:RepL K H ds vs):RepL K H' ds vs :=
 RepL.rec (motive_1:=fun d v _ => Rep K H' d v) (motive_2:=fun ds vs _ => RepL K H' ds vs) .non .bl .int .str .ty .ref (fun h _ r => .tup (t.tup _ _ h) r) (fun h _ r => .fl (t.fzL h) r) (fun h _ r => .ktup h r) .nil (fun _ _ r s => .cons r s) h
section
variable {K:PySem.W.Frag} {H:Hp}
theorem RepL.length {ds:List D} {vs:List V} (h:RepL K H ds vs):ds.length = vs.length :=
 RepL.rec (motive_1:=fun _ _ _ => True) (motive_2:=fun ds vs _ => ds.length = vs.length) trivial (fun _ => trivial) (fun _ => trivial) (fun _ => trivial) (fun _ => trivial) (fun _ => trivial) (fun _ _ _ => trivial) (fun _ _ _ => trivial) (fun _ _ _ => trivial) rfl (fun _ _ _ i => congrArg (· + 1) i) h
theorem RepL.get:∀ {ds:List D} {vs:List V} {i:Nat} {d:D},RepL K H ds vs→ds[i]? = some d→∃ v,vs[i]? = some v∧Rep K H d v
 | _,_,_,_,.nil,e => by simp at e
 | _,_,0,_,.cons r _,e => by simp at e; subst e; exact ⟨_,rfl,r⟩
 | _,_,i + 1,d,.cons _ t,e => by
  obtain ⟨u,h1,h2⟩:=RepL.get (i:=i) (d:=d) t (by simpa using e)
  exact ⟨u,by simpa using h1,h2⟩
theorem RepL.getV:∀ {ds:List D} {vs:List V} {i:Nat} {v:V},RepL K H ds vs→vs[i]? = some v→∃ d,ds[i]? = some d∧Rep K H d v
 | _,_,_,_,.nil,e => by simp at e
 | _,_,0,_,.cons r _,e => by simp at e; subst e; exact ⟨_,rfl,r⟩
 | _,_,i + 1,v,.cons _ t,e => by
  obtain ⟨u,h1,h2⟩:=RepL.getV (i:=i) (v:=v) t (by simpa using e)
  exact ⟨u,by simpa using h1,h2⟩
theorem RepL.append {ds es:List D} {vs us:List V} (h:RepL K H ds vs) (s:RepL K H es us):RepL K H (ds++es) (vs++us) :=
 RepL.rec (motive_1:=fun _ _ _ => True) (motive_2:=fun ds vs _ => RepL K H (ds++es) (vs++us)) trivial (fun _ => trivial) (fun _ => trivial) (fun _ => trivial) (fun _ => trivial) (fun _ => trivial) (fun _ _ _ => trivial) (fun _ _ _ => trivial) (fun _ _ _ => trivial) s (fun r _ _ i => .cons r i) h
theorem RepL.take:∀ {ds:List D} {vs:List V} (n:Nat),RepL K H ds vs→RepL K H (ds.take n) (vs.take n)
 | _,_,0,_ => .nil
 | _,_,_ + 1,.nil => .nil
 | _,_,n + 1,.cons r t => .cons r (RepL.take n t)
theorem RepL.drop:∀ {ds:List D} {vs:List V} (n:Nat),RepL K H ds vs→RepL K H (ds.drop n) (vs.drop n)
 | _,_,0,r => r
 | _,_,_ + 1,.nil => .nil
 | _,_,n + 1,.cons _ t => RepL.drop n t
theorem RepL.snoc {ds:List D} {vs:List V} {d:D} {v:V} (r:RepL K H ds vs) (s:Rep K H d v):RepL K H (ds++[d]) (vs++[v]):=r.append (.cons s .nil)
theorem RepL.ints:∀ (ns:List Int),RepL K H (ns.map D.int) (ns.map V.int)
 | [] => .nil
 | n::ns => .cons (.int n) (RepL.ints ns)
theorem RepL.ints_inv {ns:List Int}:∀ {vs:List V},RepL K H (ns.map D.int) vs→vs = ns.map V.int:=by
 induction ns with
 | nil => intro vs h; cases h; rfl
 | cons n ns ih =>
  intro vs h
  cases h with
  | cons r t => cases r; rw [List.map_cons,ih t]
end
inductive O3 where
 | lst (ds:List D)
 | dic (kvs:List (List Key×D))
 | dik (kvs:List (Key×D))
 | ins (c:Str) (fs:List (Str×D))
 | exc (c:Str)
 | tab (x:Str)
 | tabd (x:Str) (l k:Nat)
abbrev Hp3:=Addr→Option O3
def upd3 (H:Hp3) (a:Addr) (o:O3):Hp3:=fun b => if b = a then some o else H b
theorem upd3_same {H:Hp3} {a:Addr} {o:O3}:upd3 H a o a = some o:=by unfold upd3; rw [if_pos rfl]
theorem upd3_ne {H:Hp3} {a b:Addr} {o:O3} (h:b≠a):upd3 H a o b = H b:=by unfold upd3; rw [if_neg h]
theorem upd3_upd3 {H:Hp3} {a:Addr} {o u:O3}:upd3 (upd3 H a o) a u = upd3 H a u:=by
 funext b; unfold upd3; split <;> rfl
theorem ne3 {H:Hp3} {a b:Addr} {o:O3} (h:H a = some o) (h':H b = none):a≠b:=by
 intro e; subst e; rw [h] at h'; cases h'
def excO (a C:Addr):HO:=.ext fun h => ∃ o vs,h.get? a = some o∧o.cls = .ref C∧o.data = .fields vs
structure TabK (K:PySem.W.Frag) (H:Hp) (x:Str) (c a:Addr):Prop where
 tab:PySem.W.tabIn K x = some (c,a)
 hd:∀ h:Heap,K.In h→PySem.W.CodeHd h c a
 bm:∃ bm ob,PySem.W.nsIn K mainGlobals "__builtins__" = some (some (.ref bm))∧bm≠builtinsNs∧H bm = some (.frz ob (.own bm))∧ob.cls = .type "module"∧ob.dict = some builtinsNs∧ob.data = .plain
theorem TabK.mono {K:PySem.W.Frag} {H H':Hp} {x:Str} {c a:Addr} (h:TabK K H x c a) (t:TK H H'):TabK K H' x c a :=
 ⟨h.tab,h.hd,let ⟨bm,ob,h1,h2,h3,h4⟩:=h.bm; ⟨bm,ob,h1,h2,t.frz _ _ _ h3,h4⟩⟩
def lamQ (x:Str):Str:=x ++ ".<locals>." ++ "<lambda>"
def OR (K:PySem.W.Frag) (H:Hp) (a:Addr):O3→Prop
 | .lst ds => ∃ xs,H a = some (.lst xs)∧RepL K H ds xs
 | .dic kvs => ∃ ks,H a = some (.dT ks)∧Paired (fun (p:List Key×D) (q:List Key×V) => p.1 = q.1∧Rep K H p.2 q.2) kvs ks
 | .dik kvs => ∃ ks,H a = some (.dK ks)∧Paired (fun (p:Key×D) (q:Key×V) => p.1 = q.1∧Rep K H p.2 q.2) kvs ks
 | .ins c fs => ∃ C dx xs,PySem.W.nsIn K mainGlobals c = some (some (.ref C))∧H a = some (.ins C dx xs)∧Paired (fun (p:Str×D) (q:Str×V) => p.1 = q.1∧Rep K H p.2 q.2) fs xs
 | .exc c => ∃ C,PySem.W.nsIn K mainGlobals c = some (some (.ref C))∧H a = some (excO a C)
 | .tab x => H a = some (.tbl #[])∧∃ c,TabK K H x c a
 | .tabd x l k => ∃ c' oc vs t,H a = some (.tbl #[rawInt l,rawInt k,.ref c'])∧H c' = some (.frz oc (.own c'))∧oc.data = .fields vs∧vs[1]? = some (.str (lamQ x) t)∧∃ c,TabK K H x c a
def HR (K:PySem.W.Frag) (H3:Hp3) (H:Hp):Prop:=∀ a o,H3 a = some o→OR K H a o
def Sub3 (H H':Hp3):Prop:=∀ a o,H a = some o→H' a = some o
theorem Sub3.refl {H:Hp3}:Sub3 H H:=fun _ _ h => h
theorem Sub3.trans {H H1 H2:Hp3} (a:Sub3 H H1) (b:Sub3 H1 H2):Sub3 H H2:=fun c o h => b c o (a c o h)
theorem Sub3.fresh {H:Hp3} {p:Addr} {o:O3} (n:H p = none):Sub3 H (upd3 H p o):=fun a u h => by rw [upd3_ne (ne3 h n)]; exact h
theorem Sub3.upd {H H':Hp3} {p:Addr} {o:O3} (s:Sub3 H H') (n:H p = none):Sub3 H (upd3 H' p o):=fun a u h => by rw [upd3_ne (ne3 h n)]; exact s a u h
section
variable {K:PySem.W.Frag} {H H':Hp} {H3 H3':Hp3}
theorem HR.sub (h:HR K H3' H) (s:Sub3 H3 H3'):HR K H3 H:=fun a o e => h a o (s a o e)
theorem HR.fresh (h:HR K H3 H) {p:Addr} (n:H p = none):H3 p = none:=by
 cases e:H3 p with
 | none => rfl
 | some o =>
  cases o with
  | lst ds => obtain ⟨xs,q,_⟩:=h p _ e; rw [n] at q; cases q
  | dic ks => obtain ⟨xs,q,_⟩:=h p _ e; rw [n] at q; cases q
  | dik ks => obtain ⟨xs,q,_⟩:=h p _ e; rw [n] at q; cases q
  | ins c fs => obtain ⟨C,dx,xs,_,q,_⟩:=h p _ e; rw [n] at q; cases q
  | exc c => obtain ⟨C,_,q⟩:=h p _ e; rw [n] at q; cases q
  | tab x => obtain ⟨q,_⟩:=h p _ e; rw [n] at q; cases q
  | tabd x l k => obtain ⟨_,_,_,_,q,_⟩:=h p _ e; rw [n] at q; cases q
theorem OR.keep {a:Addr} {o:O3} (x:OR K H a o) (t:TK H H') (e:H' a = H a):OR K H' a o:=by
 cases o with
 | lst ds => obtain ⟨xs,q,r⟩:=x; exact ⟨xs,e.trans q,r.mono t⟩
 | dic ks => obtain ⟨xs,q,r⟩:=x; exact ⟨xs,e.trans q,Paired.mapP r fun _ _ z => ⟨z.1,z.2.mono t⟩⟩
 | dik ks => obtain ⟨xs,q,r⟩:=x; exact ⟨xs,e.trans q,Paired.mapP r fun _ _ z => ⟨z.1,z.2.mono t⟩⟩
 | ins c fs => obtain ⟨C,dx,xs,g,q,r⟩:=x; exact ⟨C,dx,xs,g,e.trans q,Paired.mapP r fun _ _ z => ⟨z.1,z.2.mono t⟩⟩
 | exc c => obtain ⟨C,g,q⟩:=x; exact ⟨C,g,e.trans q⟩
 | tab x => obtain ⟨q,c,g⟩:=x; exact ⟨e.trans q,c,g.mono t⟩
 | tabd x l k => obtain ⟨c',oc,vs,u,q,q',d,v,c,g⟩:=x; exact ⟨c',oc,vs,u,e.trans q,t.frz _ _ _ q',d,v,c,g.mono t⟩
theorem HR.set (h:HR K H3 H) {p:Addr} {o:HO} {o3:O3} (t:TK H (upd H p o)) (new:OR K (upd H p o) p o3):HR K (upd3 H3 p o3) (upd H p o):=fun b u e => by
 by_cases hb:b = p
 ·subst hb; rw [upd3_same] at e; cases e; exact new
 ·rw [upd3_ne hb] at e; exact (h b u e).keep t (upd_ne hb)
theorem HR.setL (h:HR K H3 H) {p:Addr} {xs:List V} {ds:List D} (t:TK H (upd H p (.lst xs))) (r:RepL K (upd H p (.lst xs)) ds xs):HR K (upd3 H3 p (.lst ds)) (upd H p (.lst xs)):=h.set (o3:=.lst ds) t ⟨xs,upd_same,r⟩
theorem HR.tup (h:HR K H3 H) {p:Addr} {xs:List V} (n:H p = none):HR K H3 (upd H p (.tup xs)):=fun b u e => by
 have hb:b≠p:=ne3 e (h.fresh n)
 exact (h b u e).keep (TK.fresh n) (upd_ne hb)
end
abbrev St3:=List (Option D)
abbrev VK3:=D→Hp3→Prop
abbrev TE3:=St3→Hp3→VK3→Prop
abbrev TT3:=St3→Hp3→(Bool→Hp3→Prop)→Prop
abbrev TA3:=St3→Hp3→(List D→Hp3→Prop)→Prop
structure Ends3 where
 nx:St3→Hp3→Prop
 rt:VK3
 bk:St3→Hp3→Prop:=fun _ _ => False
 ct:St3→Hp3→Prop:=fun _ _ => False
abbrev TS3:=Ends3→St3→Hp3→Prop
structure SR (K:PySem.W.Frag) (H:Hp) (σ3:St3) (σ:St):Prop where
 len:σ3.length = σ.length
 get:∀ (i:Nat) (d:D),σ3[i]? = some (some d)→∃ v,σ[i]? = some (some v)∧Rep K H d v
theorem SR.mono {K:PySem.W.Frag} {H H':Hp} {σ3:St3} {σ:St} (s:SR K H σ3 σ) (t:TK H H'):SR K H' σ3 σ :=
 ⟨s.len,fun i d e => let ⟨v,h1,h2⟩:=s.get i d e; ⟨v,h1,h2.mono t⟩⟩
theorem SR.set {K:PySem.W.Frag} {H:Hp} {σ3:St3} {σ:St} (s:SR K H σ3 σ) (i:Nat) {d:D} {v:V} (r:Rep K H d v):SR K H (σ3.set i (some d)) (σ.set i (some v)):=by
 refine ⟨by simp [s.len],fun j e h => ?_⟩
 by_cases hj:j = i
 ·subst hj
  by_cases hl:j < σ3.length
  ·rw [List.getElem?_set_self hl] at h
   cases h
   exact ⟨v,by rw [List.getElem?_set_self (by rw [← s.len]; exact hl)],r⟩
  ·rw [List.getElem?_eq_none (by simpa using hl)] at h; cases h
 ·rw [List.getElem?_set_ne (Ne.symm hj)] at h
  obtain ⟨u,h1,h2⟩:=s.get j e h
  exact ⟨u,by rw [List.getElem?_set_ne (Ne.symm hj)]; exact h1,h2⟩
def KE (K:PySem.W.Frag) (H:Hp) (Q3:VK3) (Q:VK):Prop:=∀ d v H3' H',TK H H'→HR K H3' H'→Rep K H' d v→Q3 d H3'→Q v H'
def KT (K:PySem.W.Frag) (H:Hp) (Q3:Bool→Hp3→Prop) (Q:Bool→Hp→Prop):Prop:=∀ b H3' H',TK H H'→HR K H3' H'→Q3 b H3'→Q b H'
def KA (K:PySem.W.Frag) (H:Hp) (Q3:List D→Hp3→Prop) (Q:List V→Hp→Prop):Prop:=∀ ds vs H3' H',TK H H'→HR K H3' H'→RepL K H' ds vs→Q3 ds H3'→Q vs H'
def KN (K:PySem.W.Frag) (H:Hp) (Q3:St3→Hp3→Prop) (Q:St→Hp→Prop):Prop:=∀ σ3 σ H3' H',TK H H'→SR K H' σ3 σ→HR K H3' H'→Q3 σ3 H3'→Q σ H'
structure KS (K:PySem.W.Frag) (H:Hp) (D3:Ends3) (D:Ends):Prop where
 nx:KN K H D3.nx D.nx
 rt:KE K H D3.rt D.rt
 bk:KN K H D3.bk D.bk
 ct:KN K H D3.ct D.ct
theorem KE.mono {K:PySem.W.Frag} {H H1:Hp} {Q3:VK3} {Q:VK} (k:KE K H Q3 Q) (t:TK H H1):KE K H1 Q3 Q:=fun d v H3 H' t' => k d v H3 H' (t.trans t')
theorem KN.mono {K:PySem.W.Frag} {H H1:Hp} {Q3:St3→Hp3→Prop} {Q:St→Hp→Prop} (k:KN K H Q3 Q) (t:TK H H1):KN K H1 Q3 Q:=fun d v H3 H' t' => k d v H3 H' (t.trans t')
theorem KS.mono {K:PySem.W.Frag} {H H1:Hp} {D3:Ends3} {D:Ends} (k:KS K H D3 D) (t:TK H H1):KS K H1 D3 D:=⟨k.nx.mono t,k.rt.mono t,k.bk.mono t,k.ct.mono t⟩
inductive liftE (K:PySem.W.Frag) (t:TE3) (σ:St) (H:Hp) (Q:VK):Prop
 | mk (σ3:St3) (H3:Hp3) (Q3:VK3) (_:SR K H σ3 σ) (_:HR K H3 H) (_:t σ3 H3 Q3) (_:KE K H Q3 Q)
theorem liftE.ex {K:PySem.W.Frag} {t:TE3} {σ:St} {H:Hp} {Q:VK} {G:Prop} (z:liftE K t σ H Q) (k:∀ (σ3:St3) (H3:Hp3) (Q3:VK3),SR K H σ3 σ→HR K H3 H→t σ3 H3 Q3→KE K H Q3 Q→G):G:=by
 cases z with
 | mk σ3 H3 Q3 h0 h1 h2 h3 => exact k σ3 H3 Q3 h0 h1 h2 h3
inductive liftT (K:PySem.W.Frag) (t:TT3) (σ:St) (H:Hp) (Q:Bool→Hp→Prop):Prop
 | mk (σ3:St3) (H3:Hp3) (Q3:Bool→Hp3→Prop) (_:SR K H σ3 σ) (_:HR K H3 H) (_:t σ3 H3 Q3) (_:KT K H Q3 Q)
theorem liftT.ex {K:PySem.W.Frag} {t:TT3} {σ:St} {H:Hp} {Q:Bool→Hp→Prop} {G:Prop} (z:liftT K t σ H Q) (k:∀ (σ3:St3) (H3:Hp3) (Q3:Bool→Hp3→Prop),SR K H σ3 σ→HR K H3 H→t σ3 H3 Q3→KT K H Q3 Q→G):G:=by
 cases z with
 | mk σ3 H3 Q3 h0 h1 h2 h3 => exact k σ3 H3 Q3 h0 h1 h2 h3
inductive liftA (K:PySem.W.Frag) (t:TA3) (σ:St) (H:Hp) (Q:List V→Hp→Prop):Prop
 | mk (σ3:St3) (H3:Hp3) (Q3:List D→Hp3→Prop) (_:SR K H σ3 σ) (_:HR K H3 H) (_:t σ3 H3 Q3) (_:KA K H Q3 Q)
theorem liftA.ex {K:PySem.W.Frag} {t:TA3} {σ:St} {H:Hp} {Q:List V→Hp→Prop} {G:Prop} (z:liftA K t σ H Q) (k:∀ (σ3:St3) (H3:Hp3) (Q3:List D→Hp3→Prop),SR K H σ3 σ→HR K H3 H→t σ3 H3 Q3→KA K H Q3 Q→G):G:=by
 cases z with
 | mk σ3 H3 Q3 h0 h1 h2 h3 => exact k σ3 H3 Q3 h0 h1 h2 h3
inductive liftS (K:PySem.W.Frag) (t:TS3) (D:Ends) (σ:St) (H:Hp):Prop
 | mk (σ3:St3) (H3:Hp3) (D3:Ends3) (_:SR K H σ3 σ) (_:HR K H3 H) (_:t D3 σ3 H3) (_:KS K H D3 D)
theorem liftS.ex {K:PySem.W.Frag} {t:TS3} {D:Ends} {σ:St} {H:Hp} {G:Prop} (z:liftS K t D σ H) (k:∀ (σ3:St3) (H3:Hp3) (D3:Ends3),SR K H σ3 σ→HR K H3 H→t D3 σ3 H3→KS K H D3 D→G):G:=by
 cases z with
 | mk σ3 H3 D3 h0 h1 h2 h3 => exact k σ3 H3 D3 h0 h1 h2 h3
def PE3 (X:Cx) (e:Expr) (t:TE3):Prop:=PE X e (liftE X.K t)
def PT3 (X:Cx) (e:Expr) (t:TT3):Prop:=PT X e (liftT X.K t)
def PW3 (X:Cx) (e:Expr) (t:TT3):Prop:=PW X e (liftT X.K t)
def PA3 (X:Cx) (es:List Expr) (t:TA3):Prop:=PA X es (liftA X.K t)
def PS3 (X:Cx) (st:Stmt) (t:TS3):Prop:=PS X st (liftS X.K t)
def PSs3 (X:Cx) (st:List Stmt) (t:TS3):Prop:=PSs X st (liftS X.K t)
section
variable {X:Cx} {e:Expr} {es:List Expr} {st:Stmt} {sts:List Stmt}
theorem pe_imp {t t':TE} (h:PE X e t) (i:∀ σ H Q,t' σ H Q→t σ H Q):PE X e t':=fun pins s σ H Q I hw => h pins s σ H Q I (i σ H Q hw)
theorem pt_imp {t t':TT} (h:PT X e t) (i:∀ σ H Q,t' σ H Q→t σ H Q):PT X e t':=fun pins s σ H Q I hw => h pins s σ H Q I (i σ H Q hw)
theorem pw_imp {t t':TT} (h:PW X e t) (i:∀ σ H Q,t' σ H Q→t σ H Q):PW X e t':=fun wh pins s σ H Q I hw => h wh pins s σ H Q I (i σ H Q hw)
theorem pa_imp {t t':TA} (h:PA X es t) (i:∀ σ H Q,t' σ H Q→t σ H Q):PA X es t':=fun pos pins s σ H Q I hw => h pos pins s σ H Q I (i σ H Q hw)
theorem ps_imp {t t':TS} (h:PS X st t) (i:∀ D σ H,t' D σ H→t D σ H):PS X st t':=fun pins s σ H D I hw => h pins s σ H D I (i D σ H hw)
theorem pss_imp {t t':TS} (h:PSs X sts t) (i:∀ D σ H,t' D σ H→t D σ H):PSs X sts t':=fun pins s σ H D I hw => h pins s σ H D I (i D σ H hw)
end
end L3
namespace L3
open PySem PySem.Spec PyProof.Rows L2
abbrev R3:=D→D→Hp3→VK3→Prop
inductive lift2 (K:PySem.W.Frag) (r:R3) (x y:V) (H:Hp) (Q:VK):Prop
 | mk (dx dy:D) (H3:Hp3) (Q3:VK3) (_:HR K H3 H) (_:Rep K H dx x) (_:Rep K H dy y) (_:r dx dy H3 Q3) (_:KE K H Q3 Q)
inductive lift1 (K:PySem.W.Frag) (r:D→Hp3→VK3→Prop) (x:V) (H:Hp) (Q:VK):Prop
 | mk (dx:D) (H3:Hp3) (Q3:VK3) (_:HR K H3 H) (_:Rep K H dx x) (_:r dx H3 Q3) (_:KE K H Q3 Q)
inductive liftC (K:PySem.W.Frag) (r:List D→Hp3→VK3→Prop) (xs:List V) (H:Hp) (Q:VK):Prop
 | mk (ds:List D) (H3:Hp3) (Q3:VK3) (_:HR K H3 H) (_:RepL K H ds xs) (_:r ds H3 Q3) (_:KE K H Q3 Q)
inductive liftM (K:PySem.W.Frag) (r:D→List D→Hp3→VK3→Prop) (x:V) (xs:List V) (H:Hp) (Q:VK):Prop
 | mk (d:D) (ds:List D) (H3:Hp3) (Q3:VK3) (_:HR K H3 H) (_:Rep K H d x) (_:RepL K H ds xs) (_:r d ds H3 Q3) (_:KE K H Q3 Q)
section
variable {X:Cx} {a b c e:Expr} {es:List Expr} {pos:Pos} {ta tb tc te:TE3} {tr:TA3} {tA tB:TT3}
def v3 (i:Nat):TE3:=fun σ H Q => match σ[i]? with
 | some (some d) => Q d H
 | _ => False
def c3 (d:D):TE3:=fun _ H Q => Q d H
theorem p3_var (i:Nat) {x:Str} (hN:X.N[i]? = some x:=by rfl) (hv:Vis X.env.scope x:=by first | exact Or.inl rfl | exact Or.inr (Or.inl rfl) | exact Or.inr (Or.inr rfl)) (hd:(x == ("__debug__" : Str)) = false:=by decide)
  (hcd:(x == ("__classdict__" : Str)) = false:=by decide):PE3 X (.Name x pos) (v3 i) :=
 pe_imp (pv i hN hv hd hcd) fun σ H Q zz => zz.ex fun σ3 H3 Q3 sr hr t k => by
  unfold v3 at t
  split at t
  ·rename_i d h
   obtain ⟨v,h1,r⟩:=sr.get i d h
   exact ⟨v,h1,k d v H3 H TK.refl hr r t⟩
  ·exact t.elim
theorem p3_int {i:Int} {j:Nat}:PE3 X (.Constant (.int i) j pos) (c3 (.int i)):=pe_imp pe_int fun _ _ _ ⟨_,_,_,_,hr,t,k⟩ => k _ _ _ _ TK.refl hr (.int i) t
theorem p3_bl {i:Bool} {j:Nat}:PE3 X (.Constant (.bool i) j pos) (c3 (.bl i)):=pe_imp pe_bl fun _ _ _ ⟨_,_,_,_,hr,t,k⟩ => k _ _ _ _ TK.refl hr (.bl i) t
theorem p3_str {i:Str} {j:Nat}:PE3 X (.Constant (.str i) j pos) (c3 (.str i)):=pe_imp pe_str fun _ _ _ ⟨_,_,_,_,hr,t,k⟩ => k _ _ _ _ TK.refl hr (.str i) t
theorem p3_ty {x:Str} {T:String} (hg:Gl X x) (hm:X.mg x = none) (hv:bootBuiltins x = some (.type T)) (hn:x ≠ "__name__":=by decide) (hd:(x == ("__debug__" : Str)) = false:=by decide):PE3 X (.Name x pos) (c3 (.ty T)) :=
 pe_imp (pe_bltn (v:=.ty T) hg hm hv rfl hn hd) fun _ _ _ ⟨_,_,_,_,hr,t,k⟩ => k _ _ _ _ TK.refl hr (.ty T) t
def o3 (r:R3) (ta tb:TE3):TE3:=fun σ H Q => ta σ H fun x H1 => tb σ H1 fun y H2 => r x y H2 Q
theorem lift_bin {K:PySem.W.Frag} {r:R3} {σ:St} {H:Hp} {Q:VK} (h:liftE K (o3 r ta tb) σ H Q):tOp (lift2 K r) (liftE K ta) (liftE K tb) σ H Q:=by
 obtain ⟨σ3,H3,Q3,sr,hr,t,k⟩:=h
 exact ⟨σ3,H3,_,sr,hr,t,fun x v H3a Ha tka hra rx qa => ⟨σ3,H3a,_,sr.mono tka,hra,qa,fun y u H3b Hb tkb hrb ry qb =>
  ⟨x,y,H3b,Q3,hrb,rx.mono tkb,ry,qb,k.mono (tka.trans tkb)⟩⟩⟩
theorem p3_op {op:Operator} {r:R3} (ho:OpR X (binaryOp op) (lift2 X.K r)) (ha:PE3 X a ta) (hb:PE3 X b tb):PE3 X (.BinOp a op b pos) (o3 r ta tb) :=
 pe_imp (pe_op ho ha hb) fun _ _ _ h => lift_bin h
theorem p3_cmp {op:CmpOp} {r:R3} (ho:OpR X (compareOp op) (lift2 X.K r)) (ha:PE3 X a ta) (hb:PE3 X b tb) (hm:behindInMarks op b = false:=by first | exact nomark _ | with_unfolding_all rfl):PE3 X (.Compare a [op] [b] pos) (o3 r ta tb) :=
 pe_imp (pe_cmpR ho ha hb hm) fun _ _ _ h => lift_bin h
theorem p3_ix {r:R3} (hr:IxR X (lift2 X.K r)) (ha:PE3 X a ta) (hb:PE3 X b tb) (hs:PlainIx b:=by exact fun _ _ => rfl):PE3 X (.Subscript a b pos) (o3 r ta tb) :=
 pe_imp (pe_ix hr ha hb hs) fun _ _ _ h => lift_bin h
def u3 (r:D→Hp3→VK3→Prop) (ta:TE3):TE3:=fun σ H Q => ta σ H fun x H1 => r x H1 Q
theorem p3_un {op:UnaryOp} {r:D→Hp3→VK3→Prop} (ho:UnR X (unaryOp op) (lift1 X.K r)) (ha:PE3 X a ta):PE3 X (.UnaryOp op a pos) (u3 r ta) :=
 pe_imp (pe_un ho ha) fun _ _ _ zz => zz.ex fun σ3 H3 Q3 sr hr t k => ⟨σ3,H3,_,sr,hr,t,fun x v H3a Ha tka hra rx qa => ⟨x,H3a,Q3,hra,rx,qa,k.mono tka⟩⟩
def bt (d:D) (H:Hp3) (Q:Bool→Hp3→Prop):Prop:=match d with
 | .bl k => Q k H
 | _ => False
theorem ke_test {K:PySem.W.Frag} {H:Hp} {Q3:Bool→Hp3→Prop} {Q:Bool→Hp→Prop} (k:KT K H Q3 Q):KE K H (fun d H1 => bt d H1 Q3) (fun x H' => ∃ c,x = .bl c∧Q c H'):=fun d v H3' H' tk hr rep q => by
 cases rep with
 | bl b => exact ⟨b,rfl,k _ _ _ tk hr q⟩
 | _ => exact q.elim
def ts3 (t:TE3):TT3:=fun σ H Q => t σ H fun d H1 => bt d H1 Q
theorem p3_tcmp {op:CmpOp} {r:R3} (ho:OpR X (compareOp op) (lift2 X.K r)) (ha:PE3 X a ta) (hb:PE3 X b tb) (hm:behindInMarks op b = false:=by first | exact nomark _ | with_unfolding_all rfl):PT3 X (.Compare a [op] [b] pos) (ts3 (o3 r ta tb)) :=
 pt_imp (pt_cmpR ho ha hb hm) fun _ _ _ zz => zz.ex fun σ3 H3 Q3 sr hr t k => lift_bin ⟨σ3,H3,_,sr,hr,t,ke_test k⟩
theorem p3_tval (h:PE3 X e te) (he:∀ whole,isTrue e X.env whole = (do let v ← whole; standAt e.pos; holding [v] (truthy v)):=by intro _; rfl):PT3 X e (ts3 te) :=
 pt_imp (pt_val h he) fun _ _ _ zz => zz.ex fun σ3 H3 Q3 sr hr t k => ⟨σ3,H3,_,sr,hr,t,ke_test k⟩
def an3 (t u:TT3):TT3:=fun σ H Q => t σ H fun c H1 => if c = true then u σ H1 Q else Q false H1
def or3 (t u:TT3):TT3:=fun σ H Q => t σ H fun c H1 => if c = true then Q true H1 else u σ H1 Q
def no3 (t:TT3):TT3:=fun σ H Q => t σ H fun c H1 => Q (!c) H1
variable {rest:List Expr}
theorem KT.mono {K:PySem.W.Frag} {H H1:Hp} {Q3:Bool→Hp3→Prop} {Q:Bool→Hp→Prop} (k:KT K H Q3 Q) (t:TK H H1):KT K H1 Q3 Q:=fun d H3 H' t' => k d H3 H' (t.trans t')
theorem p3_wand1 (ha:PT3 X a tA):PW3 X (.BoolOp .And [a] pos) tA:=pw_and1 ha
theorem p3_wor1 (ha:PT3 X a tA):PW3 X (.BoolOp .Or [a] pos) tA:=pw_or1 ha
theorem p3_wand (ha:PT3 X a tA) (hb:PW3 X (.BoolOp .And (b::rest) pos) tB):PW3 X (.BoolOp .And (a::b::rest) pos) (an3 tA tB) :=
 pw_imp (pw_and ha hb) fun _ _ _ zz => zz.ex fun σ3 H3 Q3 sr hr t k => ⟨σ3,H3,_,sr,hr,t,fun c H3a Ha tka hra qa => by
  cases c with
  | true => exact ⟨σ3,H3a,Q3,sr.mono tka,hra,qa,k.mono tka⟩
  | false => exact k _ _ _ tka hra qa⟩
theorem p3_wor (ha:PT3 X a tA) (hb:PW3 X (.BoolOp .Or (b::rest) pos) tB):PW3 X (.BoolOp .Or (a::b::rest) pos) (or3 tA tB) :=
 pw_imp (pw_or ha hb) fun _ _ _ zz => zz.ex fun σ3 H3 Q3 sr hr t k => ⟨σ3,H3,_,sr,hr,t,fun c H3a Ha tka hra qa => by
  cases c with
  | false => exact ⟨σ3,H3a,Q3,sr.mono tka,hra,qa,k.mono tka⟩
  | true => exact k _ _ _ tka hra qa⟩
theorem p3_tw (h:PW3 X e tA):PT3 X e tA:=h.pt
theorem p3_tnot (ha:PT3 X a tA):PT3 X (.UnaryOp .Not a pos) (no3 tA) :=
 pt_imp (pt_not ha) fun _ _ _ zz => zz.ex fun σ3 H3 Q3 sr hr t k => ⟨σ3,H3,_,sr,hr,t,fun c H3a Ha tka hra qa => k _ _ _ tka hra qa⟩
def av3 (ta tb:TE3):TE3:=fun σ H Q => ta σ H fun x H1 => match x with
 | .bl c => if c = true then tb σ H1 Q else Q (.bl false) H1
 | _ => False
def nv3 (ta:TE3):TE3:=fun σ H Q => ta σ H fun x H1 => match x with
 | .bl c => Q (.bl (!c)) H1
 | _ => False
theorem p3_one {op:BoolOp} (h:PE3 X a ta):PE3 X (.BoolOp op [a] pos) ta:=pe_one h
theorem p3_and (ha:PE3 X a ta) (hb:PE3 X (.BoolOp .And (b::rest) pos) tb):PE3 X (.BoolOp .And (a::b::rest) pos) (av3 ta tb) :=
 pe_imp (pe_and ha hb) fun _ _ _ zz => zz.ex fun σ3 H3 Q3 sr hr t k => ⟨σ3,H3,_,sr,hr,t,fun x v H3a Ha tka hra rx qa => by
  cases rx with
  | bl c =>
   refine ⟨c,rfl,?_⟩
   cases c with
   | true => exact ⟨σ3,H3a,Q3,sr.mono tka,hra,qa,k.mono tka⟩
   | false => exact k _ _ _ _ tka hra (.bl false) qa
  | _ => exact qa.elim⟩
theorem p3_not (ha:PE3 X a ta):PE3 X (.UnaryOp .Not a pos) (nv3 ta) :=
 pe_imp (pe_not ha) fun _ _ _ zz => zz.ex fun σ3 H3 Q3 sr hr t k => ⟨σ3,H3,_,sr,hr,t,fun x v H3a Ha tka hra rx qa => by
  cases rx with
  | bl c => exact ⟨c,rfl,k _ _ _ _ tka hra (.bl _) qa⟩
  | _ => exact qa.elim⟩
def nil3:TA3:=fun _ H Q => Q [] H
def cons3 (ta:TE3) (tr:TA3):TA3:=fun σ H Q => ta σ H fun x H1 => tr σ H1 fun xs H2 => Q (x::xs) H2
theorem a3_nil:PA3 X [] nil3:=pa_imp pa_nil fun _ _ _ ⟨_,_,_,_,hr,t,k⟩ => k _ _ _ _ TK.refl hr .nil t
theorem a3_cons (ha:PE3 X e te) (hr:PA3 X es tr) (hs:starEach (e::es) X.env = (false,eval e X.env)::starEach es X.env:=by rfl):PA3 X (e::es) (cons3 te tr) :=
 pa_imp (pa_cons ha hr hs) fun _ _ _ zz => zz.ex fun σ3 H3 Q3 sr hr t k => ⟨σ3,H3,_,sr,hr,t,fun x v H3a Ha tka hra rx qa => ⟨σ3,H3a,_,sr.mono tka,hra,qa,fun ds vs H3b Hb tkb hrb rs qb =>
  k _ _ _ _ (tka.trans tkb) hrb (.cons (rx.mono tkb) rs) qb⟩⟩
def tp3 (t:TA3):TE3:=fun σ H Q => t σ H fun ds H1 => ds.length≤1000∧Q (.tup ds) H1
def ls3 (t:TA3):TE3:=fun σ H Q => t σ H fun ds H1 => ds.length≤1000∧∀ p,H1 p = none→Q (.ref p) (upd3 H1 p (.lst ds))
theorem le_line {n:Nat} (h:n≤1000):n≤sizeLine:=Nat.le_of_lt (small1000 h)
theorem p3_tup {x1:Nat} (h:PA3 X es tr):PE3 X (.Tuple es x1 pos) (tp3 tr) :=
 pe_imp (pe_tup h) fun _ _ _ zz => zz.ex fun σ3 H3 Q3 sr hr t k => ⟨σ3,H3,_,sr,hr,t,fun ds vs H3a Ha tka hra rs qa =>
  ⟨by rw [← rs.length]; exact le_line qa.1,fun p n => k _ _ _ _ (tka.trans (TK.fresh n)) (hra.tup n) (.tup upd_same (rs.mono (TK.fresh n))) qa.2⟩⟩
theorem p3_lst (h:PA3 X es tr):PE3 X (.List es pos) (ls3 tr) :=
 pe_imp (pe_lst h) fun _ _ _ zz => zz.ex fun σ3 H3 Q3 sr hr t k => ⟨σ3,H3,_,sr,hr,t,fun ds vs H3a Ha tka hra rs qa =>
  ⟨by rw [← rs.length]; exact le_line qa.1,fun p n => k _ _ _ _ (tka.trans (TK.fresh n)) (hra.setL (TK.fresh n) (rs.mono (TK.fresh n))) (.ref p) (qa.2 p (hra.fresh n))⟩⟩
end
section
variable {X:Cx}
def r3add:R3:=fun x y H Q => match x,y with
 | .int i,.int j => Q (.int (i + j)) H
 | .str i,.str j => i.length + j.length≤sizeLine∧Q (.str (i++j)) H
 | .ref a,.ref b => (match H a,H b with
  | some (.lst xs),some (.lst ys) => xs.length + ys.length≤sizeLine∧∀ p,H p = none→Q (.ref p) (upd3 H p (.lst (xs++ys)))
  | _,_ => False)
 | _,_ => False
theorem op3_add:OpR X (binaryOp .Add) (lift2 X.K r3add):=by
 intro pins s σ H x y v u Q I rx ry h
 obtain ⟨dx,dy,H3,Q3,hr,rdx,rdy,t,k⟩:=h
 cases rdx with
 | int i =>
  cases rdy with
  | int j => exact op_add pins s σ H _ _ v u Q I rx ry ⟨i,j,rfl,rfl,k _ _ _ _ TK.refl hr (.int _) t⟩
  | _ => exact t.elim
 | str i =>
  cases rdy with
  | str j => exact op_add_str pins s σ H _ _ v u Q I rx ry ⟨i,j,rfl,rfl,t.1,k _ _ _ _ TK.refl hr (.str _) t.2⟩
  | _ => exact t.elim
 | ref a =>
  cases rdy with
  | ref b =>
   (delta r3add at t; dsimp only at t)
   split at t
   ·rename_i xs ys ha hb
    obtain ⟨vs,ga,ra⟩:=hr a _ ha
    obtain ⟨us,gb,rb⟩:=hr b _ hb
    exact op_cat pins s σ H _ _ v u Q I rx ry ⟨a,b,vs,us,rfl,rfl,ga,gb,by rw [← ra.length,← rb.length]; exact t.1,fun p n =>
     k _ _ _ _ (TK.fresh n) (hr.setL (TK.fresh n) ((ra.append rb).mono (TK.fresh n))) (.ref p) (t.2 p (hr.fresh n))⟩
   ·exact t.elim
  | _ => exact t.elim
 | _ => exact t.elim
def rI3 (C:Int→Int→Prop) (g:Int→Int→D):R3:=fun x y H Q => match x,y with
 | .int i,.int j => C i j∧Q (g i j) H
 | _,_ => False
def rI30 (g:Int→Int→D):R3:=fun x y H Q => match x,y with
 | .int i,.int j => Q (g i j) H
 | _,_ => False
theorem op3_of0 {f:Value→Value→Sem Value} {g:Int→Int→V} {g3:Int→Int→D} (h:OpR X f (rI0 g)) (e:∀ H i j,Rep X.K H (g3 i j) (g i j)):OpR X f (lift2 X.K (rI30 g3)):=by
 intro pins s σ H x y v u Q I rx ry q
 obtain ⟨dx,dy,H3,Q3,hr,rdx,rdy,t,k⟩:=q
 cases rdx with
 | int i =>
  cases rdy with
  | int j => exact h pins s σ H _ _ v u Q I rx ry ⟨i,j,rfl,rfl,k _ _ _ _ TK.refl hr (e _ i j) t⟩
  | _ => exact t.elim
 | _ => exact t.elim
theorem op3_of {f:Value→Value→Sem Value} {C:Int→Int→Prop} {g:Int→Int→V} {g3:Int→Int→D} (h:OpR X f (rI C g)) (e:∀ H i j,Rep X.K H (g3 i j) (g i j)):OpR X f (lift2 X.K (rI3 C g3)):=by
 intro pins s σ H x y v u Q I rx ry q
 obtain ⟨dx,dy,H3,Q3,hr,rdx,rdy,t,k⟩:=q
 cases rdx with
 | int i =>
  cases rdy with
  | int j => exact h pins s σ H _ _ v u Q I rx ry ⟨i,j,rfl,rfl,t.1,k _ _ _ _ TK.refl hr (e _ i j) t.2⟩
  | _ => exact t.elim
 | _ => exact t.elim
theorem op3_sub:OpR X (binaryOp .Sub) (lift2 X.K (rI30 fun i j => .int (i - j))):=op3_of0 op_sub fun _ _ _ => .int _
theorem op3_mod:OpR X (binaryOp .Mod) (lift2 X.K (rI3 (fun _ j => 0 < j) fun i j => .int (i % j))):=op3_of op_mod fun _ _ _ => .int _
theorem op3_le:OpR X (compareOp .LtE) (lift2 X.K (rI30 fun i j => .bl (decide (i≤j)))):=op3_of0 op_le fun _ _ _ => .bl _
theorem op3_gt:OpR X (compareOp .Gt) (lift2 X.K (rI30 fun i j => .bl (decide (j < i)))):=op3_of0 op_gt fun _ _ _ => .bl _
def intsOf:List D→Option (List Int)
 | [] => some []
 | .int i::ds => (intsOf ds).map (i::·)
 | _::_ => none
theorem intsOf_inv:∀ {ds:List D} {ns:List Int},intsOf ds = some ns→ds = ns.map D.int
 | [],_,h => by simp only [intsOf,Option.some.injEq] at h; subst h; rfl
 | .int i::ds,ns,h => by
  simp only [intsOf,Option.map_eq_some_iff] at h
  obtain ⟨ms,h1,h2⟩:=h
  subst h2
  rw [intsOf_inv h1]; rfl
 | .non::_,_,h => by simp [intsOf] at h
 | .bl _::_,_,h => by simp [intsOf] at h
 | .str _::_,_,h => by simp [intsOf] at h
 | .tup _::_,_,h => by simp [intsOf] at h
 | .fl _::_,_,h => by simp [intsOf] at h
 | .ktup _::_,_,h => by simp [intsOf] at h
 | .ref _::_,_,h => by simp [intsOf] at h
 | .ty _::_,_,h => by simp [intsOf] at h
def r3lt:R3:=fun x y H Q => match x,y with
 | .int i,.int j => Q (.bl (decide (i < j))) H
 | .tup xs,.tup ys => (match intsOf xs,intsOf ys with
  | some ns,some ms => Q (.bl (HT.lexLt ns ms)) H
  | _,_ => False)
 | _,_ => False
theorem op3_lt (hu:X.A.units < cLine):OpR X (compareOp .Lt) (lift2 X.K r3lt):=by
 intro pins s σ H x y v u Q I rx ry h
 obtain ⟨dx,dy,H3,Q3,hr,rdx,rdy,t,k⟩:=h
 cases rdx with
 | int i =>
  cases rdy with
  | int j => exact op_lt pins s σ H _ _ v u Q I rx ry ⟨i,j,rfl,rfl,k _ _ _ _ TK.refl hr (.bl _) t⟩
  | _ => exact t.elim
 | tup ha ra =>
  cases rdy with
  | tup hb rb =>
   (delta r3lt at t; dsimp only at t)
   split at t
   ·rename_i ns ms e1 e2
    have z1:=intsOf_inv e1
    have z2:=intsOf_inv e2
    subst z1; subst z2
    have w1:=ra.ints_inv
    have w2:=rb.ints_inv
    subst w1; subst w2
    exact op_ltT hu pins s σ H _ _ v u Q I rx ry ⟨_,_,ns,ms,rfl,rfl,SqT.of ha,SqT.of hb,k _ _ _ _ TK.refl hr (.bl _) t⟩
   ·exact t.elim
  | _ => exact t.elim
 | _ => exact t.elim
def r3neg:D→Hp3→VK3→Prop:=fun x H Q => match x with
 | .int i => Q (.int (-i)) H
 | _ => False
theorem un3_neg:UnR X (unaryOp .USub) (lift1 X.K r3neg):=by
 intro pins s σ H x v Q I rx h
 obtain ⟨dx,H3,Q3,hr,rdx,t,k⟩:=h
 cases rdx with
 | int i => exact un_neg pins s σ H _ v Q I rx ⟨i,rfl,k _ _ _ _ TK.refl hr (.int _) t⟩
 | _ => exact t.elim
theorem atI_rep {K:PySem.W.Frag} {H:Hp} {ds:List D} {vs:List V} {i:Int} {d:D} (r:RepL K H ds vs) (h:atI ds i = some d):∃ v,atI vs i = some v∧Rep K H d v:=by
 unfold atI at h ⊢
 rw [r.length] at h
 cases e:ixN vs.length i with
 | none => rw [e] at h; cases h
 | some j =>
  rw [e] at h
  exact r.get h
def r3ix:R3:=fun x y H Q => match x,y with
 | .tup ds,.int i => (match atI ds i with | some d => Q d H | none => False)
 | .fl ds,.int i => (match atI ds i with | some d => Q d H | none => False)
 | .ktup ds,.int i => (match atI ds i with | some d => Q d H | none => False)
 | .str z,.int i => z.length≤sizeLine∧(match atI z.cps.toList i with | some c => Q (.str ⟨#[c]⟩) H | none => False)
 | .ref a,.int i => (match H a with
  | some (.lst ds) => (match atI ds i with | some d => Q d H | none => False)
  | _ => False)
 | _,_ => False
theorem ix3:IxR X (lift2 X.K r3ix):=by
 intro value slice pins s σ H x y v u Q I rx ry h hs
 obtain ⟨dx,dy,H3,Q3,hr,rdx,rdy,t,k⟩:=h
 cases rdx with
 | tup ha ra =>
  cases rdy with
  | int i =>
   (delta r3ix at t; dsimp only at t)
   split at t
   ·rename_i d e
    obtain ⟨w,ew,rw'⟩:=atI_rep ra e
    exact ix_tup value slice pins s σ H _ _ v u Q I rx ry ⟨_,_,i,w,rfl,rfl,SqT.of ha,ew,k _ _ _ _ TK.refl hr rw' t⟩ hs
   ·exact t.elim
  | _ => exact t.elim
 | ktup ha ra =>
  cases rdy with
  | int i =>
   (delta r3ix at t; dsimp only at t)
   split at t
   ·rename_i d e
    obtain ⟨w,ew,rw'⟩:=atI_rep ra e
    exact ix_tup value slice pins s σ H _ _ v u Q I rx ry ⟨_,_,i,w,rfl,rfl,ha.sq,ew,k _ _ _ _ TK.refl hr rw' t⟩ hs
   ·exact t.elim
  | _ => exact t.elim
 | fl ha ra =>
  cases rdy with
  | int i =>
   (delta r3ix at t; dsimp only at t)
   split at t
   ·rename_i d e
    obtain ⟨w,ew,rw'⟩:=atI_rep ra e
    exact ix_list value slice pins s σ H _ _ v u Q I rx ry ⟨_,_,i,w,rfl,rfl,ha.sq,ew,k _ _ _ _ TK.refl hr rw' t⟩ hs
   ·exact t.elim
  | _ => exact t.elim
 | str z =>
  cases rdy with
  | int i =>
   (delta r3ix at t; dsimp only at t)
   obtain ⟨hz,t⟩:=t
   split at t
   ·rename_i c e
    exact ix_str value slice pins s σ H _ _ v u Q I rx ry ⟨z,i,c,rfl,rfl,hz,e,k _ _ _ _ TK.refl hr (.str _) t⟩ hs
   ·exact t.elim
  | _ => exact t.elim
 | ref a =>
  cases rdy with
  | int i =>
   (delta r3ix at t; dsimp only at t)
   split at t
   ·rename_i ds ha
    obtain ⟨vs,ga,ra⟩:=hr a _ ha
    split at t
    ·rename_i d e
     obtain ⟨w,ew,rw'⟩:=atI_rep ra e
     exact ix_list value slice pins s σ H _ _ v u Q I rx ry ⟨_,_,i,w,rfl,rfl,SqL.of ga,ew,k _ _ _ _ TK.refl hr rw' t⟩ hs
    ·exact t.elim
   ·exact t.elim
  | _ => exact t.elim
 | _ => exact t.elim
def cut3 {α:Type} (xs:List α) (lo hi:Option Int):List α:=(xs.drop (HT.sIx xs.length 0 lo)).take (HT.sIx xs.length xs.length hi - HT.sIx xs.length 0 lo)
theorem cut3_rep {K:PySem.W.Frag} {H:Hp} {ds:List D} {vs:List V} (r:RepL K H ds vs) (lo hi:Option Int):RepL K H (cut3 ds lo hi) (cutV vs lo hi):=by
 unfold cut3 cutV
 rw [r.length]
 exact (r.drop _).take _
abbrev TO3:=St3→Hp3→(Option Int→Hp3→Prop)→Prop
inductive liftO (K:PySem.W.Frag) (t:TO3) (σ:St) (H:Hp) (Q:Option Int→Hp→Prop):Prop
 | mk (σ3:St3) (H3:Hp3) (Q3:Option Int→Hp3→Prop) (_:SR K H σ3 σ) (_:HR K H3 H) (_:t σ3 H3 Q3) (_:∀ o H3' H',TK H H'→HR K H3' H'→Q3 o H3'→Q o H')
theorem liftO.ex {K:PySem.W.Frag} {t:TO3} {σ:St} {H:Hp} {Q:Option Int→Hp→Prop} {G:Prop} (z:liftO K t σ H Q) (k:∀ (σ3:St3) (H3:Hp3) (Q3:Option Int→Hp3→Prop),SR K H σ3 σ→HR K H3 H→t σ3 H3 Q3→(∀ o H3' H',TK H H'→HR K H3' H'→Q3 o H3'→Q o H')→G):G:=by
 cases z with
 | mk σ3 H3 Q3 h0 h1 h2 h3 => exact k σ3 H3 Q3 h0 h1 h2 h3
def PO3 (X:Cx) (e:Option Expr) (t:TO3):Prop:=PO X e (liftO X.K t)
theorem po_imp {e:Option Expr} {t t':TO} (h:PO X e t) (i:∀ σ H Q,t' σ H Q→t σ H Q):PO X e t':=fun pins s σ H Q I hw => h pins s σ H Q I (i σ H Q hw)
def np3:TO3:=fun _ H Q => Q none H
def pt3 (t:TE3):TO3:=fun σ H Q => t σ H fun x H1 => match x with
 | .int i => Q (some i) H1
 | _ => False
theorem po3_none:PO3 X none np3:=po_imp po_none fun _ _ _ ⟨_,_,_,_,hr,t,k⟩ => k _ _ _ TK.refl hr t
theorem po3_some {e:Expr} {te:TE3} (h:PE3 X e te):PO3 X (some e) (pt3 te):=po_imp (po_some h) fun _ _ _ zz => zz.ex fun σ3 H3 Q3 sr hr t k =>
 ⟨σ3,H3,_,sr,hr,t,fun x v H3a Ha tka hra rx qa => by
  cases rx with
  | int i => exact ⟨i,rfl,k _ _ _ tka hra qa⟩
  | _ => exact qa.elim⟩
abbrev RSl:=D→Option Int→Option Int→Hp3→VK3→Prop
inductive liftSl (K:PySem.W.Frag) (r:RSl) (x:V) (lo hi:Option Int) (H:Hp) (Q:VK):Prop
 | mk (d:D) (H3:Hp3) (Q3:VK3) (_:HR K H3 H) (_:Rep K H d x) (_:r d lo hi H3 Q3) (_:KE K H Q3 Q)
def sl3 (r:RSl) (te:TE3) (tl th:TO3):TE3:=fun σ H Q => te σ H fun x H1 => tl σ H1 fun l H2 => th σ H2 fun u H3 => r x l u H3 Q
theorem p3_slice {e:Expr} {te:TE3} {lo hi:Option Expr} {tl th:TO3} {pos p2:Pos} {r:RSl} (hr:SlR X (liftSl X.K r)) (he:PE3 X e te) (hl:PO3 X lo tl) (hu:PO3 X hi th):PE3 X (.Subscript e (.Slice lo hi none p2) pos) (sl3 r te tl th) :=
 pe_imp (pe_slice hr he hl hu) fun _ _ _ zz => zz.ex fun σ3 H3 Q3 sr hr t k => ⟨σ3,H3,_,sr,hr,t,fun x v H3a Ha tka hra rx qa => ⟨σ3,H3a,_,sr.mono tka,hra,qa,fun l H3b Hb tkb hrb qb =>
  ⟨σ3,H3b,_,(sr.mono tka).mono tkb,hrb,qb,fun u H3c Hc tkc hrc qc => ⟨x,H3c,Q3,hrc,(rx.mono tkb).mono tkc,qc,k.mono ((tka.trans tkb).trans tkc)⟩⟩⟩⟩
def cb3 (r:List D→Hp3→VK3→Prop) (t:TA3):TE3:=fun σ H Q => t σ H fun ds H1 => r ds H1 Q
theorem lift_cb {K:PySem.W.Frag} {r:List D→Hp3→VK3→Prop} {t:TA3} {σ:St} {H:Hp} {Q:VK} (h:liftE K (cb3 r t) σ H Q):tCB (liftC K r) (liftA K t) σ H Q:=by
 obtain ⟨σ3,H3,Q3,sr,hr,t,k⟩:=h
 exact ⟨σ3,H3,_,sr,hr,t,fun ds vs H3a Ha tka hra rs qa => ⟨ds,H3a,Q3,hra,rs,qa,k.mono tka⟩⟩
theorem p3_callB {x:Str} {p pos:Pos} {e:Expr} {es:List Expr} {t:TA3} {id:String} {r:List D→Hp3→VK3→Prop} (hc:CallR X (.builtin id) (liftC X.K r)) (hg:Gl X x) (hm:X.mg x = none) (hv:bootBuiltins x = some (.builtin id)) (ha:PA3 X (e::es) t)
  (hn:x ≠ "__name__":=by decide) (hdb:(x == ("__debug__" : Str)) = false:=by decide)
  (he:starEach (e::es) X.env = (false,eval e X.env)::starEach es X.env:=by rfl) (hpl:(backTo pos (starEach es X.env)).any (·.1) = false:=by rfl):PE3 X (.Call (.Name x p) (e::es) [] pos) (cb3 r t) :=
 pe_imp (pe_callB hc hg hm hv ha hn hdb he hpl) fun _ _ _ h => lift_cb h
theorem p3_callTy {x:Str} {p pos:Pos} {e:Expr} {es:List Expr} {t:TA3} {T:String} {r:List D→Hp3→VK3→Prop} (hc:CallR X (.type T) (liftC X.K r)) (hg:Gl X x) (hm:X.mg x = none) (hv:bootBuiltins x = some (.type T)) (ha:PA3 X (e::es) t)
  (hn:x ≠ "__name__":=by decide) (hdb:(x == ("__debug__" : Str)) = false:=by decide)
  (he:starEach (e::es) X.env = (false,eval e X.env)::starEach es X.env:=by rfl) (hpl:(backTo pos (starEach es X.env)).any (·.1) = false:=by rfl):PE3 X (.Call (.Name x p) (e::es) [] pos) (cb3 r t) :=
 pe_imp (pe_callTy hc hg hm hv ha hn hdb he hpl) fun _ _ _ h => lift_cb h
def r3len:List D→Hp3→VK3→Prop:=fun ds H Q => match ds with
 | [.tup xs] => Q (.int xs.length) H
 | [.fl xs] => Q (.int xs.length) H
 | [.str z] => z.length≤sizeLine∧Q (.int z.length) H
 | [.ref a] => (match H a with
  | some (.lst xs) => Q (.int xs.length) H
  | _ => False)
 | _ => False
theorem cb3_len:CallR X (.builtin "len") (liftC X.K r3len):=by
 intro pins s σ H xs us Q I rs h
 obtain ⟨ds,H3,Q3,hr,rd,t,k⟩:=h
 cases rd with
 | nil => exact t.elim
 | cons r1 r2 =>
  cases r2 with
  | cons _ _ => cases r1 <;> exact t.elim
  | nil =>
   cases r1 with
   | tup ha ra => exact call_len_seq pins s σ H _ us Q I rs ⟨_,_,rfl,.inr (SqT.of ha),by rw [← ra.length]; exact k _ _ _ _ TK.refl hr (.int _) t⟩
   | fl ha ra => exact call_len_seq pins s σ H _ us Q I rs ⟨_,_,rfl,.inl ha.sq,by rw [← ra.length]; exact k _ _ _ _ TK.refl hr (.int _) t⟩
   | str z => exact call_len_str pins s σ H _ us Q I rs ⟨_,rfl,t.1,k _ _ _ _ TK.refl hr (.int _) t.2⟩
   | ref a =>
    (delta r3len at t; dsimp only at t)
    split at t
    ·rename_i ds ha
     obtain ⟨vs,ga,ra⟩:=hr a _ ha
     exact call_len_seq pins s σ H _ us Q I rs ⟨_,_,rfl,.inl (SqL.of ga),by rw [← ra.length]; exact k _ _ _ _ TK.refl hr (.int _) t⟩
    ·exact t.elim
   | _ => exact t.elim
def r3tuple:List D→Hp3→VK3→Prop:=fun ds H Q => match ds with
 | [.tup xs] => Q (.tup xs) H
 | [.fl xs] => Q (.tup xs) H
 | [.ref a] => (match H a with
  | some (.lst xs) => Q (.tup xs) H
  | _ => False)
 | _ => False
theorem cb3_tuple:CallR X (.type "tuple") (liftC X.K r3tuple):=by
 intro pins s σ H xs us Q I rs h
 obtain ⟨ds,H3,Q3,hr,rd,t,k⟩:=h
 cases rd with
 | nil => exact t.elim
 | cons r1 r2 =>
  cases r2 with
  | cons _ _ => cases r1 <;> exact t.elim
  | nil =>
   cases r1 with
   | tup ha ra => exact call_tuple_of pins s σ H _ us Q I rs ⟨_,_,rfl,.inr ⟨SqT.of ha,k _ _ _ _ TK.refl hr (.tup ha ra) t⟩⟩
   | fl ha ra => exact call_tuple_of pins s σ H _ us Q I rs ⟨_,_,rfl,.inl ⟨ha.sq,fun l n => k _ _ _ _ (TK.fresh n) (hr.tup n) (.tup upd_same (ra.mono (TK.fresh n))) t⟩⟩
   | ref a =>
    (delta r3tuple at t; dsimp only at t)
    split at t
    ·rename_i ds ha
     obtain ⟨vs,ga,ra⟩:=hr a _ ha
     exact call_tuple_of pins s σ H _ us Q I rs ⟨_,_,rfl,.inl ⟨SqL.of ga,fun l n => k _ _ _ _ (TK.fresh n) (hr.tup n) (.tup upd_same (ra.mono (TK.fresh n))) t⟩⟩
    ·exact t.elim
   | _ => exact t.elim
def r3list:List D→Hp3→VK3→Prop:=fun ds H Q => match ds with
 | [.tup xs] => ∀ p,H p = none→Q (.ref p) (upd3 H p (.lst xs))
 | [.fl xs] => ∀ p,H p = none→Q (.ref p) (upd3 H p (.lst xs))
 | [.ref a] => (match H a with
  | some (.lst xs) => ∀ p,H p = none→Q (.ref p) (upd3 H p (.lst xs))
  | _ => False)
 | _ => False
theorem cb3_list:CallR X (.type "list") (liftC X.K r3list):=by
 intro pins s σ H xs us Q I rs h
 obtain ⟨ds,H3,Q3,hr,rd,t,k⟩:=h
 have fin:∀ {ds:List D} {vs:List V},RepL X.K H ds vs→(∀ p,H3 p = none→Q3 (.ref p) (upd3 H3 p (.lst ds)))→∀ l,H l = none→Q (.ref l) (upd H l (.lst vs)):=fun ra q l n =>
  k _ _ _ _ (TK.fresh n) (hr.setL (TK.fresh n) (ra.mono (TK.fresh n))) (.ref l) (q l (hr.fresh n))
 cases rd with
 | nil => exact t.elim
 | cons r1 r2 =>
  cases r2 with
  | cons _ _ => cases r1 <;> exact t.elim
  | nil =>
   cases r1 with
   | tup ha ra => exact call_list_of pins s σ H _ us Q I rs ⟨_,_,rfl,.inr (SqT.of ha),fin ra t⟩
   | fl ha ra => exact call_list_of pins s σ H _ us Q I rs ⟨_,_,rfl,.inl ha.sq,fin ra t⟩
   | ref a =>
    (delta r3list at t; dsimp only at t)
    split at t
    ·rename_i ds ha
     obtain ⟨vs,ga,ra⟩:=hr a _ ha
     exact call_list_of pins s σ H _ us Q I rs ⟨_,_,rfl,.inl (SqL.of ga),fin ra t⟩
    ·exact t.elim
   | _ => exact t.elim
end
end L3
namespace L3
open PySem PySem.Spec PyProof.Rows L2
theorem turn_long {P:Program} {w:World} {K:PySem.W.Frag} {tg:Expr} (it:Addr) (lo:Int) (n:Nat):Turn P w K tg (Itr lo n) [it] it (fun i h => IsLongIter h it (lo + (i:Nat) * 1) ((n:Int) - (i:Nat)) 1) where
 mem:=List.mem_singleton.mpr rfl
 obj:=fun i h st b hb => by
  rw [List.mem_singleton.mp hb]
  exact ⟨_,st,fun v z => by have z':Data.fields _ = Data.cell v:=z; cases z'⟩
 keep:=fun i h h' st k => k it (List.mem_singleton.mpr rfl) _ st
 item:=by
  intro X hP hw hK hc i pins s σ H E I hf st hg
  subst hP hw hK
  obtain ⟨f0,f1,f2,f3,f4,f5⟩:=hf it (List.mem_singleton.mpr rfl)
  have hlt:i < n:=hg
  refine wpAny_pyNext_long_item st (by grind) fun h' st' sb => ?_
  have I1:Inv X pins σ H { s with heap:=h',toks:=s.toks + 1 }:=I.turned (fun b o hb e => (sb.2 b hb).trans e) f0 f1 f3 f4 f5
  have st2:IsLongIter h' it (lo + ((i + 1:Nat):Int) * 1) ((n:Int) - ((i + 1:Nat):Int)) 1:=by
   have e1:lo + (i:Int) * 1 + 1 = lo + ((i + 1:Nat):Int) * 1:=by grind
   have e2:(n:Int) - (i:Int) - 1 = (n:Int) - ((i + 1:Nat):Int):=by grind
   rw [← e1,← e2]; exact st'
  exact ⟨_,rfl,go_of (s:={ s with heap:=h',toks:=s.toks + 1 }) (n := "longrange_iterator") st2 rfl rfl (by decide) ⟨.int (lo + i),H,I1,⟨s.toks,by rw [Int.mul_one]⟩,⟨rfl,rfl⟩,st2,fun b hb => (hf b hb).1⟩⟩
 done:=by
  intro X hP hw hK hc i pins s σ H E I hf st hg
  subst hP hw hK
  obtain ⟨f0,f1,f2,f3,f4,f5⟩:=hf it (List.mem_singleton.mpr rfl)
  have hle:n≤i:=hg
  exact wpAny_pyNext_long_end (I.ok.hd hc) st (by grind) fun h' eb => ⟨rfl,I.turned (t':=s.toks) (fun b o hb e => eb b o hb e) f0 f1 f3 f4 f5⟩
 self:=fun _ _ _ _ _ st h => wpAny_pyIter_longiter st h
section
variable {X:Cx} {tg:Expr}
theorem range_any {pins:List (Addr×Obj)} {σ:St} {H:Hp} {s:Shared} {R:It→Hp→Prop} {E:Value→Shared→Prop} {lo hi:Int} {t u v:Tok} {tk:Nat} (I:Inv X pins σ H s) (q:R (Itr lo (hi - lo).toNat) H) :
  wpAny (model X.prog X.w) X.A (pyIter (.ref s.heap.objs.size)) (PIE X pins σ tg R) E { s with heap:=s.heap.push { cls:=.type "range",data:=.fields #[.int lo t,.int hi u,.int 1 v] },toks:=tk }:=by
 have I1:Inv X pins σ H { s with heap:=s.heap.push { cls:=.type "range",data:=.fields #[.int lo t,.int hi u,.int 1 v] },toks:=tk }:=I.kept fun b o e => Heap.get?_push_of_some _ e
 have e2:(((hi - lo).toNat:Nat):Int) - ((0:Nat):Int) = Builtin.Range.rangeSize lo hi 1:=by rw [rangeSize_one]; split <;> grind
 have e1:lo + ((0:Nat):Int) * 1 = lo:=by grind
 have hf:∀ b∈[(s.heap.push { cls:=.type "range",data:=.fields #[.int lo t,.int hi u,.int 1 v] }).objs.size],FpOk X pins H b:=fun b hb => by
  rw [List.mem_singleton.mp hb]
  exact I1.fpOk (Nat.le_refl _) (I1.hok.fresh (Nat.le_refl _))
 cases hs:Builtin.Range.small lo hi 1 with
 | true =>
  refine wpAny_pyIter_range (IsRange.new ..) hs ⟨_,_,_,_,H,rfl,I1.kept (t':=tk) fun b o e => Heap.get?_push_of_some _ e,turn_range _ lo (hi - lo).toNat,?_,hf,q⟩
  show IsRangeIter _ _ (lo + ((0:Nat):Int) * 1) ((((hi - lo).toNat:Nat):Int) - ((0:Nat):Int)) 1
  rw [e1,e2]
  exact Heap.get?_push_size _ rfl
 | false =>
  refine wpAny_pyIter_longrange (IsRange.new ..) hs ⟨_,_,_,_,H,rfl,I1.kept (t':=tk) fun b o e => Heap.get?_push_of_some _ e,turn_long _ lo (hi - lo).toNat,?_,hf,q⟩
  show IsLongIter _ _ (lo + ((0:Nat):Int) * 1) ((((hi - lo).toNat:Nat):Int) - ((0:Nat):Int)) 1
  rw [e1,e2]
  exact Heap.get?_push_size _ rfl
def jRng1 (ta:TA):TI:=fun σ H R => ta σ H fun vs H1 => ∃ j:Int,vs = [.int j]∧R (Itr 0 j.toNat) H1
def jRng2 (ta:TA):TI:=fun σ H R => ta σ H fun vs H1 => ∃ i j:Int,vs = [.int i,.int j]∧R (Itr i (j - i).toNat) H1
theorem pj_range1 {a:Expr} {ta:TA} {p pos:Pos} (hg:Gl X "range") (hm:X.mg "range" = none) (ha:PA X [a] ta) (hs:starEach [a] X.env = [(false,eval a X.env)]:=by rfl):PI X tg (.Call (.Name "range" p) [a] [] pos) (jRng1 ta):=by
 intro pins s σ H R I h
 refine Call_ (ld_blt I hg hm boot_range (PyProof.Rows.callWith_type1 (thn (ha pos pins s σ H _ I h) fun us s1 zz => ?_) hs rfl))
 obtain ⟨vs,H1,I1,r1,j,e,q⟩:=zz
 subst e
 obtain ⟨u,rfl,t,rfl⟩:=vals1 r1
 exact call_range_1 (range_any I1 (by simpa using q))
theorem pj_range2 {a b:Expr} {ta:TA} {p pos:Pos} (hg:Gl X "range") (hm:X.mg "range" = none) (ha:PA X [a,b] ta) (hs:starEach [a,b] X.env = [(false,eval a X.env),(false,eval b X.env)]:=by rfl) (hs2:starEach [b] X.env = [(false,eval b X.env)]:=by rfl) :
  PI X tg (.Call (.Name "range" p) [a,b] [] pos) (jRng2 ta):=by
 intro pins s σ H R I h
 refine Call_ (ld_blt I hg hm boot_range (PyProof.Rows.callWith_type1 (thn (ha pos pins s σ H _ I h) fun us s1 zz => ?_) (by rw [hs,hs2]) (by rw [hs2]; rfl)))
 obtain ⟨vs,H1,I1,r1,i,j,e,q⟩:=zz
 subst e
 obtain ⟨u,u',rfl,⟨t,rfl⟩,⟨t',rfl⟩⟩:=vals2 r1
 exact call_range_2 (range_any I1 q)
end
section
variable {X:Cx} {st:Stmt} {rest:List Stmt} {t u:TS3} {e:Expr} {te:TE3} {pos:Pos}
def nx3:TS3:=fun D σ H => D.nx σ H
def sq3 (t u:TS3):TS3:=fun D σ H => t { D with nx:=u D } σ H
theorem s3_nil:PSs3 X [] nx3:=pss_imp pss_nil fun _ _ _ ⟨_,_,_,sr,hr,t,k⟩ => k.nx _ _ _ _ TK.refl sr hr t
theorem s3_cons (h1:PS3 X st t) (h2:PSs3 X rest u):PSs3 X (st::rest) (sq3 t u) :=
 pss_imp (pss_cons h1 h2) fun _ _ _ zz => zz.ex fun σ3 H3 D3 sr hr q k => ⟨σ3,H3,{ D3 with nx:=u D3 },sr,hr,q,
  ⟨fun σ3' σ' H3' H' tk sr' hr' q' => ⟨σ3',H3',D3,sr',hr',q',k.mono tk⟩,k.rt,k.bk,k.ct⟩⟩
theorem s3_one (h1:PS3 X st t):PSs3 X [st] t:=pss_one h1
def dr3 (te:TE3):TS3:=fun D σ H => te σ H fun _ H1 => D.nx σ H1
theorem s3_expr (he:PE3 X e te) (hs:swapsWith e none pos.line X.env = pure false:=by rfl):PS3 X (.Expr e pos) (dr3 te) :=
 ps_imp (ps_expr he hs) fun _ _ _ zz => zz.ex fun σ3 H3 D3 sr hr t k => ⟨σ3,H3,_,sr,hr,t,fun x v H3a Ha tka hra rx qa => k.nx _ _ _ _ tka (sr.mono tka) hra qa⟩
def rt3 (te:TE3):TS3:=fun D σ H => te σ H D.rt
theorem s3_ret (he:PE3 X e te):PS3 X (.Return (some e) pos) (rt3 te) :=
 ps_imp (ps_ret he) fun _ _ _ zz => zz.ex fun σ3 H3 D3 sr hr t k => ⟨σ3,H3,_,sr,hr,t,k.rt⟩
def is3 (c:TT3) (t u:TS3):TS3:=fun D σ H => c σ H fun b H1 => if b = true then t D σ H1 else u D σ H1
theorem s3_if {c:Expr} {a b:List Stmt} {tc:TT3} (hc:PT3 X c tc) (ha:PSs3 X a t) (hb:PSs3 X b u):PS3 X (.If c a b pos) (is3 tc t u) :=
 ps_imp (ps_if hc ha hb) fun _ _ _ zz => zz.ex fun σ3 H3 D3 sr hr q k => ⟨σ3,H3,_,sr,hr,q,fun b H3a Ha tka hra qa => by
  cases b with
  | true => exact ⟨σ3,H3a,D3,sr.mono tka,hra,qa,k.mono tka⟩
  | false => exact ⟨σ3,H3a,D3,sr.mono tka,hra,qa,k.mono tka⟩⟩
def st3 (i:Nat) (te:TE3):TS3:=fun D σ H => te σ H fun x H1 => D.nx (σ.set i (some x)) H1
theorem s3_set (i:Nat) {x:Str} {pos':Pos} (hN:X.N.Nodup) (he:PE3 X e te) (hi:X.N[i]? = some x:=by rfl) (hx:Loc X.env.scope x:=by first | exact Or.inl rfl | exact Or.inr rfl) (hs:swapsWith e (some (.Name x pos')) pos.line X.env = pure false:=by rfl)
  (hf:X.fn x = true∨X.env.scope.names.lookup x = some .local:=by first | exact .inl rfl | exact .inr rfl | assumption):PS3 X (.Assign [.Name x pos'] e pos) (st3 i te) :=
 ps_imp (ps_set hN hi hx he hs hf) fun _ _ _ zz => zz.ex fun σ3 H3 D3 sr hr t k => ⟨σ3,H3,_,sr,hr,t,fun x v H3a Ha tka hra rx qa => k.nx _ _ _ _ tka ((sr.mono tka).set i rx) hra qa⟩
abbrev TG3:=D→St3→Hp3→(St3→Hp3→Prop)→Prop
inductive liftG (K:PySem.W.Frag) (t:TG3) (v:V) (σ:St) (H:Hp) (Q:St→Hp→Prop):Prop
 | mk (d:D) (σ3:St3) (H3:Hp3) (Q3:St3→Hp3→Prop) (_:Rep K H d v) (_:SR K H σ3 σ) (_:HR K H3 H) (_:t d σ3 H3 Q3) (_:KN K H Q3 Q)
def PG3 (X:Cx) (tg:Expr) (t:TG3):Prop:=PG X tg (liftG X.K t)
theorem pg_imp {tg:Expr} {t t':TG} (h:PG X tg t) (i:∀ v σ H Q,t' v σ H Q→t v σ H Q):PG X tg t':=fun pins s σ H v u Q I r hw => h pins s σ H v u Q I r (i v σ H Q hw)
def gn3 (i:Nat):TG3:=fun d σ H Q => Q (σ.set i (some d)) H
theorem g3_name (i:Nat) {x:Str} (hN:X.N.Nodup) (hi:X.N[i]? = some x:=by rfl) (hx:Loc X.env.scope x:=by first | exact Or.inl rfl | exact Or.inr rfl) (hf:X.fn x = true∨X.env.scope.names.lookup x = some .local:=by first | exact .inl rfl | exact .inr rfl | assumption) :
  PG3 X (.Name x pos) (gn3 i):=pg_imp (pg_name hN hi hx hf) fun _ _ _ _ ⟨d,σ3,H3,Q3,rd,sr,hr,t,k⟩ => k _ _ _ _ TK.refl (sr.set i rd) hr t
def g2_3 (i j:Nat):TG3:=fun d σ H Q => match d with
 | .tup [x,y] => Q ((σ.set i (some x)).set j (some y)) H
 | _ => False
theorem g3_pair (i j:Nat) {x y:Str} {p1 p2:Pos} {kk:Nat} (hc:X.calm = true) (hN:X.N.Nodup) (hi:X.N[i]? = some x:=by rfl) (hx:Loc X.env.scope x:=by first | exact Or.inl rfl | exact Or.inr rfl) (hj:X.N[j]? = some y:=by rfl) (hy:Loc X.env.scope y:=by first | exact Or.inl rfl | exact Or.inr rfl)
  (hf:X.fn x = true∨X.env.scope.names.lookup x = some .local:=by first | exact .inl rfl | exact .inr rfl | assumption) (hf':X.fn y = true∨X.env.scope.names.lookup y = some .local:=by first | exact .inl rfl | exact .inr rfl | assumption) :
  PG3 X (.Tuple [.Name x p1,.Name y p2] kk pos) (g2_3 i j) :=
 pg_imp (pg_tup (n:=2) hc (pgs_cons (pg_name hN hi hx hf) (pgs_cons (pg_name hN hj hy hf') pgs_nil))) fun v σ H Q ⟨d,σ3,H3,Q3,rd,sr,hr,t,k⟩ => by
  cases rd with
  | tup ha ra =>
   cases ra with
   | nil => exact t.elim
   | cons r1 ra =>
    cases ra with
    | nil => exact t.elim
    | cons r2 ra =>
     cases ra with
     | cons _ _ => exact t.elim
     | nil => exact ⟨_,_,rfl,SqT.of ha,rfl,_,_,rfl,_,_,rfl,rfl,k _ _ _ _ TK.refl ((sr.set i r1).set j r2) hr t⟩
  | _ => exact t.elim
def as3 (te:TE3) (g:TG3):TS3:=fun D σ H => te σ H fun x H1 => g x σ H1 D.nx
theorem s3_asg {tg:Expr} {g:TG3} (he:PE3 X e te) (hg:PG3 X tg g) (hs:swapsWithSole [tg] e pos.line X.env = pure false:=by rfl) (hw:swappedStores [tg] e X.env = pure none:=by rfl)
  (h1:(assignEach [tg] X.env).map (·.2) = [assign tg X.env]:=by rfl):PS3 X (.Assign [tg] e pos) (as3 te g) :=
 ps_imp (ps_asg he hg hs hw h1) fun _ _ _ zz => zz.ex fun σ3 H3 D3 sr hr t k => ⟨σ3,H3,_,sr,hr,t,fun x v H3a Ha tka hra rx qa => ⟨x,σ3,H3a,_,rx,sr.mono tka,hra,qa,k.nx.mono tka⟩⟩
def wh3 (c:TT3) (tb:TS3):TS3:=fun D σ H => ∃ (P:St3→Hp3→Prop) (μ:St3→Hp3→Nat),P σ H∧∀ σ H,P σ H →
 c σ H fun b H1 => if b = true then tb { D with nx:=fun σ' H' => P σ' H'∧μ σ' H' < μ σ H,ct:=fun σ' H' => P σ' H'∧μ σ' H' < μ σ H,bk:=D.nx } σ H1 else D.nx σ H1
theorem s3_while {c:Expr} {body:List Stmt} {tc:TT3} {tb:TS3} (hp:PassesOwn (model X.prog X.w) X.A X.env X.xe) (hc:PT3 X c tc) (hb:PSs3 X body tb):PS3 X (.While c body [] pos) (wh3 tc tb) :=
 ps_imp (ps_while hp hc hb) fun D σ H zz => zz.ex fun σ3 H3 D3 sr hr t k => by
  obtain ⟨P,μ,p0,turn⟩:=t
  refine ⟨fun m σ' H' => ∃ σ3' H3',TK H H'∧SR X.K H' σ3' σ'∧HR X.K H3' H'∧P σ3' H3'∧m = μ σ3' H3',⟨_,σ3,H3,TK.refl,sr,hr,p0,rfl⟩,?_⟩
  rintro m σ1 H1 ⟨σ31,H31,tk1,sr1,hr1,p1,rfl⟩
  refine ⟨σ31,H31,_,sr1,hr1,turn σ31 H31 p1,fun b H3a Ha tka hra qa => ?_⟩
  cases b with
  | false => exact k.nx _ _ _ _ (tk1.trans tka) (sr1.mono tka) hra qa
  | true =>
   refine ⟨fun σ' H' => ∃ σ3' H3',TK H H'∧SR X.K H' σ3' σ'∧HR X.K H3' H'∧P σ3' H3'∧μ σ3' H3' < μ σ31 H31,?_,?_⟩
   ·rintro σ' H' ⟨σ3',H3',z1,z2,z3,z4,z5⟩
    exact ⟨_,z5,σ3',H3',z1,z2,z3,z4,rfl⟩
   ·have kk:=k.mono (tk1.trans tka)
    exact ⟨σ31,H3a,_,sr1.mono tka,hra,qa,⟨fun σ3' σ' H3' H' tk' sr' hr' q' => ⟨σ3',H3',(tk1.trans tka).trans tk',sr',hr',q'.1,q'.2⟩,kk.rt,kk.nx,
     fun σ3' σ' H3' H' tk' sr' hr' q' => ⟨σ3',H3',(tk1.trans tka).trans tk',sr',hr',q'.1,q'.2⟩⟩⟩
abbrev TI3:=St3→Hp3→(List D→(Hp3→Prop)→Hp3→Prop)→Prop
def ItOk (K:PySem.W.Frag) (H0:Hp) (ds:List D) (keep:Hp3→Prop) (J:It):Prop :=
 ∀ H3 H,TK H0 H→HR K H3 H→keep H3→(∀ i,i < ds.length→J.go i H∧∀ x H',J.yld i H x H'→TK H H'∧HR K H3 H'∧∃ d,ds[i]? = some d∧Rep K H' d x)∧J.stop ds.length H
inductive liftI (K:PySem.W.Frag) (t:TI3) (σ:St) (H:Hp) (R:It→Hp→Prop):Prop
 | mk (σ3:St3) (H3:Hp3) (R3:List D→(Hp3→Prop)→Hp3→Prop) (_:SR K H σ3 σ) (_:HR K H3 H) (_:t σ3 H3 R3) (_:∀ ds keep J H3' H',TK H H'→HR K H3' H'→ItOk K H' ds keep J→R3 ds keep H3'→R J H')
def PI3 (X:Cx) (tg iter:Expr) (t:TI3):Prop:=PI X tg iter (liftI X.K t)
theorem pi_imp {tg iter:Expr} {t t':TI} (h:PI X tg iter t) (i:∀ σ H R,t' σ H R→t σ H R):PI X tg iter t':=fun pins s σ H R I hw => h pins s σ H R I (i σ H R hw)
def il3 (te:TE3):TI3:=fun σ H R => te σ H fun x H1 => match x with
 | .ref a => (match H1 a with
  | some (.lst ds) => R ds (fun H' => H' a = some (.lst ds)) H1
  | _ => False)
 | .fl ds => R ds (fun _ => True) H1
 | _ => False
def it3 (te:TE3):TI3:=fun σ H R => te σ H fun x H1 => match x with
 | .tup ds => R ds (fun _ => True) H1
 | _ => False
theorem itOk_list {K:PySem.W.Frag} {H:Hp} {a:Addr} {ds:List D}:ItOk K H ds (fun H' => H' a = some (.lst ds)) (Itl K a):=fun H3 H' _ hr hk => by
 obtain ⟨vs,ga,ra⟩:=hr a _ hk
 refine ⟨fun i hi => ⟨⟨vs,vs[i]'(by rw [← ra.length]; exact hi),SqL.of ga,by simp⟩,fun x H'' y => ?_⟩,⟨vs,SqL.of ga,by rw [ra.length]; exact Nat.le_refl _⟩⟩
 obtain ⟨e,y⟩:=y
 subst e
 exact ⟨TK.refl,hr,ra.getV (y vs (SqL.of ga))⟩
theorem itOk_fl {K:PySem.W.Frag} {H:Hp} {a:Addr} {xs:List V} {ds:List D} (ha:FzL K H a xs) (ra:RepL K H ds xs):ItOk K H ds (fun _ => True) (Itl K a):=fun H3 H' tk hr _ => by
 have hq:=(tk.fzL ha).sq
 have ra':=ra.mono tk
 refine ⟨fun i hi => ⟨⟨xs,xs[i]'(by rw [← ra.length]; exact hi),hq,by simp⟩,fun x H'' y => ?_⟩,⟨xs,hq,by rw [ra.length]; exact Nat.le_refl _⟩⟩
 obtain ⟨e,y⟩:=y
 subst e
 exact ⟨TK.refl,hr,ra'.getV (y xs hq)⟩
theorem itOk_tup {K:PySem.W.Frag} {H:Hp} {a:Addr} {xs:List V} {ds:List D} (ha:SqT K H a xs) (ra:RepL K H ds xs):ItOk K H ds (fun _ => True) (Itt K a):=fun H3 H' tk hr _ => by
 have hq:=tk.sqT ha
 have ra':=ra.mono tk
 refine ⟨fun i hi => ⟨⟨xs,xs[i]'(by rw [← ra.length]; exact hi),hq,by simp⟩,fun x H'' y => ?_⟩,⟨xs,hq,by rw [ra.length]; exact Nat.le_refl _⟩⟩
 obtain ⟨e,y⟩:=y
 subst e
 exact ⟨TK.refl,hr,ra'.getV (y xs hq)⟩
theorem i3_list {tg:Expr} (h:PE3 X e te):PI3 X tg e (il3 te) :=
 pi_imp (pi_list h) fun _ _ _ ⟨σ3,H3,R3,sr,hr,t,k⟩ => ⟨σ3,H3,_,sr,hr,t,fun x v H3a Ha tka hra rx qa => by
  cases rx with
  | ref a =>
   simp only [] at qa
   split at qa
   ·rename_i ds ha
    obtain ⟨vs,ga,ra⟩:=hra a _ ha
    exact ⟨a,rfl,⟨vs,SqL.of ga⟩,k _ _ _ _ _ tka hra itOk_list qa⟩
   ·exact qa.elim
  | fl ha ra => exact ⟨_,rfl,⟨_,ha.sq⟩,k _ _ _ _ _ tka hra (itOk_fl ha ra) qa⟩
  | _ => exact qa.elim⟩
theorem i3_tup {tg:Expr} (h:PE3 X e te):PI3 X tg e (it3 te) :=
 pi_imp (pi_tup h) fun _ _ _ ⟨σ3,H3,R3,sr,hr,t,k⟩ => ⟨σ3,H3,_,sr,hr,t,fun x v H3a Ha tka hra rx qa => by
  cases rx with
  | tup ha ra => exact ⟨_,rfl,⟨_,SqT.of ha⟩,k _ _ _ _ _ tka hra (itOk_tup (SqT.of ha) ra) qa⟩
  | _ => exact qa.elim⟩
def rng (lo:Int) (n:Nat):List D:=(List.range n).map fun (i:Nat) => D.int (lo + (i:Int))
theorem rng_len (lo:Int) (n:Nat):(rng lo n).length = n:=by simp [rng]
theorem rng_get {lo:Int} {n i:Nat} (h:i < n):(rng lo n)[i]? = some (.int (lo + i)):=by simp [rng,h]
theorem itOk_rng {K:PySem.W.Frag} {H:Hp} {lo:Int} {n:Nat}:ItOk K H (rng lo n) (fun _ => True) (Itr lo n):=fun H3 H' tk hr _ => by
 refine ⟨fun i hi => ?_,?_⟩
 ·rw [rng_len] at hi
  refine ⟨hi,fun x H'' y => ?_⟩
  obtain ⟨e,y⟩:=y
  subst y
  subst e
  exact ⟨TK.refl,hr,_,rng_get hi,.int _⟩
 ·rw [rng_len]; exact Nat.le_refl _
def rg1 (x:D) (H:Hp3) (R:List D→(Hp3→Prop)→Hp3→Prop):Prop:=match x with
 | .int j => R (rng 0 j.toNat) (fun _ => True) H
 | _ => False
def rg2 (x y:D) (H:Hp3) (R:List D→(Hp3→Prop)→Hp3→Prop):Prop:=match x,y with
 | .int i,.int j => R (rng i (j - i).toNat) (fun _ => True) H
 | _,_ => False
def ir1 (ta:TE3):TI3:=fun σ H R => ta σ H fun x H1 => rg1 x H1 R
def ir2 (ta tb:TE3):TI3:=fun σ H R => ta σ H fun x H1 => tb σ H1 fun y H2 => rg2 x y H2 R
theorem i3_rng1 {tg a:Expr} {ta:TE3} {p pos:Pos} (hm:X.mg "range" = none) (ha:PE3 X a ta) (hg:Gl X "range":=by rfl) (hs:starEach [a] X.env = [(false,eval a X.env)]:=by rfl) (hs':starEach [a] X.env = (false,eval a X.env)::starEach [] X.env:=by rfl):PI3 X tg (.Call (.Name "range" p) [a] [] pos) (ir1 ta) :=
 pi_imp (pj_range1 hg hm (a3_cons ha a3_nil hs') hs) fun _ _ _ ⟨σ3,H3,R3,sr,hr,t,k⟩ => by
  refine ⟨σ3,H3,fun ds H1 => (match ds with | [x] => rg1 x H1 R3 | _ => False),sr,hr,t,fun ds vs H3a Ha tka hra rs qa => ?_⟩
  cases rs with
  | nil => exact qa.elim
  | cons r1 r2 =>
   cases r2 with
   | cons _ _ => exact qa.elim
   | nil =>
    cases r1 with
    | int j => exact ⟨j,rfl,k _ _ _ _ _ tka hra itOk_rng qa⟩
    | _ => exact qa.elim
theorem i3_rng2 {tg a b:Expr} {ta tb:TE3} {p pos:Pos} (hm:X.mg "range" = none) (ha:PE3 X a ta) (hb:PE3 X b tb) (hg:Gl X "range":=by rfl) (hs:starEach [a,b] X.env = [(false,eval a X.env),(false,eval b X.env)]:=by rfl)
  (hs1:starEach [a,b] X.env = (false,eval a X.env)::starEach [b] X.env:=by rfl) (hs2:starEach [b] X.env = (false,eval b X.env)::starEach [] X.env:=by rfl) (hs3:starEach [b] X.env = [(false,eval b X.env)]:=by rfl):PI3 X tg (.Call (.Name "range" p) [a,b] [] pos) (ir2 ta tb) :=
 pi_imp (pj_range2 hg hm (a3_cons ha (a3_cons hb a3_nil hs2) hs1) hs hs3) fun _ _ _ ⟨σ3,H3,R3,sr,hr,t,k⟩ => by
  refine ⟨σ3,H3,fun ds H1 => (match ds with | [x,y] => rg2 x y H1 R3 | _ => False),sr,hr,t,fun ds vs H3a Ha tka hra rs qa => ?_⟩
  cases rs with
  | nil => exact qa.elim
  | cons r1 r2 =>
   cases r2 with
   | nil => exact qa.elim
   | cons r2 r3 =>
    cases r3 with
    | cons _ _ => exact qa.elim
    | nil =>
     cases r1 with
     | int i =>
      cases r2 with
      | int j => exact ⟨i,j,rfl,k _ _ _ _ _ tka hra itOk_rng qa⟩
      | _ => exact qa.elim
     | _ => exact qa.elim
def fo3 (wi:TI3) (g:TG3) (tb:TS3):TS3:=fun D σ H => wi σ H fun ds keep H1 => ∃ P:Nat→St3→Hp3→Prop,P 0 σ H1∧(∀ i σ H,i≤ds.length→P i σ H→keep H) ∧
 (∀ i d σ H,ds[i]? = some d→P i σ H→g d σ H fun σ2 H2 => tb { D with nx:=P (i + 1),ct:=P (i + 1),bk:=D.nx } σ2 H2)∧∀ σ H,P ds.length σ H→D.nx σ H
theorem s3_for {tg iter:Expr} {body:List Stmt} {wi:TI3} {g:TG3} {tb:TS3} (hp:PassesOwn (model X.prog X.w) X.A X.env X.xe) (hc:X.calm = true) (hi:PI3 X tg iter wi) (hg:PG3 X tg g) (hb:PSs3 X body tb)
  (hs:∀ x,foldedSetIterable iter X.env x = pure x:=by intro _; rfl):PS3 X (.For tg iter body [] pos) (fo3 wi g tb) :=
 ps_imp (ps_for hp hc hi hg hb hs) fun D σ H zz => zz.ex fun σ3 H3 D3 sr hr t k => ⟨σ3,H3,_,sr,hr,t,fun ds keep J H3' H' tk' hr' ok q => by
  obtain ⟨P,p0,pk,pstep,pd⟩:=q
  refine ⟨fun i m σ1 H1 => m = ds.length - i∧i≤ds.length∧∃ σ31 H31,TK H' H1∧SR X.K H1 σ31 σ1∧HR X.K H31 H1∧P i σ31 H31,⟨ds.length,by simp,Nat.zero_le _,σ3,H3',TK.refl,sr.mono tk',hr',p0⟩,?_⟩
  rintro i m σ1 H1 ⟨rfl,hi,σ31,H31,tk1,sr1,hr1,p1⟩
  obtain ⟨go,stop⟩:=ok H31 H1 tk1 hr1 (pk i σ31 H31 hi p1)
  by_cases hlt:i < ds.length
  ·obtain ⟨g1,g2⟩:=go i hlt
   refine .inr ⟨g1,fun σ' H'' => i + 1≤ds.length∧∃ σ3' H3'',TK H' H''∧SR X.K H'' σ3' σ'∧HR X.K H3'' H''∧P (i + 1) σ3' H3'',fun σ' H'' z => ⟨ds.length - (i + 1),by omega,rfl,z.1,z.2⟩,fun x H'' y => ?_⟩
   obtain ⟨tky,hry,d,ed,rd⟩:=g2 x H'' y
   refine ⟨d,σ31,H31,_,rd,sr1.mono tky,hry,pstep i d σ31 H31 ed p1,fun σ3b σb H3b Hb tkb srb hrb qb => ⟨σ3b,H3b,_,srb,hrb,qb,?_⟩⟩
   have kk:=k.mono (tk'.trans ((tk1.trans tky).trans tkb))
   exact ⟨fun σ3c σc H3c Hc tkc src hrc qc => ⟨hlt,σ3c,H3c,((tk1.trans tky).trans tkb).trans tkc,src,hrc,qc⟩,kk.rt,kk.nx,fun σ3c σc H3c Hc tkc src hrc qc => ⟨hlt,σ3c,H3c,((tk1.trans tky).trans tkb).trans tkc,src,hrc,qc⟩⟩
  ·have e:i = ds.length:=by omega
   subst e
   exact .inl ⟨stop,k.nx _ _ _ _ (tk'.trans tk1) sr1 hr1 (pd σ31 H31 p1)⟩⟩
end
abbrev Sp3:=List D→Hp3→VK3→Prop
def liftF (K:PySem.W.Frag) (sp:Sp3):Sp:=fun vs H Q _ => liftC K sp vs H Q
structure Fn (P:Program) (w:World) (K:PySem.W.Frag) (mg:Str→Option Value) (base:Heap) (k:Nat) (x:Str) (ps:List Str) (sp:Sp3):Prop where
 ex:∃ f fd,FnOk P w K mg base CX0 k f fd ps (liftF K sp)∧mg x = some (.ref f)∧PySem.W.keepIn K (.ref f) = true∧Binds K fd ps []
theorem p3_call {X:Cx} {k:Nat} {x:Str} {ps:List Str} {sp:Sp3} {p pos:Pos} {e:Expr} {es:List Expr} {t:TA3} (F:Fn X.prog X.w X.K X.mg X.base k x ps sp) (hr:Room k X.A) (ha:PA3 X (e::es) t)
  (hg:Gl X x:=by rfl) (hdb:(x == ("__debug__" : Str)) = false:=by decide) (he:starEach (e::es) X.env = (false,eval e X.env)::starEach es X.env:=by rfl) (hpl:(backTo pos (starEach es X.env)).any (·.1) = false:=by rfl) :
  PE3 X (.Call (.Name x p) (e::es) [] pos) (cb3 sp t):=by
 obtain ⟨f,fd,F,hm,hk,hb⟩:=F.ex
 refine pe_imp (pe_call (E:=E0) F hr hg hm hk hb .nil pass0 ha hdb he hpl) fun _ _ _ h => ?_
 obtain ⟨σ3,H3,Q3,sr,hr,t,k⟩:=h
 exact ⟨σ3,H3,_,sr,hr,t,fun ds vs H3a Ha tka hra rs qa => ⟨ds,H3a,Q3,hra,by rw [List.append_nil]; exact rs,qa,k.mono tka⟩⟩
def start3 (N:List Str) (ds:List D):St3:=ds.map some++List.replicate (N.length - ds.length) none
theorem sr_start {K:PySem.W.Frag} {H:Hp} {N:List Str} {ds:List D} {vs:List V} (r:RepL K H ds vs):SR K H (start3 N ds) (L2.start N vs):=by
 have hl:=r.length
 refine ⟨by simp [start3,L2.start,hl],fun i d h => ?_⟩
 unfold start3 at h
 by_cases hi:i < ds.length
 ·rw [List.getElem?_append_left (by simpa using hi),List.getElem?_map] at h
  cases e:ds[i]? with
  | none => rw [e] at h; cases h
  | some d' =>
   rw [e] at h
   cases h
   obtain ⟨v,hv,rv⟩:=r.get e
   refine ⟨v,?_,rv⟩
   unfold L2.start
   rw [List.getElem?_append_left (by rw [List.length_map,← hl]; exact hi),List.getElem?_map,hv]
   rfl
 ·rw [List.getElem?_append_right (by simpa using hi),List.getElem?_replicate] at h
  split at h <;> cases h
def fin3 (Q:VK3):Ends3:={ nx:=fun _ H' => ∃ H'',Sub3 H'' H'∧Q .non H'',rt:=fun d H' => ∃ H'',Sub3 H'' H'∧Q d H'' }
theorem fnok3 {P:Program} {w:World} {K:PySem.W.Frag} {mg:Str→Option Value} {base:Heap} {x qual:Str} {st:Stmt} {f:Addr} {fd:FuncData} {N ps:List Str} {k:Nat} {sp:Sp3} (F:Fun K x qual st f fd) (S:FnScope N ps (defScope st))
  (len:∀ ds H Q,sp ds H Q→ds.length = ps.length)
  (hbody:∀ (cdv:Value) (A:Around) (outer:List Env) (s:Shared) (H:Hp) (E:XK),Room k (A.deeper (envOfC qual (defScope st) s.heap.objs.size f cdv)) →
   ∃ t,PSs3 (cxOf CX0 P w K mg base N qual (defScope st) f cdv A outer s H E).nox (defBody st) t∧∀ ds H3 Q3,sp ds H3 Q3→t (fin3 Q3) (start3 N ds) H3):FnOk P w K mg base CX0 (k + 1) f fd ps (liftF K sp):=by
 refine F.ok S (fun vs H Q E h => ?_) (fun cdv A outer s H vs Q E hr h => ?_)
 ·obtain ⟨ds,H3,Q3,_,rs,q,_⟩:=h
  rw [← rs.length]
  exact len ds H3 Q3 q
 ·obtain ⟨ds,H3,Q3,hr3,rs,q,k⟩:=h
  obtain ⟨t,ht,hq⟩:=hbody cdv A outer s H E hr
  refine ⟨_,ht,start3 N ds,H3,_,sr_start rs,hr3,hq ds H3 Q3 q,⟨fun σ3 σ H3' H' tk sr hr' z => ?_,fun d v H3' H' tk hr' rd z => ?_,fun _ _ _ _ _ _ _ z => z.elim,fun _ _ _ _ _ _ _ z => z.elim⟩⟩
  ·obtain ⟨H'',sub,q'⟩:=z
   exact k _ _ _ _ tk (hr'.sub sub) .non q'
  ·obtain ⟨H'',sub,q'⟩:=z
   exact k _ _ _ _ tk (hr'.sub sub) rd q'
theorem fn3 {P:Program} {w:World} {K:PySem.W.Frag} {mg:Str→Option Value} {base:Heap} {x qual:Str} {st:Stmt} {f:Addr} {fd:FuncData} {N ps:List Str} {k:Nat} {sp:Sp3} (F:Fun K x qual st f fd) (S:FnScope N ps (defScope st))
  (hm:mg x = some (.ref f)) (hb:Binds K fd ps []) (len:∀ ds H Q,sp ds H Q→ds.length = ps.length)
  (hbody:∀ (cdv:Value) (A:Around) (outer:List Env) (s:Shared) (H:Hp) (E:XK),Room k (A.deeper (envOfC qual (defScope st) s.heap.objs.size f cdv)) →
   ∃ t,PSs3 (cxOf CX0 P w K mg base N qual (defScope st) f cdv A outer s H E).nox (defBody st) t∧∀ ds H3 Q3,sp ds H3 Q3→t (fin3 Q3) (start3 N ds) H3):Fn P w K mg base (k + 1) x ps sp :=
 ⟨f,fd,fnok3 F S len hbody,hm,F.kp,hb⟩
theorem start_law {K:PySem.W.Frag} {sp:Sp3} {H:Hp} {a:Addr} {ns:List Int} {E:XK} (hO:Only H) (hS:SqL K H a (ns.map V.int)) (h:sp [.fl (ns.map D.int)] (fun _ => none) (fun d _ => d = .bl true)):liftF K sp [.ref a] H (fun v _ => v = .bl true) E:=by
 refine ⟨[.fl (ns.map D.int)],fun _ => none,fun d _ => d = .bl true,fun b o e => (by cases e),.cons (.fl ?_ (RepL.ints ns)) .nil,h,fun d v H3' H' tk hr rd q => ?_⟩
 ·rcases hS with (z | z) | z
  ·rcases hO a with q | ⟨o,xs,q⟩
   ·rw [z] at q; cases q
   ·rw [z] at q; cases q
  ·exact .inl z
  ·exact .inr z
 ·subst q
  cases rd
  rfl
def mapO {α β:Type} (f:α→Option β):List α→Option (List β)
 | [] => some []
 | d::ds => match f d with
  | none => none
  | some p => match mapO f ds with
   | none => none
   | some ps => some (p::ps)
def pyN:Nat→D→Option PyData
 | 0,d => match d with
  | .non => some .none
  | .bl b => some (.bool b)
  | .int i => some (.int i)
  | .str x => if PyData.strOk x = true then some (.str x) else none
  | _ => none
 | n + 1,d => match d with
  | .non => some .none
  | .bl b => some (.bool b)
  | .int i => some (.int i)
  | .str x => if PyData.strOk x = true then some (.str x) else none
  | .tup ds => (mapO (pyN n) ds).map .tuple
  | .ktup ds => (mapO (pyN n) ds).map .tuple
  | _ => none
def pyH (H:Hp3) (d:D):Option PyData:=match d with
 | .ref a => (match H a with
  | some (.lst ds) => (mapO (pyN 4) ds).map .list
  | _ => none)
 | .fl ds => (mapO (pyN 4) ds).map .list
 | d => pyN 5 d
section
variable {X:Cx} {pins:List (Addr×Obj)} {σ:St} {H:Hp} {s:Shared}
theorem mapO_cons {f:D→Option PyData} {d:D} {ds:List D} {ps:List PyData} (h:mapO f (d::ds) = some ps):∃ p ps',f d = some p∧mapO f ds = some ps'∧ps = p::ps':=by
 unfold mapO at h
 cases e1:f d with
 | none => rw [e1] at h; cases h
 | some p =>
  rw [e1] at h
  cases e2:mapO f ds with
  | none => rw [e2] at h; cases h
  | some ps' => rw [e2] at h; cases h; exact ⟨p,ps',rfl,rfl,rfl⟩
theorem vals_reads {f:D→Option PyData} {n:Nat} (hf:∀ {d:D} {v:V} {u:Value} {p:PyData},Rep X.K H d v→RelV v u→f d = some p→(∃ as,Reads s.heap u p as)∧p.canLay0 = true∧p.depth≤n) :
  ∀ {ds:List D} {vs:List V} {us:List Value} {ps:List PyData},RepL X.K H ds vs→Vals vs us→mapO f ds = some ps→(∃ as,ReadsAll s.heap us ps as)∧PyData.canLayAll0 ps = true∧PyData.depthAll ps≤n:=by
 intro ds vs us ps hr hv h
 induction hv generalizing ds ps with
 | nil =>
  cases hr
  cases h
  exact ⟨⟨[],.nil⟩,rfl,Nat.zero_le _⟩
 | cons q qs ih =>
  cases hr with
  | cons r rs =>
   obtain ⟨p,ps',e1,e2,rfl⟩:=mapO_cons h
   obtain ⟨⟨as,h1⟩,h2,h3⟩:=hf r q e1
   obtain ⟨⟨bs,g1⟩,g2,g3⟩:=ih rs e2
   exact ⟨⟨_,.cons h1 g1⟩,by rw [PyData.canLayAll0,h2,g2]; rfl,Nat.max_le.mpr ⟨h3,g3⟩⟩
theorem rep_reads (I:Inv X pins σ H s):∀ (n:Nat) {d:D} {v:V} {u:Value} {p:PyData},Rep X.K H d v→RelV v u→pyN n d = some p→(∃ as,Reads s.heap u p as)∧p.canLay0 = true∧p.depth≤n:=by
 intro n
 induction n with
 | zero =>
  intro d v u p r q h
  cases r with
  | non => cases h; cases q; exact ⟨⟨_,.none⟩,rfl,Nat.zero_le _⟩
  | bl b => cases h; cases q; exact ⟨⟨_,.bool b⟩,rfl,Nat.zero_le _⟩
  | int i => cases h; obtain ⟨t,rfl⟩:=q; exact ⟨⟨_,.int i t⟩,rfl,Nat.zero_le _⟩
  | str x =>
   replace h:(if PyData.strOk _ = true then some (PyData.str _) else none) = some p:=h
   split at h
   ·rename_i hx
    cases h; obtain ⟨t,rfl⟩:=q; exact ⟨⟨_,.str x t⟩,hx,Nat.zero_le _⟩
   ·cases h
  | _ => cases h
 | succ n ih =>
  intro d v u p r q h
  cases r with
  | non => cases h; cases q; exact ⟨⟨_,.none⟩,rfl,Nat.zero_le _⟩
  | bl b => cases h; cases q; exact ⟨⟨_,.bool b⟩,rfl,Nat.zero_le _⟩
  | int i => cases h; obtain ⟨t,rfl⟩:=q; exact ⟨⟨_,.int i t⟩,rfl,Nat.zero_le _⟩
  | str x =>
   replace h:(if PyData.strOk _ = true then some (PyData.str _) else none) = some p:=h
   split at h
   ·rename_i hx
    cases h; obtain ⟨t,rfl⟩:=q; exact ⟨⟨_,.str x t⟩,hx,Nat.zero_le _⟩
   ·cases h
  | tup ha ra =>
   replace h:(mapO (pyN n) _).map PyData.tuple = some p:=h
   rw [Option.map_eq_some_iff] at h
   obtain ⟨ps,h1,rfl⟩:=h
   cases q
   obtain ⟨its,rv,⟨o,ho,hc,m,hd⟩,_⟩:=I.tuple (SqT.of ha)
   obtain ⟨⟨as,g1⟩,g2,g3⟩:=vals_reads (f:=pyN n) (n:=n) ih ra rv h1
   exact ⟨⟨_,.tuple ho hc hd (by simpa using g1)⟩,g2,by simp only [PyData.depth]; omega⟩
  | ktup ha ra =>
   replace h:(mapO (pyN n) _).map PyData.tuple = some p:=h
   rw [Option.map_eq_some_iff] at h
   obtain ⟨ps,h1,rfl⟩:=h
   cases q
   obtain ⟨its,rv,⟨o,ho,hc,m,hd⟩,_⟩:=I.tuple ha.sq
   obtain ⟨⟨as,g1⟩,g2,g3⟩:=vals_reads (f:=pyN n) (n:=n) ih ra rv h1
   exact ⟨⟨_,.tuple ho hc hd (by simpa using g1)⟩,g2,by simp only [PyData.depth]; omega⟩
  | _ => cases h
theorem pyH_reads (I:Inv X pins σ H s) {H3:Hp3} (hr:HR X.K H3 H) {d:D} {v:V} {u:Value} {p:PyData} (r:Rep X.K H d v) (q:RelV v u) (h:pyH H3 d = some p):(∃ as,Reads s.heap u p as)∧p.canLay0 = true∧p.depth≤5:=by
 have lst:∀ {a:Addr} {xs:List V} {ds:List D},SqL X.K H a xs→RepL X.K H ds xs→(mapO (pyN 4) ds).map PyData.list = some p→(∃ as,Reads s.heap (.ref a) p as)∧p.canLay0 = true∧p.depth≤5:=fun hq ra h => by
  simp only [Option.map_eq_some_iff] at h
  obtain ⟨ps,h1,rfl⟩:=h
  obtain ⟨its,rv,pl,_⟩:=I.list hq
  obtain ⟨o,ho,hc,m,hd⟩:=pl.isList
  obtain ⟨⟨as,g1⟩,g2,g3⟩:=vals_reads (f:=pyN 4) (n:=4) (rep_reads I 4) ra rv h1
  exact ⟨⟨_,.list ho hc hd (by simpa using g1)⟩,g2,by simp only [PyData.depth]; omega⟩
 cases r with
 | ref a =>
  (delta pyH at h; dsimp only at h)
  split at h
  ·rename_i ds ha
   obtain ⟨vs,ga,ra⟩:=hr a _ ha
   cases q
   exact lst (SqL.of ga) ra h
  ·cases h
 | fl ha ra => cases q; exact lst ha.sq ra h
 | non => exact rep_reads I 5 .non q h
 | bl b => exact rep_reads I 5 (.bl b) q h
 | int b => exact rep_reads I 5 (.int b) q h
 | str b => exact rep_reads I 5 (.str b) q h
 | ty b => exact rep_reads I 5 (.ty b) q h
 | tup a b => exact rep_reads I 5 (.tup a b) q h
 | ktup a b => exact rep_reads I 5 (.ktup a b) q h
end
def r3eq:R3:=fun x y H Q => match pyH H x,pyH H y with
 | some p,some q => Q (.bl (PyData.eqv p q)) H
 | _,_ => False
def r3ne:R3:=fun x y H Q => match pyH H x,pyH H y with
 | some p,some q => Q (.bl (!PyData.eqv p q)) H
 | _,_ => False
section
variable {X:Cx}
theorem op3_eq (hu:X.A.units + 64 < cLine):OpR X (compareOp .Eq) (lift2 X.K r3eq):=by
 intro pins s σ H x y v u Q I rx ry h
 obtain ⟨dx,dy,H3,Q3,hr,rdx,rdy,t,k⟩:=h
 simp only [r3eq] at t
 split at t
 ·rename_i p q e1 e2
  obtain ⟨⟨as,h1⟩,h2,h3⟩:=pyH_reads I hr rdx rx e1
  obtain ⟨⟨bs,g1⟩,g2,g3⟩:=pyH_reads I hr rdy ry e2
  exact SeqAt.compareEq_reads h1 g1 h2 g2 (by have:=Nat.min_le_left p.depth q.depth; omega) ⟨.bl _,H,I,rfl,k _ _ _ _ TK.refl hr (.bl _) t⟩
 ·exact t.elim
theorem op3_ne (hu:X.A.units + 64 < cLine):OpR X (compareOp .NotEq) (lift2 X.K r3ne):=by
 intro pins s σ H x y v u Q I rx ry h
 obtain ⟨dx,dy,H3,Q3,hr,rdx,rdy,t,k⟩:=h
 simp only [r3ne] at t
 split at t
 ·rename_i p q e1 e2
  obtain ⟨⟨as,h1⟩,h2,h3⟩:=pyH_reads I hr rdx rx e1
  obtain ⟨⟨bs,g1⟩,g2,g3⟩:=pyH_reads I hr rdy ry e2
  exact SeqAt.compareNe_reads h1 g1 h2 g2 (by have:=Nat.min_le_left p.depth q.depth; omega) ⟨.bl _,H,I,rfl,k _ _ _ _ TK.refl hr (.bl _) t⟩
 ·exact t.elim
def seqH (H:Hp3) (d:D):Option (List D):=match d with
 | .ref a => (match H a with
  | some (.lst ds) => some ds
  | _ => none)
 | .fl ds => some ds
 | .tup ds => some ds
 | _ => none
def r3in (neg:Bool):R3:=fun x y H Q => match pyN 4 x,(seqH H y).bind (mapO (pyN 4)) with
 | some p,some ps => Q (.bl (if neg then !ps.any (fun q => PyData.eqv q p) else ps.any fun q => PyData.eqv q p)) H
 | _,_ => False
open Classical in
def inE (h:Heap) (p:PyData) (u:Value):Bool:=decide (∃ q as,Reads h u q as∧q.canLay0 = true∧PyData.eqv q p = true)
open Classical in
theorem inE_eq {h:Heap} {p q:PyData} {u:Value} {as:List Addr} (r:Reads h u q as) (c:q.canLay0 = true):inE h p u = PyData.eqv q p:=by
 unfold inE
 cases e:PyData.eqv q p with
 | true => exact decide_eq_true ⟨q,as,r,c,e⟩
 | false =>
  refine decide_eq_false fun z => ?_
  obtain ⟨q',as',r',c',e'⟩:=z
  have z:=SeqAt.Reads.unique q q' u as as' c r r'
  subst z
  rw [e] at e'
  cases e'
theorem in_items {pins:List (Addr×Obj)} {σ:St} {H:Hp} {s:Shared} (I:Inv X pins σ H s) (p:PyData) :
  ∀ {ds:List D} {vs:List V} {us:List Value} {ps:List PyData},RepL X.K H ds vs→Vals vs us→mapO (pyN 4) ds = some ps →
   us.any (inE s.heap p) = ps.any (fun q => PyData.eqv q p)∧∀ u∈us,∃ q as,Reads s.heap u q as∧q.canLay0 = true∧q.depth≤4:=by
 intro ds vs us ps hr hv h
 induction hv generalizing ds ps with
 | nil =>
  cases hr
  cases h
  exact ⟨rfl,fun _ z => nomatch z⟩
 | cons q qs ih =>
  cases hr with
  | cons r rs =>
   obtain ⟨p',ps',e1,e2,rfl⟩:=mapO_cons h
   obtain ⟨⟨as,h1⟩,h2,h3⟩:=rep_reads I 4 r q e1
   obtain ⟨g1,g2⟩:=ih rs e2
   refine ⟨by rw [List.any_cons,List.any_cons,inE_eq h1 h2,g1],fun u hu => ?_⟩
   rcases List.mem_cons.mp hu with e | hu
   ·rw [e]; exact ⟨_,_,h1,h2,h3⟩
   ·exact g2 u hu
theorem in_at {A:Around} {pins:List (Addr×Obj)} {σ:St} {H:Hp} {s:Shared} (I:Inv X pins σ H s) (hu:A.units + 8 < cLine) {x:D} {vx:V} {ux:Value} {p:PyData} (rx:Rep X.K H x vx) (qx:RelV vx ux) (ex:pyN 4 x = some p)
  {us:List Value} (h:∀ u∈us,∃ q as,Reads s.heap u q as∧q.canLay0 = true∧q.depth≤4):∀ u,u∈us.toArray→SeqAt.EqAt A s u ux (inE s.heap p u):=fun u hm => by
 obtain ⟨q,as,h1,h2,h3⟩:=h u (by simpa using hm)
 obtain ⟨⟨bs,g1⟩,g2,g3⟩:=rep_reads I 4 rx qx ex
 rw [inE_eq h1 h2]
 exact SeqAt.eqAt_reads _ _ A s _ _ _ _ h1 g1 h2 g2 (by have:=Nat.min_le_left q.depth p.depth; omega)
theorem in1_units {A:Around} (h:A.units + 64 < cLine):A.in1.units + 8 < cLine:=by
 have e:A.in1.units = A.units + 1:=rfl
 omega
theorem op3_notIn (hu:X.A.units + 64 < cLine):OpR X (compareOp .NotIn) (lift2 X.K (r3in true)):=by
 intro pins s σ H x y v u Q I rx ry h
 obtain ⟨dx,dy,H3,Q3,hr,rdx,rdy,t,k⟩:=h
 simp only [r3in] at t
 split at t
 ·rename_i p ps e1 e2
  simp only [Option.bind_eq_some_iff] at e2
  obtain ⟨ds,e2,e3⟩:=e2
  have fin:=k _ _ _ _ TK.refl hr (.bl _) t
  cases rdy with
  | ref a =>
   (delta seqH at e2; dsimp only at e2)
   split at e2
   ·rename_i ds' ha
    cases e2
    obtain ⟨vs,ga,ra⟩:=hr a _ ha
    cases ry
    obtain ⟨its,rv,pl,_⟩:=I.list (SqL.of ga)
    obtain ⟨g1,g2⟩:=in_items I p ra rv e3
    refine SeqAt.notIn_listAt (inE s.heap p) pl.isList (in_at I (in1_units hu) rdx rx e1 g2) ⟨.bl _,H,I,rfl,?_⟩
    rw [show its.toArray.any (inE s.heap p) = its.any (inE s.heap p) by simp,g1]
    exact fin
   ·cases e2
  | fl ha ra =>
   cases e2
   cases ry
   obtain ⟨its,rv,pl,_⟩:=I.list ha.sq
   obtain ⟨g1,g2⟩:=in_items I p ra rv e3
   refine SeqAt.notIn_listAt (inE s.heap p) pl.isList (in_at I (in1_units hu) rdx rx e1 g2) ⟨.bl _,H,I,rfl,?_⟩
   rw [show its.toArray.any (inE s.heap p) = its.any (inE s.heap p) by simp,g1]
   exact fin
  | tup ha ra =>
   cases e2
   cases ry
   obtain ⟨its,rv,pl,_⟩:=I.tuple (SqT.of ha)
   obtain ⟨g1,g2⟩:=in_items I p ra rv e3
   refine SeqAt.notIn_tupleAt (inE s.heap p) pl (in_at I (in1_units hu) rdx rx e1 g2) ⟨.bl _,H,I,rfl,?_⟩
   rw [show its.toArray.any (inE s.heap p) = its.any (inE s.heap p) by simp,g1]
   exact fin
  | _ => cases e2
 ·exact t.elim
def tyH (H:Hp3) (d:D):Option String:=match d with
 | .non => some "NoneType"
 | .bl _ => some "bool"
 | .int _ => some "int"
 | .str _ => some "str"
 | .tup _ => some "tuple"
 | .fl _ => some "list"
 | .ref a => (match H a with
  | some (.lst _) => some "list"
  | some (.dic _) => some "dict"
  | _ => none)
 | .ty _ => none
 | .ktup _ => some "tuple"
def isT (U T:String):Bool:=U == T || (U == "bool" && T == "int")
def kinds:List String:=["int", "bool", "str", "tuple", "list", "dict"]
def r3isi:List D→Hp3→VK3→Prop:=fun ds H Q => match ds with
 | [x,.ty T] => (match tyH H x with
  | some U => T∈kinds∧Q (.bl (isT U T)) H
  | none => False)
 | _ => False
theorem kit_ok (K:PySem.W.Frag) (U T:String) (hU:U ∈ "NoneType"::kinds) (hT:T∈kinds):PySem.W.kitOne K (.type U) (.type T) = some (isT U T):=by
 simp only [kinds,List.mem_cons,List.not_mem_nil,or_false] at hU hT
 rcases hU with rfl | rfl | rfl | rfl | rfl | rfl | rfl <;> rcases hT with rfl | rfl | rfl | rfl | rfl | rfl <;> kernel_rfl
theorem r3isi_inv {ds:List D} {H:Hp3} {Q:VK3} (t:r3isi ds H Q):∃ x T U,ds = [x,.ty T]∧tyH H x = some U∧T∈kinds∧Q (.bl (isT U T)) H:=by
 unfold r3isi at t
 split at t
 ·split at t
  ·exact ⟨_,_,_,rfl,by assumption,t⟩
  ·exact t.elim
 ·exact t.elim
theorem cb3_isi:CallR X (.builtin "isinstance") (liftC X.K r3isi):=by
 intro pins s σ H xs us Q I rs h
 obtain ⟨ds,H3,Q3,hr,rd,t,k⟩:=h
 obtain ⟨x,T,U,rfl,eU,hT,t⟩:=r3isi_inv t
 cases rd with | cons r1 r2 => cases r2 with | cons r2 r3 => cases r3 with | nil => cases r2 with | ty _ =>
 obtain ⟨u,w,rfl,ru,rw'⟩:=vals2 rs
 obtain rfl:w = Value.type T:=rw'
 have fin:∀ tk,EP X pins σ Q (.bool (isT U T)) { s with toks:=tk }:=fun tk => ⟨.bl _,H,I.tok tk,rfl,k _ _ _ _ TK.refl hr (.bl _) t⟩
 have e:∀ (hU:U ∈ "NoneType"::kinds),PySem.W.kitOne X.K (.type U) (.type T) = some (isT U T):=fun hU => kit_ok X.K U T hU hT
 cases r1 with
 | non => cases eU; exact isinst_ok I ru (.non) (e (.head _)) fin
 | bl b => cases eU; exact isinst_ok I ru (.bl b) (e (.tail _ (.tail _ (.head _)))) fin
 | int b => cases eU; exact isinst_ok I ru (.int b) (e (.tail _ (.head _))) fin
 | str b => cases eU; exact isinst_ok I ru (.str b) (e (.tail _ (.tail _ (.tail _ (.head _))))) fin
 | ty b => cases eU
 | tup ha ra =>
  cases eU
  cases ru
  obtain ⟨its,_,⟨o,h1,h2,_⟩,_⟩:=I.tuple (SqT.of ha)
  exact PySem.W.kia_one PySem.W.kitx_tuple I.kIn ⟨o,h1,h2⟩ (e (.tail _ (.tail _ (.tail _ (.tail _ (.head _)))))) (fun z => nomatch z) fin
 | ktup ha ra =>
  cases eU
  cases ru
  obtain ⟨its,_,⟨o,h1,h2,_⟩,_⟩:=I.tuple ha.sq
  exact PySem.W.kia_one PySem.W.kitx_tuple I.kIn ⟨o,h1,h2⟩ (e (.tail _ (.tail _ (.tail _ (.tail _ (.head _)))))) (fun z => nomatch z) fin
 | fl ha ra =>
  cases eU
  cases ru
  obtain ⟨its,_,pl,_⟩:=I.list ha.sq
  obtain ⟨o,h1,h2,_⟩:=pl.isList
  exact PySem.W.kia_one PySem.W.kitx_list I.kIn ⟨o,h1,h2⟩ (e (.tail _ (.tail _ (.tail _ (.tail _ (.tail _ (.head _))))))) (fun z => nomatch z) fin
 | ref a =>
  (delta tyH at eU; dsimp only at eU)
  split at eU
  ·rename_i ds ha
   cases eU
   obtain ⟨vs,ga,ra⟩:=hr a _ ha
   exact isinst_ok I ru (.lst ga) (e (.tail _ (.tail _ (.tail _ (.tail _ (.tail _ (.head _))))))) fin
  ·rename_i ds ha
   cases eU
   obtain ⟨vs,ga,ra⟩:=hr a _ ha
   exact isinst_ok I ru (.dT ga) (e (.tail _ (.tail _ (.tail _ (.tail _ (.tail _ (.tail _ (.head _)))))))) fin
  all_goals cases eU
def m3 (r:D→List D→Hp3→VK3→Prop) (to:TE3) (t:TA3):TE3:=fun σ H Q => to σ H fun x H1 => (match x with
 | .ref a => (match H1 a with
  | some (.lst _) => t σ H1 fun xs H2 => r x xs H2 Q
  | _ => False)
 | _ => False)
theorem p3_bm {o e:Expr} {es:List Expr} {to:TE3} {t:TA3} {name:Str} {apos cpos:Pos} {id:String} {r:D→List D→Hp3→VK3→Prop} (slot:Slot "list" name id) (hty:typeOf (.builtin id) = pure (.type "method_descriptor")) (hm:MtR X id (liftM X.K r)) (ho:PE3 X o to) (ha:PA3 X (e::es) t)
  (hbase:attributeBase o name X.env (eval o X.env) = eval o X.env:=by rfl)
  (hfew:((backTo cpos (starEach (e::es) X.env)).all (fun x => !x.1) && (backToKw cpos (keywordEach [] X.env)).all (fun x => x.1.isSome)
   && decide ((e::es).length + ([]:List Keyword).length + (if ([]:List Keyword).isEmpty then 0 else 1) < 30)) = true:=by rfl)
  (hline:(apos.endLine == cpos.line) = true:=by rfl) (hs:starEach (e::es) X.env = (false,eval e X.env)::starEach es X.env:=by rfl) (hplain:(backTo cpos (starEach es X.env)).any (·.1) = false:=by rfl) :
  PE3 X (.Call (.Attribute o name apos) (e::es) [] cpos) (m3 r to t) :=
 pe_imp (pe_bm PySem.F.plainAttrs_list slot hty hm ho ha hbase hfew hline hs hplain) fun _ _ _ zz => zz.ex fun σ3 H3 Q3 sr hr t k => ⟨σ3,H3,_,sr,hr,t,fun x v H3a Ha tka hra rx qa => by
  cases rx with
  | ref a =>
   simp only [] at qa
   split at qa
   ·rename_i ds ha
    obtain ⟨vs,ga,ra⟩:=hra a _ ha
    exact ⟨.inl ⟨rfl,vs,SqL.of ga⟩,σ3,H3a,_,sr.mono tka,hra,qa,fun ds us H3b Hb tkb hrb rs qb => ⟨.ref a,ds,H3b,Q3,hrb,.ref a,rs,qb,k.mono (tka.trans tkb)⟩⟩
   ·exact qa.elim
  | _ => exact qa.elim⟩
def r3app:D→List D→Hp3→VK3→Prop:=fun x xs H Q => match x,xs with
 | .ref a,[y] => (match H a with
  | some (.lst ds) => ds.length < sizeLine∧Q .non (upd3 H a (.lst (ds++[y])))
  | _ => False)
 | _,_ => False
theorem mt3_app:MtR X "list.append" (liftM X.K r3app):=by
 intro pins s σ H x xs v us Q I rx rs h
 obtain ⟨d,ds,H3,Q3,hr,rd,rds,t,k⟩:=h
 cases rd with
 | ref a =>
  cases rds with
  | nil => exact t.elim
  | cons r1 r2 =>
   cases r2 with
   | cons _ _ => exact t.elim
   | nil =>
    (delta r3app at t; dsimp only at t)
    split at t
    ·rename_i ds ha
     obtain ⟨vs,ga,ra⟩:=hr a _ ha
     exact mt_append pins s σ H _ _ v us Q I rx rs ⟨a,vs,_,rfl,rfl,ga,by rw [← ra.length]; exact t.1,k _ _ _ _ (TK.lst ga) (hr.setL (TK.lst ga) ((ra.snoc r1).mono (TK.lst ga))) .non t.2⟩
    ·exact t.elim
 | _ => exact t.elim
def r3ext:D→List D→Hp3→VK3→Prop:=fun x xs H Q => match x,xs with
 | .ref a,[.ref b] => (match H a,H b with
  | some (.lst ds),some (.lst es) => ds.length + es.length≤sizeLine∧Q .non (upd3 H a (.lst (ds++es)))
  | _,_ => False)
 | _,_ => False
theorem mt3_ext:MtR X "list.extend" (liftM X.K r3ext):=by
 intro pins s σ H x xs v us Q I rx rs h
 obtain ⟨d,ds,H3,Q3,hr,rd,rds,t,k⟩:=h
 cases rd with
 | ref a =>
  cases rds with
  | nil => exact t.elim
  | cons r1 r2 =>
   cases r2 with
   | cons _ _ => cases r1 <;> exact t.elim
   | nil =>
    cases r1 with
    | ref b =>
     (delta r3ext at t; dsimp only at t)
     split at t
     ·rename_i ds es ha hb
      obtain ⟨vs,ga,ra⟩:=hr a _ ha
      obtain ⟨ws,gb,rb⟩:=hr b _ hb
      exact mt_extend pins s σ H _ _ v us Q I rx rs ⟨a,b,vs,ws,rfl,rfl,ga,gb,by rw [← ra.length,← rb.length]; exact t.1,k _ _ _ _ (TK.lst ga) (hr.setL (TK.lst ga) ((ra.append rb).mono (TK.lst ga))) .non t.2⟩
     ·exact t.elim
    | _ => exact t.elim
 | _ => exact t.elim
end
theorem closure_ok {scope:Scope} {env:Env} (h:∀ y,(y,NameKind.free)∈scope.names→∃ c,env.cells.lookup y = some c) :
  ∃ cl,closureFor scope env = pure cl∧(∀ y c,cl.lookup y = some c→env.cells.lookup y = some c)∧∀ y,(y,NameKind.free)∈scope.names→∃ c,cl.lookup y = some c:=by
 have go:∀ (names:List (Str×NameKind)) (cs:List (Str×Addr)),(∀ y,(y,NameKind.free)∈names→∃ c,env.cells.lookup y = some c)→(∀ y c,cs.lookup y = some c→env.cells.lookup y = some c) →
   ∃ cl,(forIn (m:=Sem) names cs fun (x:Str×NameKind) r => match x with
    | (name,kind) => if (kind == NameKind.free) = true then do let c ← cellOf env name; pure (ForInStep.yield ((name,c)::r)) else pure (ForInStep.yield r)) = pure cl ∧
    (∀ y c,cl.lookup y = some c→env.cells.lookup y = some c)∧(∀ y,(y,NameKind.free)∈names→∃ c,cl.lookup y = some c)∧∀ y c,cs.lookup y = some c→∃ c',cl.lookup y = some c':=by
  intro names
  induction names with
  | nil => intro cs _ h2; exact ⟨cs,rfl,h2,(fun _ z => nomatch z),fun y c e => ⟨c,e⟩⟩
  | cons x r ih =>
   intro cs h1 h2
   obtain ⟨n,k⟩:=x
   by_cases hk:k = NameKind.free
   ·subst hk
    obtain ⟨c,hc⟩:=h1 n List.mem_cons_self
    have ec:cellOf env n = pure c:=by unfold cellOf; rw [hc]
    have h2':∀ y c',((n,c)::cs).lookup y = some c'→env.cells.lookup y = some c':=fun y c' e => by
     rw [List.lookup_cons] at e
     split at e
     ·rename_i he
      cases e
      rw [eq_of_beq he]; exact hc
     ·exact h2 y c' e
    obtain ⟨cl,e1,e2,e3,e4⟩:=ih ((n,c)::cs) (fun y hy => h1 y (List.mem_cons_of_mem _ hy)) h2'
    have hn:∃ c',cl.lookup n = some c':=e4 n c (by rw [List.lookup_cons]; simp)
    refine ⟨cl,?_,e2,fun y hy => ?_,fun y c' e => ?_⟩
    ·rw [List.forIn_cons]
     simp only [beq_self_eq_true,if_true,ec]
     exact e1
    ·rcases List.mem_cons.mp hy with z | z
     ·cases z; exact hn
     ·exact e3 y z
    ·by_cases hy:y = n
     ·rw [hy]; exact hn
     ·exact e4 y c' (by rw [List.lookup_cons,beq_eq_false_iff_ne.mpr hy]; exact e)
   ·have hb:(k == NameKind.free) = false:=by simpa using hk
    obtain ⟨cl,e1,e2,e3,e4⟩:=ih cs (fun y hy => h1 y (List.mem_cons_of_mem _ hy)) h2
    refine ⟨cl,?_,e2,fun y hy => ?_,e4⟩
    ·rw [List.forIn_cons]
     simp only [hb,Bool.false_eq_true,if_false]
     exact e1
    ·rcases List.mem_cons.mp hy with z | z
     ·cases z; exact absurd rfl hk
     ·exact e3 y z
 obtain ⟨cl,e1,e2,e3,_⟩:=go scope.names [] h (fun _ _ e => by simp at e)
 refine ⟨cl,?_,e2,e3⟩
 unfold closureFor
 refine Eq.trans (congrArg (fun t => t >>= fun cs => pure cs) e1) ?_
 rfl
theorem comp_loop {prog:Program} {w:World} {A:Around} {R:Result→Shared→Prop} {s:Shared} {elt target iter:Expr} {ifs:List Expr} {scope:Scope} {pos:Pos} {it acc:Value} {env:Env} (I:Nat→Shared→Prop)
  (turn:∀ n s,I n s→wpAny (model prog w) A (pyNext it) (fun r s₁ => match r with
   | none => R (.ok .next) s₁
   | some v => wpAny (model prog w) A (letOwnedTupleGo target it v) (fun _ s₁' => wpAny (model prog w) A (assign target env v) (fun _ s₂ =>
     wpAny (model prog w) A (forIn ifs true fun c r => if r = true then do let ok ← isTrue c env (eval c env); pure (ForInStep.yield ok) else pure (ForInStep.yield r)) (fun ok s₃ =>
      if ok = true then wpAny (model prog w) A (eval elt env) (fun x s₄ =>
       wpAny (model prog w) A (call (.builtin "list.append") [acc,x]) (fun _ s₅ => ∃ m,m < n∧I m s₅) (fun _ _ => False) s₄) (fun _ _ => False) s₃
      else ∃ m,m < n∧I m s₃) (fun _ _ => False) s₂) (fun _ _ => False) s₁') (fun _ _ => False) s₁) (fun _ _ => False) s)
  (n:Nat) (h:I n s) :
  codeAny (model prog w) A (.compLoop (.ListComp elt [⟨target,iter,ifs,0⟩] scope pos) 0 it acc env) R s:=by
 refine codeAny_loop rfl I (fun n s hI => ?_) n h
 show wpAny _ A ((compTurn (.ListComp elt [⟨target,iter,ifs,0⟩] scope pos) 0 it acc env).onRaise (fun x => do noteFrame x env; theTreesLotGoes x)) _ _ s
 refine wpAny_noted ?_
 rw [compTurn_list]
 refine wpAny_bind (wpAny_standAt (wpAny_bind (wpAny_mono (turn n s hI) (fun r s₁ h₁ => ?_) fun _ _ h' => h'.elim)))
 cases r with
 | none => exact wpAny_pure h₁
 | some v =>
  refine wpAny_bind (wpAny_mono h₁ (fun _ s₁' h₁' => ?_) fun _ _ h' => h'.elim)
  refine wpAny_bind (wpAny_mono h₁' (fun _ s₂ h₂ => wpAny_bind (wpAny_mono h₂ (fun ok s₃ h₃ => ?_) fun _ _ h' => h'.elim)) fun _ _ h' => h'.elim)
  cases ok with
  | false => exact wpAny_pure ⟨rfl,h₃⟩
  | true =>
   exact wpAny_bind (wpAny_bind (wpAny_mono h₃ (fun x s₄ h₄ => wpAny_bind (wpAny_mono h₄ (fun _ s₅ h₅ => wpAny_pure (wpAny_pure ⟨rfl,h₅⟩)) fun _ _ h' => h'.elim)) fun _ _ h' => h'.elim))
def cxC (X:Cx) (N':List Str) (scope:Scope) (cl:List (Str×Addr)) (s₁:Shared) (H₁:Hp) (fp:List Addr) (pins:List (Addr×Obj)):Cx where
 prog:=X.prog
 w:=X.w
 K:=X.K
 mg:=X.mg
 base:=X.base
 A:=X.A
 N:=N'
 s₀:=s₁
 H₀:=H₁
 env:=compEnvC scope cl s₁.heap.objs.size X.env
 outer:=X.stack
 stack:=X.stack
 ex:=fp
 fn:=fun _ => false
 calm:=X.calm
 pn:=X.pn++pins
 xe:=fun _ _ => False
abbrev FV:=List (Nat×Str)
def relS (scope sc:Scope):Scope:={ scope with names:=scope.names.map fun (n,k) => if (k == .free && sc.kind == .function && sc.names.lookup n == some .cell) then (n,.cell) else (n,k) }
structure CompOk (sc:Scope) (N:List Str) (scope:Scope) (N':List Str) (own:List Str) (fv:FV):Prop where
 kind:scope.kind = .function
 nocell:∀ y∈scope.names,y.2≠.cell
 loc:∀ y∈scope.names,y.2 = .local→scope.names.lookup y.1 = some .local
 fre':∀ y∈scope.names,y.2 = .free→sc.names.lookup y.1 = some .cell
 eqN:N' = own++fv.map (·.2)
 nd:N'.Nodup
 slot:∀ p∈fv,N[p.1]? = some p.2∧sc.names.lookup p.2 = some .cell∧(relS scope sc).names.lookup p.2 = some .cell
theorem CompOk.fre {sc scope:Scope} {N N' own:List Str} {fv:FV} (c:CompOk sc N scope N' own fv):∀ y,(y,NameKind.free)∈scope.names→sc.names.lookup y = some .cell:=fun y hy => c.fre' _ hy rfl
def blk (own:List Str) (fv:FV) (σ:St):St:=own.map (fun _ => none)++fv.map fun p => (σ[p.1]?).join
theorem rel_lookup {scope:Scope} {env:Env}:∀ {names:List (Str×NameKind)} {y:Str} {k:NameKind},
  (names.map fun (n,k) => if (k == NameKind.free && env.scope.kind == .function && env.kindOf n == some .cell) then (n,NameKind.cell) else (n,k)).lookup y = some k→k = .cell∨k = .free→(∀ z∈names,z.2≠.cell)→(y,NameKind.free)∈names
 | [],_,_,h,_,_ => by simp at h
 | (n,k0)::r,y,k,h,hk,hc => by
  rw [List.map_cons] at h
  by_cases hf:k0 = NameKind.free
  ·by_cases hy:y = n
   ·subst hy; subst hf; exact List.mem_cons_self
   ·refine List.mem_cons_of_mem _ (rel_lookup (env:=env) (scope:=scope) (k:=k) ?_ hk fun z hz => hc z (List.mem_cons_of_mem _ hz))
    dsimp only at h
    have hyb:(y == n) = false:=beq_eq_false_iff_ne.mpr hy
    split at h <;> (rw [List.lookup_cons,hyb] at h; exact h)
  ·have hb:(k0 == NameKind.free) = false:=by simpa using hf
   simp only [hb,Bool.false_and,Bool.false_eq_true,if_false] at h
   rw [List.lookup_cons] at h
   by_cases hy:y = n
   ·subst hy
    simp only [beq_self_eq_true] at h
    cases h
    rcases hk with z | z
    ·exact absurd z (hc _ List.mem_cons_self)
    ·exact absurd z hf
   ·have hyb:(y == n) = false:=beq_eq_false_iff_ne.mpr hy
    rw [hyb] at h
    exact List.mem_cons_of_mem _ (rel_lookup (env:=env) (scope:=scope) (k:=k) h hk fun z hz => hc z (List.mem_cons_of_mem _ hz))
section
variable {X:Cx} {pins:List (Addr×Obj)} {σ:St} {H₁:Hp} {s₁ s₂:Shared} {scope:Scope} {cl:List (Str×Addr)} {N' own:List Str} {fv:FV} {fp:List Addr}
theorem cxC_ok (I:Inv X pins σ H₁ s₁) (c:CompOk X.env.scope X.N scope N' own fv) (h1:∀ y c,cl.lookup y = some c→X.env.cells.lookup y = some c) (h2:∀ y,(y,NameKind.free)∈scope.names→∃ c,cl.lookup y = some c)
  (hf:∀ b∈fp,FpOk X pins H₁ b∧b < s₁.heap.objs.size):(cxC X N' scope cl s₁ H₁ fp pins).Ok where
 mod:=I.ok.mod
 kind:=c.kind
 glob:=I.ok.glob
 blt:=I.ok.blt
 above:=Nat.le_refl _
 inj:=fun x y a e1 e2 => I.ok.inj x y a (h1 x a e1) (h1 y a e2)
 has:=fun x hx => by
  have hx':(relabel scope X.env).names.lookup x = some .cell∨(relabel scope X.env).names.lookup x = some .free:=hx
  rcases hx' with z | z
  ·exact h2 x (rel_lookup (scope:=scope) (env:=X.env) z (.inl rfl) c.nocell)
  ·exact h2 x (rel_lookup (scope:=scope) (env:=X.env) z (.inr rfl) c.nocell)
 cab:=fun x a e => by cases e
 hd:=I.ok.hd
 frames:=I.ok.frames
 stk:=.inl rfl
 exf:=fun b hb => ⟨Nat.ne_of_lt (hf b hb).2,fun x a e => (hf b hb).1.2.2.2.2.1 x a (h1 x a e)⟩
 bs:=I.bs
 bsz:=Nat.le_trans I.ok.bsz I.sz
 noex:=fun b o e hb => by
  rcases (hf b hb).1.2.2.2.1 with z | z
  ·exact I.ok.noex b o e z
  ·exact absurd (Nat.lt_of_lt_of_le (Heap.lt_size (I.ok.bs b o e).1) z) (Nat.lt_irrefl _)
 exfs:=fun b hb hm => by
  rcases List.mem_cons.mp (I.stkSub b hm) with z | z
  ·exact (hf b hb).1.2.1 z
  ·exact (hf b hb).1.2.2.1 z
 funs:=I.stack
 frf:=I.stkFree
theorem blk_len:(blk own fv σ).length = (own++fv.map (·.2)).length:=by simp [blk]
theorem inv_block (I:Inv X pins σ H₁ s₁) (c:CompOk X.env.scope X.N scope N' own fv) (h1:∀ y c,cl.lookup y = some c→X.env.cells.lookup y = some c) (h2:∀ y,(y,NameKind.free)∈scope.names→∃ c,cl.lookup y = some c)
  (hf:∀ b∈fp,FpOk X pins H₁ b∧b < s₁.heap.objs.size) {h':Heap} {m:Str→Option Value} {tk:Nat} (hn:h'.Ns s₁.heap.objs.size m) (kp:∀ b o,s₁.heap.get? b = some o→h'.get? b = some o) :
  Inv (cxC X N' scope cl s₁ H₁ fp pins) [] (blk own fv σ) H₁ { s₁ with heap:=h',toks:=tk } where
 ok:=cxC_ok I c h1 h2 hf
 os:=rfl
 bare:=I.bare
 base:=Un.kept kp
 loc:=by
  refine ⟨m,hn,fun i x v e1 e2 e3 => ?_⟩
  have e1':(own++fv.map (·.2))[i]? = some x:=by rw [← c.eqN]; exact e1
  have hi:¬ i < own.length:=fun hi => by
   unfold blk at e2
   rw [List.getElem?_append_left (by simpa using hi),List.getElem?_map] at e2
   cases z:own[i]? with
   | none => rw [z] at e2; cases e2
   | some y => rw [z] at e2; cases e2
  unfold blk at e2
  rw [List.getElem?_append_right (by simpa using hi),List.length_map,List.getElem?_map] at e2
  rw [List.getElem?_append_right (by simpa using hi),List.getElem?_map] at e1'
  cases z:fv[i - own.length]? with
  | none => rw [z] at e2; cases e2
  | some p =>
   rw [z] at e2 e1'
   have ex:p.2 = x:=Option.some.inj e1'
   subst ex
   obtain ⟨g1,g2,g3⟩:=c.slot p (List.mem_of_getElem? z)
   have e2':(σ[p.1]?).join = some v:=Option.some.inj e2
   have e2'':σ[p.1]? = some (some v):=by
    cases q:σ[p.1]? with
    | none => rw [q] at e2'; cases e2'
    | some o => rw [q] at e2'; rw [show o = some v from e2']
   obtain ⟨m0,hn0,hl0⟩:=I.loc
   obtain ⟨u,ru,lu⟩:=hl0 p.1 p.2 v g1 e2'' (.inr (.inl g2))
   refine ⟨u,ru,.inr ⟨.inl g3,?_⟩⟩
   rcases lu with ⟨k,_⟩ | ⟨_,cc,ec,ic⟩
   ·exact absurd (show X.env.scope.names.lookup p.2 = some NameKind.local from k) (by rw [g2]; intro z; cases z)
   ·have hfree:(p.2,NameKind.free)∈scope.names:=rel_lookup (scope:=scope) (env:=X.env) g3 (.inl rfl) c.nocell
    obtain ⟨c',ec'⟩:=h2 _ hfree
    have:=h1 _ _ ec'
    rw [ec] at this
    cases this
    obtain ⟨o,ho,hd⟩:=ic
    exact ⟨cc,ec',o,kp _ _ ho,hd⟩
 cell:=fun x a e => by
  obtain ⟨v,o,ho,hd⟩:=I.cell x a (h1 x a e)
  exact ⟨v,o,kp _ _ ho,hd⟩
 free:=I.hok.fresh (Nat.le_refl _)
 freeC:=fun x a e => I.freeC x a (h1 x a e)
 pin:=fun p hp => by
  rw [List.append_nil] at hp
  obtain ⟨g1,g2,g3,g4,g5⟩:=I.pin p hp
  refine ⟨kp _ _ g1,g2,Nat.ne_of_lt (Heap.lt_size g1),fun hm => ?_,g5⟩
  rcases List.mem_cons.mp (I.stkSub p.1 hm) with z | z
  ·exact g3 z
  ·exact g4 z
 hok:=I.hok.kept kp
 len:=by rw [blk_len,← c.eqN]; rfl
theorem inv_left {σ':St} {H':Hp} (I:Inv X pins σ H₁ s₁) (hf:∀ b∈fp,FpOk X pins H₁ b∧b < s₁.heap.objs.size) (J:Inv (cxC X N' scope cl s₁ H₁ fp pins) [] σ' H' s₂) :
  Inv X pins σ H' s₂∧FpOk X pins H' s₁.heap.objs.size∧∃ m,s₂.heap.Ns s₁.heap.objs.size m:=by
 have I2:Inv X pins σ H' s₂:=I.call' (ch:=fp) J.os J.base J.hok J.bare fun b hb => ⟨(hf b hb).1.2.2.2.1,(hf b hb).1.2.1,(hf b hb).1.2.2.2.2.1,(hf b hb).1.2.2.2.2.2⟩
 obtain ⟨m,hn,_⟩:=J.loc
 exact ⟨I2,⟨J.free,(I.fpOk (H':=H') (Nat.le_refl _) J.free).2⟩,m,hn⟩
end
def PIfs (X:Cx) (ifs:List Expr) (t:TT):Prop:=∀ (pins:List (Addr×Obj)) (s:Shared) (σ:St) (H:Hp) (Q:Bool→Hp→Prop),Inv X pins σ H s→t σ H Q →
 wpAny (model X.prog X.w) X.A (forIn ifs true fun c r => if r = true then do let ok ← isTrue c X.env (eval c X.env); pure (ForInStep.yield ok) else pure (ForInStep.yield r)) (TP X pins σ Q) X.xe s
theorem pifs_nil {X:Cx}:PIfs X [] (fun _ H Q => Q true H):=fun _ _ _ H _ I h => wpAny_tests_nil ⟨H,I,h⟩
theorem pifs_one {X:Cx} {c:Expr} {t:TT} (h:PT X c t):PIfs X [c] t:=fun pins s σ H Q I hw => wpAny_tests_one (h pins s σ H Q I hw)
def tComp (wi:TI) (g:TG) (tc:TT) (te:TE) (own:List Str) (fv:FV):TE:=fun σ H Q => wi σ H fun J H1 => ∀ p,H1 p = none→∃ W:Nat→Nat→Hp→Prop,(∃ m,W 0 m (upd H1 p (.lst [])))∧∀ i m H2,W i m H2 →
 (J.stop i H2∧Q (.ref p) H2)∨(J.go i H2∧∀ x H3,J.yld i H2 x H3→g x (blk own fv σ) H3 fun σ2 H4 => tc σ2 H4 fun b H5 => if b = true then te σ2 H5 fun v H6 => ∃ acc,H6 p = some (.lst acc)∧acc.length < sizeLine ∧
  ∃ m',m' < m∧W (i + 1) m' (upd H6 p (.lst (acc++[v]))) else ∃ m',m' < m∧W (i + 1) m' H5)
theorem comp_core {X:Cx} {pins:List (Addr×Obj)} {σ:St} {H:Hp} {s:Shared} {elt target iter:Expr} {ifs:List Expr} {scope:Scope} {pos fpos:Pos} {N' own:List Str} {fv:FV} {wi:TI} {g:TG} {tc:TT} {te:TE} {R:VK} {use:Option (Value→Sem Unit)} {Q':Value→Shared→Prop}
  (c:CompOk X.env.scope X.N scope N' own fv) (hcalm:X.calm = true) (hi:PI X target iter wi)
  (hgk:∀ x σ H Q,g x σ H Q→g x σ H fun σ' H' => (σ'.length = σ.length∧∀ i,own.length≤i→σ'[i]? = σ[i]?)∧Q σ' H')
  (hb:∀ cl s₁ H₁ fp,PG (cxC X N' scope cl s₁ H₁ fp pins) target g∧PIfs (cxC X N' scope cl s₁ H₁ fp pins) ifs tc∧PE (cxC X N' scope cl s₁ H₁ fp pins) elt te)
  (hs:∀ x,foldedSetIterable iter X.env x = pure x) (I:Inv X pins σ H s) (h:tComp wi g tc te own fv σ H R)
  (fin:∀ (p C:Addr) (H':Hp) (s':Shared) (m:Str→Option Value),Inv X pins σ H' s'→FpOk X pins H' C→s'.heap.Ns C m→R (.ref p) H'→compPost (model X.prog X.w) X.A X.xe use Q' (.ref p) C (.ok .next) s') :
  wpAny (model X.prog X.w) X.A (comprehension (.ListComp elt [⟨target,iter,ifs,0⟩] scope pos) scope X.env fpos (newList []) false (eval iter X.env) use) Q' X.xe s:=by
 obtain ⟨cl,hclos,h1,h2⟩:=closure_ok (scope:=scope) (env:=X.env) fun y hy => I.ok.has y (.inl (c.fre y hy))
 refine wpAny_comprehension_free (use:=use) rfl hs hclos c.kind c.loc (wpAny_mono (hi pins s σ H _ I h) (fun v s1 h1' => wpAny_mono h1' (fun itv s2 h2' => ?_) fun _ _ e => e) fun _ _ e => e)
 obtain ⟨it,fp,tn,J,H2,rfl,I2,T,st2,f2,q2⟩:=h2'
 refine wpAny_newObj_type ?_
 have I3:Inv X pins σ (upd H2 s2.heap.objs.size (.lst [])) { s2 with heap:=s2.heap.push { cls:=.type "list",data:=.seq ([]:List Value).toArray } }:=I2.lnew (t':=s2.toks) (ys:=[]) (its:=[]) .nil (Nat.zero_le _)
 have np:H2 s2.heap.objs.size = none:=I2.fresh
 generalize hs3:({ s2 with heap:=s2.heap.push { cls:=.type "list",data:=.seq ([]:List Value).toArray } }:Shared) = s3 at I3
 have e3:s3.heap = s2.heap.push { cls:=.type "list",data:=.seq ([]:List Value).toArray }:=by rw [← hs3]
 have old3:∀ b o,s2.heap.get? b = some o→s3.heap.get? b = some o:=fun b o e => by rw [e3]; exact Heap.get?_push_of_some _ e
 have f3:∀ b∈fp,FpOk X pins (upd H2 s2.heap.objs.size (.lst [])) b∧b < s3.heap.objs.size:=fun b hb => by
  obtain ⟨o,ho,_⟩:=T.obj 0 _ st2 b hb
  have hlt:=Heap.lt_size ho
  refine ⟨⟨?_,(f2 b hb).2⟩,Heap.lt_size (old3 b o ho)⟩
  rw [upd_ne (Nat.ne_of_lt hlt)]
  exact (f2 b hb).1
 have st3:tn 0 s3.heap:=T.keep 0 _ _ st2 fun b hb o e => old3 b o e
 refine wpAny_newFunctionEnv c.nocell (by intro y hy; simp at hy) (fun h' hns hsb => ?_) c.kind
 have kp:∀ b o,s3.heap.get? b = some o→h'.get? b = some o:=fun b o e => (hsb.2 b (Nat.ne_of_lt (Heap.lt_size e))).trans (Heap.get?_push_of_some _ e)
 have J0:Inv (cxC X N' scope cl s3 (upd H2 s2.heap.objs.size (.lst [])) fp pins) [] (blk own fv σ) (upd H2 s2.heap.objs.size (.lst [])) { s3 with heap:=h',toks:=s3.toks + ([]:List (Str×Value)).length }:=inv_block I3 c h1 h2 f3 hns kp
 have st4:tn 0 h':=T.keep 0 _ _ st3 fun b hb o e => kp b o e
 obtain ⟨W,⟨m0,w0⟩,turn⟩:=q2 s2.heap.objs.size np
 obtain ⟨hg,hifs,helt⟩:=hb cl s3 (upd H2 s2.heap.objs.size (.lst [])) fp
 have noP:∀ b∈fp,b≠s3.heap.objs.size:=fun b hb => Nat.ne_of_lt (f3 b hb).2
 have stat:∀ {H':Hp},(∀ b∈fp,H' b = none)→∀ b∈fp,FpOk (cxC X N' scope cl s3 (upd H2 s2.heap.objs.size (.lst [])) fp pins) [] H' b:=fun hn b hb => by
  obtain ⟨⟨_,g1,g2,g3,g4,g5⟩,g6⟩:=f3 b hb
  refine ⟨hn b hb,Nat.ne_of_lt g6,fun hm => ?_,.inl hb,fun x a e => g4 x a (h1 x a e),fun p hp => g5 p (by simpa [cxC] using hp)⟩
  rcases List.mem_cons.mp (I3.stkSub b hm) with z | z
  ·exact g1 z
  ·exact g2 z
 have loop:codeAny (model X.prog X.w) X.A (.compLoop (.ListComp elt [⟨target,iter,ifs,0⟩] scope pos) 0 (.ref it) (.ref s2.heap.objs.size) (compEnvC scope cl s3.heap.objs.size X.env))
   (compPost (model X.prog X.w) X.A X.xe use Q' (.ref s2.heap.objs.size) s3.heap.objs.size) { s3 with heap:=h',toks:=s3.toks + ([]:List (Str×Value)).length }:=by
  refine comp_loop (fun n s' => ∃ i H' σ',Inv (cxC X N' scope cl s3 (upd H2 s2.heap.objs.size (.lst [])) fp pins) [] (blk own fv σ) H' s'∧σ' = blk own fv σ∧tn i s'.heap∧(∀ b∈fp,H' b = none)∧W i n H') ?_ m0 ⟨0,_,_,J0,rfl,st4,fun b hb => (f3 b hb).1.1,w0⟩
  rintro n s5 ⟨i,H5,_,J5,rfl,st5,fr5,w5⟩
  rcases turn i n H5 w5 with ⟨stop,qn⟩ | ⟨go,step⟩
  ·refine thn (T.done (cxC X N' scope cl s3 (upd H2 s2.heap.objs.size (.lst [])) fp pins) rfl rfl rfl hcalm i [] s5 _ H5 _ J5 (stat fr5) st5 stop) fun r s6 hr => ?_
   obtain ⟨rfl,J6⟩:=hr
   obtain ⟨I6,f6,m6,n6⟩:=inv_left I3 f3 J6
   exact fin _ _ H5 s6 m6 I6 f6 n6 qn
  ·refine thn (T.item (cxC X N' scope cl s3 (upd H2 s2.heap.objs.size (.lst [])) fp pins) rfl rfl rfl hcalm i [] s5 _ H5 _ J5 (stat fr5) st5 go) fun r s6 hr => ?_
   obtain ⟨u,rfl,h6⟩:=hr
   refine thn h6 fun _ s7 h7 => ?_
   obtain ⟨x,H7,J7,r7,y7,st7,fr7⟩:=h7
   have J7':=J7.pinned (stat fr7) (T.obj _ _ st7)
   refine thn (hg _ s7 _ H7 x u _ J7' r7 (hgk _ _ _ _ (step x H7 y7))) fun _ s8 h8 => ?_
   obtain ⟨σ8,H8,J8,⟨l8,k8⟩,q8⟩:=h8
   refine thn (hifs _ s8 σ8 H8 _ J8 q8) fun ok s9 h9 => ?_
   obtain ⟨H9,J9,q9⟩:=h9
   have weak:∀ {H':Hp} {s':Shared},Inv (cxC X N' scope cl s3 (upd H2 s2.heap.objs.size (.lst [])) fp pins) ([]++pinsAt fp s7.heap) σ8 H' s' →
     Inv (cxC X N' scope cl s3 (upd H2 s2.heap.objs.size (.lst [])) fp pins) [] (blk own fv σ) H' s'∧tn (i + 1) s'.heap∧∀ b∈fp,H' b = none:=fun {H' s'} J' => by
    refine ⟨J'.unpinned.weak l8.symm fun j v e => ?_,T.keep _ _ _ st7 fun b hb o e => (J'.pin (b,o) (List.mem_append_right _ (List.mem_append_right _ (mem_pinsAt hb e)))).1,fun b hb => ?_⟩
    ·have hj:own.length≤j:=Nat.le_of_not_lt fun hj => by
      unfold blk at e
      rw [List.getElem?_append_left (by simpa using hj),List.getElem?_map] at e
      cases z:own[j]? with
      | none => rw [z] at e; cases e
      | some y => rw [z] at e; cases e
     rw [k8 j hj]; exact e
    ·obtain ⟨o,e,d⟩:=T.obj _ _ st7 b hb
     exact (J'.pin (b,o) (List.mem_append_right _ (List.mem_append_right _ (mem_pinsAt hb e)))).2.1
   cases ok with
   | false =>
    rw [if_neg Bool.false_ne_true] at q9 ⊢
    obtain ⟨m',hm,w9⟩:=q9
    obtain ⟨g1,g2,g3⟩:=weak J9
    exact ⟨m',hm,i + 1,H9,_,g1,rfl,g2,g3,w9⟩
   | true =>
    rw [if_pos rfl] at q9 ⊢
    refine thn (helt _ s9 σ8 H9 _ J9 q9) fun xv s10 h10 => ?_
    obtain ⟨v,H10,J10,r10,acc,ea,hl,m',hm,w10⟩:=h10
    refine thn (mt_append _ s10 σ8 H10 (.ref s2.heap.objs.size) [v] (.ref s2.heap.objs.size) [xv] (fun z H' => z = .non∧H' = upd H10 s2.heap.objs.size (.lst (acc++[v]))) J10 rfl (.cons r10 .nil) ⟨_,acc,v,rfl,rfl,ea,hl,rfl,rfl⟩) fun _ s11 h11 => ?_
    obtain ⟨z,H11,J11,_,_,rfl⟩:=h11
    obtain ⟨g1,g2,g3⟩:=weak J11
    exact ⟨m',hm,i + 1,_,_,g1,rfl,g2,g3,w10⟩
 exact codeAny_compStart_list loop (T.self X.A 0 _ _ _ st4 loop)
theorem pe_comp {X:Cx} {elt target iter:Expr} {ifs:List Expr} {scope:Scope} {pos:Pos} {N' own:List Str} {fv:FV} {wi:TI} {g:TG} {tc:TT} {te:TE}
  (c:CompOk X.env.scope X.N scope N' own fv) (hcalm:X.calm = true) (hi:PI X target iter wi)
  (hgk:∀ x σ H Q,g x σ H Q→g x σ H fun σ' H' => (σ'.length = σ.length∧∀ i,own.length≤i→σ'[i]? = σ[i]?)∧Q σ' H')
  (hb:∀ pins cl s₁ H₁ fp,PG (cxC X N' scope cl s₁ H₁ fp pins) target g∧PIfs (cxC X N' scope cl s₁ H₁ fp pins) ifs tc∧PE (cxC X N' scope cl s₁ H₁ fp pins) elt te)
  (hs:∀ x,foldedSetIterable iter X.env x = pure x:=by intro _; rfl):PE X (.ListComp elt [⟨target,iter,ifs,0⟩] scope pos) (tComp wi g tc te own fv):=by
 intro pins s σ H Q I h
 rw [eval_ListComp]
 refine comp_core (use:=none) (R:=Q) c hcalm hi hgk (hb pins) hs I h fun p C H' s' m J f n q => ?_
 refine ⟨m,n,fun h' hs' => ⟨.ref p,H',J.turned (t':=s'.toks) (it:=C) (fun b o hb e => (hs'.2 b hb).trans e) f.1 f.2.1 f.2.2.2.1 f.2.2.2.2.1 f.2.2.2.2.2,rfl,q⟩⟩
theorem ps_setcomp {X:Cx} {elt target iter:Expr} {ifs:List Expr} {scope:Scope} {pos spos py:Pos} {y:Str} {j:Nat} {N' own:List Str} {fv:FV} {wi:TI} {g:TG} {tc:TT} {te:TE}
  (hN:X.N.Nodup) (hj:X.N[j]? = some y) (hy:Loc X.env.scope y) (hsw:swapsWith (.ListComp elt [⟨target,iter,ifs,0⟩] scope pos) (some (.Name y py)) spos.line X.env = pure true)
  (c:CompOk X.env.scope X.N scope N' own fv) (hcalm:X.calm = true) (hi:PI X target iter wi)
  (hgk:∀ x σ H Q,g x σ H Q→g x σ H fun σ' H' => (σ'.length = σ.length∧∀ i,own.length≤i→σ'[i]? = σ[i]?)∧Q σ' H')
  (hb:∀ pins cl s₁ H₁ fp,PG (cxC X N' scope cl s₁ H₁ fp pins) target g∧PIfs (cxC X N' scope cl s₁ H₁ fp pins) ifs tc∧PE (cxC X N' scope cl s₁ H₁ fp pins) elt te)
  (hs:∀ x,foldedSetIterable iter X.env x = pure x:=by intro _; rfl) (hf:X.fn y = true∨X.env.scope.names.lookup y = some .local:=by first | exact .inl rfl | exact .inr rfl | assumption) :
  PS X (.Assign [.Name y py] (.ListComp elt [⟨target,iter,ifs,0⟩] scope pos) spos) (tAsg (tComp wi g tc te own fv) (gName j)):=by
 intro pins s σ H Dd I h
 rw [exec_Assign_Name_used _ _ _ _ hsw]
 refine wpAny_bind (wpAny_standAt (wpAny_bind ?_))
 show wpAny _ X.A (do let _ ← comprehension (.ListComp elt [⟨target,iter,ifs,0⟩] scope pos) scope X.env _ (newList []) false (eval iter X.env) (some (assign (.Name y py) X.env))) _ _ s
 refine wpAny_bind (wpAny_mono (comp_core (use:=some (assign (.Name y py) X.env)) (Q':=fun _ s' => SP X pins Dd .next s') c hcalm hi hgk (hb pins) hs I h fun p C H' s' m J f n q => ?_) (fun _ s' hq => wpAny_pure (wpAny_pure hq)) fun _ _ e => e)
 show wpAny _ X.A (assign (.Name y py) X.env (.ref p)) _ _ s'
 refine wpAny_assign_Name (store_ok2 J hN hj hy (v:=.ref p) rfl (fun s'' J' hs'' => ?_) hf)
 obtain ⟨a,sb,ha⟩:=hs''
 have hC:C≠a:=by
  rcases ha with z | z
  ·rw [z]; exact f.2.1
  ·exact fun w => f.2.2.2.2.1 _ _ z w.symm
 refine ⟨m,n.sameBut sb hC,fun h' hs' => ⟨_,H',J'.turned (t':=s''.toks) (it:=C) (fun b o hb e => (hs'.2 b hb).trans e) f.1 f.2.1 f.2.2.2.1 f.2.2.2.2.1 f.2.2.2.2.2,q⟩⟩
theorem small10000 {n:Nat} (h:n≤10000):n < sizeLine:=by rw [show sizeLine = 16777216 by decide]; omega
def cp3 (wi:TI3) (g:TG3) (tc:TT3) (te:TE3) (own:List Str) (fv:FV):TE3:=fun σ H Q => wi σ H fun ds keep H1 => (∀ H2:Hp3,Sub3 H1 H2→keep H2)∧ds.length≤10000∧∃ rs:List (Option D),rs.length = ds.length ∧
 (∀ (i:Nat) (d:D),ds[i]? = some d→∀ H2:Hp3,Sub3 H1 H2→g d (own.map (fun _ => none)++fv.map fun p => (σ[p.1]?).join) H2 fun σ2 H4 => tc σ2 H4 fun b H5 =>
  if b = true then te σ2 H5 fun v H6 => Sub3 H2 H6∧rs[i]? = some (some v) else Sub3 H2 H5∧rs[i]? = some none) ∧
 ∀ p,H1 p = none→Q (.ref p) (upd3 H1 p (.lst (rs.filterMap id)))
theorem sr_blk {K:PySem.W.Frag} {H:Hp} {σ3:St3} {σ:St} {own:List Str} {fv:FV} (s:SR K H σ3 σ):SR K H (own.map (fun _ => none)++fv.map fun p => (σ3[p.1]?).join) (blk own fv σ):=by
 refine ⟨by simp [blk],fun i d h => ?_⟩
 have hi:¬ i < own.length:=fun hi => by
  rw [List.getElem?_append_left (by simpa using hi),List.getElem?_map] at h
  cases z:own[i]? with
  | none => rw [z] at h; cases h
  | some y => rw [z] at h; cases h
 rw [List.getElem?_append_right (by simpa using hi),List.length_map,List.getElem?_map] at h
 unfold blk
 rw [List.getElem?_append_right (by simpa using hi),List.length_map,List.getElem?_map]
 cases z:fv[i - own.length]? with
 | none => rw [z] at h; cases h
 | some p =>
  rw [z] at h
  have h':(σ3[p.1]?).join = some d:=Option.some.inj h
  have e:σ3[p.1]? = some (some d):=by
   cases q:σ3[p.1]? with
   | none => rw [q] at h'; cases h'
   | some o => rw [q] at h'; rw [show o = some d from h']
  obtain ⟨v,hv,rv⟩:=s.get _ _ e
  exact ⟨v,by show some (σ[p.1]?).join = some (some v); rw [hv]; rfl,rv⟩
theorem filterMap_take_succ {rs:List (Option D)} {i:Nat} {o:Option D} (h:rs[i]? = some o):(rs.take (i + 1)).filterMap id = (rs.take i).filterMap id++o.toList:=by
 rw [List.take_add_one,h,List.filterMap_append]
 cases o <;> rfl
theorem lift_comp {K:PySem.W.Frag} {wi:TI3} {g:TG3} {g2:TG} {tc:TT3} {te:TE3} {own:List Str} {fv:FV} {σ:St} {H:Hp} {Q:VK} (hgr:∀ v σ H Q,liftG K g v σ H Q→g2 v σ H Q) (h:liftE K (cp3 wi g tc te own fv) σ H Q):tComp (liftI K wi) g2 (liftT K tc) (liftE K te) own fv σ H Q:=by
 obtain ⟨σ3,H3,Q3,sr,hr,t,k⟩:=h
 refine ⟨σ3,H3,_,sr,hr,t,fun ds keep J H3' H' tk' hr' ok q p np => ?_⟩
 obtain ⟨hkeep,hlen,rs,hrl,hel,hfin⟩:=q
 have np3:H3' p = none:=hr'.fresh np
 have hrs:∀ i,((rs.take i).filterMap id).length≤i:=fun i => Nat.le_trans (List.length_filterMap_le _ _) (by rw [List.length_take]; grind)
 refine ⟨fun i m H2 => m = ds.length - i∧i≤ds.length∧TK H' H2∧HR K (upd3 H3' p (.lst ((rs.take i).filterMap id))) H2,⟨ds.length,by simp,Nat.zero_le _,TK.fresh np,hr'.setL (TK.fresh np) (.nil)⟩,?_⟩
 rintro i m H2 ⟨rfl,hi,tk2,hr2⟩
 have sub2:Sub3 H3' (upd3 H3' p (.lst ((rs.take i).filterMap id))):=Sub3.fresh np3
 obtain ⟨go,stop⟩:=ok _ H2 tk2 hr2 (hkeep _ sub2)
 by_cases hlt:i < ds.length
 ·obtain ⟨g1,g2⟩:=go i hlt
  refine .inr ⟨g1,fun x H2' y => ?_⟩
  obtain ⟨tky,hry,d,ed,rd⟩:=g2 x H2' y
  replace tk2:=tk2.trans tky
  refine hgr _ _ _ _ ⟨d,_,_,_,rd,(sr_blk sr).mono (tk'.trans tk2),hry,hel i d ed _ sub2,fun σ3a σa H3a Ha tka sra hra qa => ⟨σ3a,H3a,_,sra,hra,qa,fun b H3b Hb tkb hrb qb => ?_⟩⟩
  cases b with
  | true =>
   rw [if_pos rfl] at qb ⊢
   refine ⟨σ3a,H3b,_,sra.mono tkb,hrb,qb,fun v u H3c Hc tkc hrc rv qc => ?_⟩
   obtain ⟨sub,ers⟩:=qc
   obtain ⟨acc,gacc,racc⟩:=hrc p _ (sub p _ upd3_same)
   refine ⟨acc,gacc,?_,ds.length - (i + 1),by grind,rfl,hlt,((tk2.trans tka).trans (tkb.trans tkc)).trans (TK.lst gacc),?_⟩
   ·rw [← racc.length]
    exact small10000 (Nat.le_trans (hrs i) (Nat.le_trans hi hlen))
   ·rw [filterMap_take_succ ers,← upd3_upd3]
    exact (hrc.sub sub).setL (TK.lst gacc) ((racc.snoc rv).mono (TK.lst gacc))
  | false =>
   rw [if_neg Bool.false_ne_true] at qb ⊢
   obtain ⟨sub,ers⟩:=qb
   refine ⟨ds.length - (i + 1),by grind,rfl,hlt,(tk2.trans tka).trans tkb,?_⟩
   rw [filterMap_take_succ ers]
   simp only [Option.toList,List.append_nil]
   exact hrb.sub sub
 ·have e:i = ds.length:=by grind
  subst e
  refine .inl ⟨stop,k _ _ _ _ (tk'.trans tk2) hr2 (.ref p) ?_⟩
  rw [List.take_of_length_le (by rw [hrl]; exact Nat.le_refl _)]
  exact hfin p np3
def yes3:TT3:=fun _ H Q => Q true H
def PIfs3 (X:Cx) (ifs:List Expr) (t:TT3):Prop:=PIfs X ifs (liftT X.K t)
theorem ifs3_nil {X:Cx}:PIfs3 X [] yes3:=fun pins s σ H Q I h => by
 obtain ⟨σ3,H3,Q3,sr,hr,t,k⟩:=h
 exact pifs_nil pins s σ H Q I (k _ _ _ TK.refl hr t)
theorem ifs3_one {X:Cx} {c:Expr} {t:TT3} (h:PT3 X c t):PIfs3 X [c] t:=pifs_one h
theorem gr_name {K:PySem.W.Frag} {i:Nat}:∀ v σ H Q,liftG K (gn3 i) v σ H Q→gName i v σ H Q:=fun _ _ _ _ ⟨_,_,_,_,rd,sr,hr,t,k⟩ => k _ _ _ _ TK.refl (sr.set i rd) hr t
theorem gk_name {n i:Nat} (hi:i < n):∀ x σ H Q,gName i x σ H Q→gName i x σ H fun σ' H' => (σ'.length = σ.length∧∀ j,n≤j→σ'[j]? = σ[j]?)∧Q σ' H':=fun x σ H Q h =>
 ⟨⟨by simp,fun j hj => List.getElem?_set_ne (by grind)⟩,h⟩
section
variable {X:Cx} {elt iter:Expr} {ifs:List Expr} {scope:Scope} {pos px py pt spos:Pos} {x x' y:Str} {fv:FV} {wi:TI3} {tc:TT3} {te:TE3} {kk:Nat}
theorem p3_comp (c:CompOk X.env.scope X.N scope (x::fv.map (·.2)) [x] fv) (hcalm:X.calm = true) (hi:PI3 X (.Name x px) iter wi)
  (hifs:∀ pins cl s₁ H₁ fp,PIfs3 (cxC X (x::fv.map (·.2)) scope cl s₁ H₁ fp pins) ifs tc) (helt:∀ pins cl s₁ H₁ fp,PE3 (cxC X (x::fv.map (·.2)) scope cl s₁ H₁ fp pins) elt te)
  (hx:(relabel scope X.env).names.lookup x = some .local:=by rfl) (hs:∀ x,foldedSetIterable iter X.env x = pure x:=by intro _; rfl):PE3 X (.ListComp elt [⟨.Name x px,iter,ifs,0⟩] scope pos) (cp3 wi (gn3 0) tc te [x] fv) :=
 pe_imp (pe_comp (g:=gName 0) (tc:=liftT X.K tc) (te:=liftE X.K te) c hcalm hi (gk_name (Nat.zero_lt_one)) (fun pins cl s₁ H₁ fp => ⟨pg_name c.nd rfl (.inl hx) (.inr hx),hifs pins cl s₁ H₁ fp,helt pins cl s₁ H₁ fp⟩) hs) fun _ _ _ h => lift_comp gr_name h
theorem s3_setcomp (j:Nat) (hN:X.N.Nodup) (c:CompOk X.env.scope X.N scope (x::fv.map (·.2)) [x] fv) (hcalm:X.calm = true) (hi:PI3 X (.Name x px) iter wi)
  (hifs:∀ pins cl s₁ H₁ fp,PIfs3 (cxC X (x::fv.map (·.2)) scope cl s₁ H₁ fp pins) ifs tc) (helt:∀ pins cl s₁ H₁ fp,PE3 (cxC X (x::fv.map (·.2)) scope cl s₁ H₁ fp pins) elt te)
  (hj:X.N[j]? = some y:=by rfl) (hy:Loc X.env.scope y:=by first | exact Or.inl rfl | exact Or.inr rfl) (hsw:swapsWith (.ListComp elt [⟨.Name x px,iter,ifs,0⟩] scope pos) (some (.Name y py)) spos.line X.env = pure true:=by rfl)
  (hx:(relabel scope X.env).names.lookup x = some .local:=by rfl) (hs:∀ x,foldedSetIterable iter X.env x = pure x:=by intro _; rfl) (hf:X.fn y = true∨X.env.scope.names.lookup y = some .local:=by first | exact .inl rfl | exact .inr rfl | assumption) :
  PS3 X (.Assign [.Name y py] (.ListComp elt [⟨.Name x px,iter,ifs,0⟩] scope pos) spos) (st3 j (cp3 wi (gn3 0) tc te [x] fv)) :=
 ps_imp (ps_setcomp (g:=gName 0) (tc:=liftT X.K tc) (te:=liftE X.K te) hN hj hy hsw c hcalm hi (gk_name (Nat.zero_lt_one)) (fun pins cl s₁ H₁ fp => ⟨pg_name c.nd rfl (.inl hx) (.inr hx),hifs pins cl s₁ H₁ fp,helt pins cl s₁ H₁ fp⟩) hs hf)
  fun _ _ _ zz => zz.ex fun σ3 H3 D3 sr hr t k => lift_comp gr_name ⟨σ3,H3,_,sr,hr,t,fun x v H3a Ha tka hra rx qa => k.nx _ _ _ _ tka ((sr.mono tka).set j rx) hra qa⟩
end
end L3
namespace L3
open PySem L2
def i3sub:R3:=rI30 fun i j => .int (i - j)
def i3mod:R3:=rI3 (fun _ j => 0 < j) fun i j => .int (i % j)
def i3le:R3:=rI30 fun i j => .bl (decide (i≤j))
def i3gt:R3:=rI30 fun i j => .bl (decide (j < i))
theorem intsOf_map:∀ ns:List Int,intsOf (ns.map D.int) = some ns
 | [] => rfl
 | n::ns => by simp only [List.map_cons,intsOf,intsOf_map ns,Option.map_some]
abbrev Pt:=Int×Int
def prP (p:Pt):D:=.tup [.int p.1,.int p.2]
end L3
namespace L3
open PySem PySem.Spec PyProof.Rows L2
section
variable {X:Cx}
end
end L3
namespace L3
open PySem L2
theorem sizeLine_n:sizeLine = 16777216:=by decide
theorem small1000' {n:Nat} (h:n≤1000):n < sizeLine:=by rw [sizeLine_n]; omega
theorem upd3_old {H:Hp3} {a p:Addr} {o u:O3} (h:H a = some o) (n:H p = none):upd3 H p u a = some o:=by rw [upd3_ne (ne3 h n)]; exact h
theorem sub_upd {H H2:Hp3} {p:Addr} {o:O3} (s:Sub3 H H2) (h:H2 p = some o):Sub3 (upd3 H p o) H2:=fun b u e => by
 by_cases hb:b = p
 ·subst hb; rw [upd3_same] at e; cases e; exact h
 ·rw [upd3_ne hb] at e; exact s b u e
theorem sub_back {H H2:Hp3} {p:Addr} (s:Sub3 H H2) (h:H2 p = none):H p = none:=by
 cases e:H p with
 | none => rfl
 | some o => have:=s p o e; rw [h] at this; cases this
section
variable {σ:St3} {H:Hp3} {Q:VK3} {D0:Ends3} {i j:Int} {a b:Addr} {d x y:D} {ds es:List D} {ta tb te tc:TE3} {tr:TA3} {t u:TS3} {cA cB:TT3} {QL:List D→Hp3→Prop} {QB:Bool→Hp3→Prop}
theorem g_v3 {k:Nat} (h:σ[k]? = some (some d)) (q:Q d H):v3 k σ H Q:=by unfold v3; rw [h]; exact q
theorem g_c3 (q:Q d H):c3 d σ H Q:=q
theorem g_o3 {r:R3} (h:ta σ H fun x H1 => tb σ H1 fun y H2 => r x y H2 Q):o3 r ta tb σ H Q:=h
theorem g_u3 {r:D→Hp3→VK3→Prop} (h:ta σ H fun x H1 => r x H1 Q):u3 r ta σ H Q:=h
theorem g_neg (q:Q (.int (-i)) H):r3neg (.int i) H Q:=q
theorem g_sub (q:Q (.int (i - j)) H):i3sub (.int i) (.int j) H Q:=q
theorem g_add (q:Q (.int (i + j)) H):r3add (.int i) (.int j) H Q:=q
theorem g_cat (ha:H a = some (.lst ds)) (hb:H b = some (.lst es)) (hl:ds.length + es.length≤sizeLine) (q:∀ p,H p = none→Q (.ref p) (upd3 H p (.lst (ds++es)))):r3add (.ref a) (.ref b) H Q:=by
 (delta r3add; simp only [ha,hb]); exact ⟨hl,q⟩
theorem g_mod (c:0 < j) (q:Q (.int (i % j)) H):i3mod (.int i) (.int j) H Q:=⟨c,q⟩
theorem g_le (q:Q (.bl (decide (i≤j))) H):i3le (.int i) (.int j) H Q:=q
theorem g_gt (q:Q (.bl (decide (j < i))) H):i3gt (.int i) (.int j) H Q:=q
theorem g_lt (q:Q (.bl (decide (i < j))) H):r3lt (.int i) (.int j) H Q:=q
theorem pyN_i (i:Int):pyN 4 (.int i) = some (.int i):=rfl
theorem pyN_p (x y:Int):pyN 5 (.tup [.int x,.int y]) = some (.tuple [.int x,.int y]):=rfl
theorem g_eqI (q:Q (.bl (decide (i = j))) H):r3eq (.int i) (.int j) H Q:=by
 have e:(i == j) = decide (i = j):=rfl
 (delta r3eq pyH; simp only [pyN_i,PyData.eqv,e]); exact q
theorem g_neI (q:Q (.bl (!decide (i = j))) H):r3ne (.int i) (.int j) H Q:=by
 have e:(i == j) = decide (i = j):=rfl
 (delta r3ne pyH; simp only [pyN_i,PyData.eqv,e]); exact q
theorem g_eqP {x1 x2 y1 y2:Int} (q:Q (.bl (decide ((x1,x2) = (y1,y2)))) H):r3eq (.tup [.int x1,.int x2]) (.tup [.int y1,.int y2]) H Q:=by
 have e:(PyData.eqvAll [.int x1,.int x2] [.int y1,.int y2]) = decide ((x1,x2) = (y1,y2)):=by
  simp only [PyData.eqvAll,PyData.eqv,Bool.and_true,Prod.mk.injEq,Bool.decide_and]; rfl
 (delta r3eq pyH; simp only [pyN_p,PyData.eqv,e]); exact q
theorem g_ixT (h:atI ds i = some d) (q:Q d H):r3ix (.tup ds) (.int i) H Q:=by (delta r3ix; simp only [h]); exact q
theorem g_ixF (h:atI ds i = some d) (q:Q d H):r3ix (.fl ds) (.int i) H Q:=by (delta r3ix; simp only [h]); exact q
theorem g_ixL (ha:H a = some (.lst ds)) (h:atI ds i = some d) (q:Q d H):r3ix (.ref a) (.int i) H Q:=by (delta r3ix; simp only [ha,h]); exact q
theorem g_ts (h:te σ H fun d H1 => bt d H1 QB):ts3 te σ H QB:=h
theorem g_bt {k:Bool} (q:QB k H):bt (.bl k) H QB:=q
theorem g_an (h:cA σ H fun c H1 => if c = true then cB σ H1 QB else QB false H1):an3 cA cB σ H QB:=h
theorem g_or (h:cA σ H fun c H1 => if c = true then QB true H1 else cB σ H1 QB):or3 cA cB σ H QB:=h
theorem g_no (h:cA σ H fun c H1 => QB (!c) H1):no3 cA σ H QB:=h
def avk (tb:TE3) (σ:St3) (x:D) (H1:Hp3) (Q:VK3):Prop:=match x with
 | .bl c => if c = true then tb σ H1 Q else Q (.bl false) H1
 | _ => False
def nvk (x:D) (H1:Hp3) (Q:VK3):Prop:=match x with
 | .bl c => Q (.bl (!c)) H1
 | _ => False
theorem g_av (h:ta σ H fun x H1 => avk tb σ x H1 Q):av3 ta tb σ H Q:=h
theorem g_avk {c:Bool} (h:if c = true then tb σ H Q else Q (.bl false) H):avk tb σ (.bl c) H Q:=h
theorem g_nv (h:ta σ H fun x H1 => nvk x H1 Q):nv3 ta σ H Q:=h
theorem g_nvk {c:Bool} (q:Q (.bl (!c)) H):nvk (.bl c) H Q:=q
theorem g_nil (q:QL [] H):nil3 σ H QL:=q
theorem g_cons (h:ta σ H fun x H1 => tr σ H1 fun xs H2 => QL (x::xs) H2):cons3 ta tr σ H QL:=h
theorem g_tp (h:tr σ H fun ds H1 => ds.length≤1000∧Q (.tup ds) H1):tp3 tr σ H Q:=h
theorem g_ls (h:tr σ H fun ds H1 => ds.length≤1000∧∀ p,H1 p = none→Q (.ref p) (upd3 H1 p (.lst ds))):ls3 tr σ H Q:=h
theorem g_and {q:Prop} {n:Nat} (h:Nat.ble ds.length n = true) (h2:q):ds.length≤n∧q:=⟨Nat.le_of_ble_eq_true h,h2⟩
theorem g_cb {r:List D→Hp3→VK3→Prop} (h:tr σ H fun ds H1 => r ds H1 Q):cb3 r tr σ H Q:=h
theorem g_lenT (q:Q (.int ds.length) H):r3len [.tup ds] H Q:=q
theorem g_lenF (q:Q (.int ds.length) H):r3len [.fl ds] H Q:=q
theorem g_lenL (ha:H a = some (.lst ds)) (q:Q (.int ds.length) H):r3len [.ref a] H Q:=by (delta r3len; simp only [ha]); exact q
theorem g_tupL (ha:H a = some (.lst ds)) (q:Q (.tup ds) H):r3tuple [.ref a] H Q:=by (delta r3tuple; simp only [ha]); exact q
theorem g_listT (q:∀ p,H p = none→Q (.ref p) (upd3 H p (.lst ds))):r3list [.tup ds] H Q:=q
theorem g_sl {tl th:TO3} {r:RSl} (h:te σ H fun x H1 => tl σ H1 fun l H2 => th σ H2 fun u H3 => r x l u H3 Q):sl3 r te tl th σ H Q:=h
theorem g_np {QO:Option Int→Hp3→Prop} (q:QO none H):np3 σ H QO:=q
def ptk (x:D) (H1:Hp3) (QO:Option Int→Hp3→Prop):Prop:=match x with
 | .int i => QO (some i) H1
 | _ => False
theorem g_pt {QO:Option Int→Hp3→Prop} (h:te σ H fun x H1 => ptk x H1 QO):pt3 te σ H QO:=h
theorem g_ptk {QO:Option Int→Hp3→Prop} (q:QO (some i) H):ptk (.int i) H QO:=q
theorem g_sq (h:t { D0 with nx:=u D0 } σ H):sq3 t u D0 σ H:=h
theorem g_st {k:Nat} (h:te σ H fun x H1 => D0.nx (σ.set k (some x)) H1):st3 k te D0 σ H:=h
theorem g_nx3 (h:D0.nx σ H):nx3 D0 σ H:=h
theorem g_dr (h:te σ H fun _ H1 => D0.nx σ H1):dr3 te D0 σ H:=h
theorem g_rt3 (h:te σ H fun d H1 => D0.rt d H1):rt3 te D0 σ H:=h
theorem g_is (h:cA σ H fun b H1 => if b = true then t D0 σ H1 else u D0 σ H1):is3 cA t u D0 σ H:=h
theorem g_as {g:TG3} (h:te σ H fun x H1 => g x σ H1 D0.nx):as3 te g D0 σ H:=h
theorem g_gn {k:Nat} {R:St3→Hp3→Prop} (h:R (σ.set k (some d)) H):gn3 k d σ H R:=h
theorem g_g2 {k l:Nat} {R:St3→Hp3→Prop} (h:R ((σ.set k (some x)).set l (some y)) H):g2_3 k l (.tup [x,y]) σ H R:=h
theorem g_nx {n:St3→Hp3→Prop} {r:VK3} {bk ct:St3→Hp3→Prop} (h:n σ H):Ends3.nx ⟨n,r,bk,ct⟩ σ H:=h
theorem g_fin {H':Hp3} (h:Q d H') (s:Sub3 H' H):Ends3.rt (fin3 Q) d H:=⟨H',s,h⟩
def Lp (g:TG3) (tb:TS3) (D0:Ends3) (σ:St3) (ds:List D) (keep:Hp3→Prop) (H1:Hp3):Prop:=∃ P:Nat→St3→Hp3→Prop,P 0 σ H1∧(∀ i σ H,i≤ds.length→P i σ H→keep H) ∧
 (∀ i d σ H,ds[i]? = some d→P i σ H→g d σ H fun σ2 H2 => tb { D0 with nx:=P (i + 1),ct:=P (i + 1),bk:=D0.nx } σ2 H2)∧∀ σ H,P ds.length σ H→D0.nx σ H
theorem g_fo {wi:TI3} {g:TG3} (h:wi σ H fun ds keep H1 => Lp g t D0 σ ds keep H1):fo3 wi g t D0 σ H:=h
theorem Lp.by {g:TG3} {keep:Hp3→Prop} (P:Nat→St3→Hp3→Prop) (h0:P 0 σ H) (hk:∀ i σ H,i≤ds.length→P i σ H→keep H)
  (turn:∀ i d σ H,ds[i]? = some d→P i σ H→g d σ H fun σ2 H2 => t { D0 with nx:=P (i + 1),ct:=P (i + 1),bk:=D0.nx } σ2 H2) (fin:∀ σ H,P ds.length σ H→D0.nx σ H):Lp g t D0 σ ds keep H:=⟨P,h0,hk,turn,fin⟩
theorem Lp.rng {g:TG3} {lo:Int} {n:Nat} (P:Nat→St3→Hp3→Prop) (h0:P 0 σ H)
  (turn:∀ (i:Nat) σ H,i < n→P i σ H→g (.int (lo + (i:Int))) σ H fun σ2 H2 => t { D0 with nx:=P (i + 1),ct:=P (i + 1),bk:=D0.nx } σ2 H2) (fin:∀ σ H,P n σ H→D0.nx σ H):Lp g t D0 σ (rng lo n) (fun _ => True) H :=
 ⟨P,h0,fun _ _ _ _ _ => trivial,fun i d σ H hd p => by
  have hi:i < n:=by
   have:=(List.getElem?_eq_some_iff.mp hd).1
   rwa [rng_len] at this
  rw [rng_get hi] at hd
  cases hd
  exact turn i σ H hi p,fun σ H p => fin σ H (by rw [rng_len] at p; exact p)⟩
theorem g_ir1 {R:List D→(Hp3→Prop)→Hp3→Prop} (h:ta σ H fun x H1 => rg1 x H1 R):ir1 ta σ H R:=h
theorem g_ir2 {R:List D→(Hp3→Prop)→Hp3→Prop} (h:ta σ H fun x H1 => tb σ H1 fun y H2 => rg2 x y H2 R):ir2 ta tb σ H R:=h
theorem g_rg1 {R:List D→(Hp3→Prop)→Hp3→Prop} (h:R (rng 0 j.toNat) (fun _ => True) H):rg1 (.int j) H R:=h
theorem g_rg2 {R:List D→(Hp3→Prop)→Hp3→Prop} (h:R (rng i (j - i).toNat) (fun _ => True) H):rg2 (.int i) (.int j) H R:=h
def ilk (x:D) (H1:Hp3) (R:List D→(Hp3→Prop)→Hp3→Prop):Prop:=match x with
 | .ref a => (match H1 a with
  | some (.lst ds) => R ds (fun H' => H' a = some (.lst ds)) H1
  | _ => False)
 | .fl ds => R ds (fun _ => True) H1
 | _ => False
def itk (x:D) (H1:Hp3) (R:List D→(Hp3→Prop)→Hp3→Prop):Prop:=match x with
 | .tup ds => R ds (fun _ => True) H1
 | _ => False
theorem g_il {R:List D→(Hp3→Prop)→Hp3→Prop} (h:te σ H fun x H1 => ilk x H1 R):il3 te σ H R:=h
theorem g_ilR {R:List D→(Hp3→Prop)→Hp3→Prop} (ha:H a = some (.lst ds)) (h:R ds (fun H' => H' a = some (.lst ds)) H):ilk (.ref a) H R:=by (delta ilk; simp only [ha]); exact h
theorem g_it {R:List D→(Hp3→Prop)→Hp3→Prop} (h:te σ H fun x H1 => itk x H1 R):it3 te σ H R:=h
theorem g_itT {R:List D→(Hp3→Prop)→Hp3→Prop} (h:R ds (fun _ => True) H):itk (.tup ds) H R:=h
theorem g_wh (P:St3→Hp3→Prop) (μ:St3→Hp3→Nat) (h0:P σ H) (turn:∀ σ H,P σ H→cA σ H fun b H1 => if b = true then t { D0 with nx:=fun σ' H' => P σ' H'∧μ σ' H' < μ σ H,ct:=fun σ' H' => P σ' H'∧μ σ' H' < μ σ H,bk:=D0.nx } σ H1 else D0.nx σ H1):wh3 cA t D0 σ H:=⟨P,μ,h0,turn⟩
def mtk (r:D→List D→Hp3→VK3→Prop) (t:TA3) (σ:St3) (x:D) (H1:Hp3) (Q:VK3):Prop:=match x with
 | .ref a => (match H1 a with
  | some (.lst _) => t σ H1 fun xs H2 => r x xs H2 Q
  | _ => False)
 | _ => False
theorem g_m3 {r:D→List D→Hp3→VK3→Prop} (h:te σ H fun x H1 => mtk r tr σ x H1 Q):m3 r te tr σ H Q:=h
theorem g_mtk {r:D→List D→Hp3→VK3→Prop} (ha:H a = some (.lst ds)) (h:tr σ H fun xs H2 => r (.ref a) xs H2 Q):mtk r tr σ (.ref a) H Q:=by (delta mtk; simp only [ha]); exact h
theorem g_app (ha:H a = some (.lst ds)) (hl:ds.length < sizeLine) (q:Q .non (upd3 H a (.lst (ds++[y])))):r3app (.ref a) [y] H Q:=by (delta r3app; simp only [ha]); exact ⟨hl,q⟩
theorem g_ext (ha:H a = some (.lst ds)) (hb:H b = some (.lst es)) (hl:ds.length + es.length≤sizeLine) (q:Q .non (upd3 H a (.lst (ds++es)))):r3ext (.ref a) [.ref b] H Q:=by (delta r3ext; simp only [ha,hb]); exact ⟨hl,q⟩
theorem seq_ref (ha:H a = some (.lst ds)):seqH H (.ref a) = some ds:=by (delta seqH; simp only [ha])
theorem g_isi {U T:String} (h:tyH H x = some U) (hT:T∈kinds) (q:Q (.bl (isT U T)) H):r3isi [x,.ty T] H Q:=by
 (delta r3isi; simp only [h]); exact ⟨hT,q⟩
theorem atI_map {α:Type} {xs:List α} {f:α→D} {k:Int} (h0:0≤k) (h1:k.toNat < xs.length):atI (xs.map f) k = some (f (xs[k.toNat]'h1)):=by
 have hl:k < ((xs.map f).length:Int):=by rw [List.length_map]; omega
 unfold atI ixN
 rw [if_pos h0,if_pos hl,Option.bind_some,List.getElem?_map,List.getElem?_eq_getElem h1]
 rfl
def Cp (g:TG3) (tc:TT3) (te:TE3) (σ0:St3) (ds:List D) (keep:Hp3→Prop) (H1:Hp3) (Q:VK3):Prop:=(∀ H2:Hp3,Sub3 H1 H2→keep H2)∧ds.length≤10000∧∃ rs:List (Option D),rs.length = ds.length ∧
 (∀ (i:Nat) (d:D),ds[i]? = some d→∀ H2:Hp3,Sub3 H1 H2→g d σ0 H2 fun σ2 H4 => tc σ2 H4 fun b H5 =>
  if b = true then te σ2 H5 fun v H6 => Sub3 H2 H6∧rs[i]? = some (some v) else Sub3 H2 H5∧rs[i]? = some none) ∧
 ∀ p,H1 p = none→Q (.ref p) (upd3 H1 p (.lst (rs.filterMap id)))
def blk3 (own:List Str) (fv:FV) (σ:St3):St3:=own.map (fun _ => none)++fv.map fun p => (σ[p.1]?).join
theorem g_cp {wi:TI3} {g:TG3} {own:List Str} {fv:FV} (h:wi σ H fun ds keep H1 => Cp g cA te (blk3 own fv σ) ds keep H1 Q):cp3 wi g cA te own fv σ H Q:=h
theorem Cp.filt {α:Type} {g:TG3} {keep:Hp3→Prop} {σ0:St3} {as:List α} {E:α→D} (F:α→D) (T:α→Bool) (hk:∀ H2:Hp3,Sub3 H H2→keep H2) (hl:as.length≤1000)
  (hel:∀ (i:Nat) a,as[i]? = some a→∀ (R1:VK3) (R0:Hp3→Prop) (H2:Hp3),Sub3 H H2→(T a = true→∀ H6,Sub3 H2 H6→R1 (F a) H6)→(T a = false→∀ H6,Sub3 H2 H6→R0 H6)→g (E a) σ0 H2 fun σ2 H4 => cA σ2 H4 fun b H5 => if b = true then te σ2 H5 R1 else R0 H5)
  (fin:∀ p,H p = none→Q (.ref p) (upd3 H p (.lst ((as.filter T).map F)))):Cp g cA te σ0 (as.map E) keep H Q:=by
 refine ⟨hk,by rw [List.length_map]; exact Nat.le_trans hl (by decide),as.map (fun a => if T a = true then some (F a) else none),by simp,fun i d hd H2 hs => ?_,fun p hp => ?_⟩
 ·rw [List.getElem?_map] at hd
  cases e:as[i]? with
  | none => rw [e] at hd; cases hd
  | some a =>
   rw [e] at hd
   cases hd
   have er:(as.map fun a => if T a = true then some (F a) else none)[i]? = some (if T a = true then some (F a) else none):=by rw [List.getElem?_map,e]; rfl
   exact hel i a e _ _ H2 hs (fun ht H6 h6 => ⟨h6,by rw [er,if_pos ht]⟩) fun ht H6 h6 => ⟨h6,by rw [er,if_neg (by rw [ht]; exact Bool.false_ne_true)]⟩
 ·have e:∀ as:List α,(as.map fun a => if T a = true then some (F a) else none).filterMap id = (as.filter T).map F:=by
   intro as
   induction as with
   | nil => rfl
   | cons a as ih =>
    rw [List.map_cons,List.filterMap_cons]
    cases h:T a with
    | true => rw [List.filter_cons_of_pos h,List.map_cons,← ih]; rfl
    | false => rw [List.filter_cons_of_neg (by simp [h]),← ih]; rfl
  rw [e]
  exact fin p hp
theorem Cp.map {α:Type} {g:TG3} {keep:Hp3→Prop} {σ0:St3} {as:List α} {E:α→D} (F:α→D) (hk:∀ H2:Hp3,Sub3 H H2→keep H2) (hl:as.length≤1000)
  (hel:∀ (i:Nat) a,as[i]? = some a→∀ (R:VK3) (H2:Hp3),Sub3 H H2→(∀ H6,Sub3 H2 H6→R (F a) H6)→g (E a) σ0 H2 fun σ2 H4 => te σ2 H4 R)
  (fin:∀ p,H p = none→Q (.ref p) (upd3 H p (.lst (as.map F)))):Cp g yes3 te σ0 (as.map E) keep H Q:=by
 refine ⟨hk,by rw [List.length_map]; exact Nat.le_trans hl (by decide),as.map (fun a => some (F a)),by simp,fun i d hd H2 hs => ?_,fun p hp => ?_⟩
 ·rw [List.getElem?_map] at hd
  cases e:as[i]? with
  | none => rw [e] at hd; cases hd
  | some a =>
   rw [e] at hd
   cases hd
   have er:(as.map fun a => some (F a))[i]? = some (some (F a)):=by rw [List.getElem?_map,e]; rfl
   exact hel i a e _ H2 hs fun H6 h6 => ⟨h6,er⟩
 ·have e:∀ as:List α,(as.map fun a => some (F a)).filterMap id = as.map F:=by
   intro as
   induction as with
   | nil => rfl
   | cons a as ih => rw [List.map_cons,List.filterMap_cons,List.map_cons,← ih]; rfl
  rw [e]
  exact fin p hp
theorem cut3_map {α:Type} (xs:List α) (f:α→D) (lo hi:Option Int):cut3 (xs.map f) lo hi = (cut3 xs lo hi).map f:=by
 unfold cut3; rw [List.length_map,List.map_take,List.map_drop]
theorem ifD {p A B:Prop} [Decidable p] (h1:p→A) (h2:¬ p→B):if decide p = true then A else B:=by
 by_cases h:p
 ·rw [if_pos (decide_eq_true h)]; exact h1 h
 ·rw [if_neg (by simpa using h)]; exact h2 h
theorem ifN {p A B:Prop} [Decidable p] (h1:¬ p→A) (h2:p→B):if (!decide p) = true then A else B:=by
 by_cases h:p
 ·rw [if_neg (by simpa using h)]; exact h2 h
 ·rw [if_pos (by simpa using h)]; exact h1 h
theorem ifB {c:Bool} {A B:Prop} (h1:c = true→A) (h2:c = false→B):if c = true then A else B:=by
 cases c
 ·rw [if_neg Bool.false_ne_true]; exact h2 rfl
 ·rw [if_pos rfl]; exact h1 rfl
theorem ifY {c:Bool} {A B:Prop} (hc:c = true) (h:A):if c = true then A else B:=by rw [if_pos hc]; exact h
theorem ifX {c:Bool} {A B:Prop} (hc:c = false) (h:B):if c = true then A else B:=by subst hc; exact h
end
end L3
namespace L3
open PySem PySem.W PyProof.Rows
end L3
namespace L3
open PySem PySem.Spec PySem.W PyProof.Rows
end L3
namespace L3
open PySem PySem.Spec PyProof.Rows L2
section
variable {X:Cx} {pins:List (Addr×Obj)} {σ:St} {H H':Hp} {s:Shared}
theorem Inv.adopt {D kS:Addr} {xs:List V} {its:List Value} {n:Nat} {h':Heap} (I:Inv X pins σ H s) (fD:FpOk X pins H D) (fk:FpOk X pins H kS) (g:∀ b o,b≠kS→b≠D→s.heap.get? b = some o→h'.get? b = some o)
  (hD:h'.get? D = some (seqObj "list" its.toArray n)) (hv:Vals xs its) (hz:xs.length≤sizeLine):Inv X pins σ (upd H D (.lst xs)) { s with heap:=h' }:=by
 have nD:∀ b u,H b = some u→b≠D:=fun b u e z => by rw [z,fD.1] at e; cases e
 have nK:∀ b u,H b = some u→b≠kS:=fun b u e z => by rw [z,fk.1] at e; cases e
 have out:∀ b,b∉[kS,D]→b≠kS∧b≠D:=fun b hb => ⟨fun z => hb (by simp [z]),fun z => hb (by simp [z])⟩
 refine I.step (g':=s.gens) (d':=s.drawn) (t':=s.toks) (ch:=[kS,D]) (fun b hb => ?_) (fun b o _ _ hc e _ => g b o (out b hc).1 (out b hc).2 e) (fun b o _ _ hc e _ => ⟨o.slots,g b o (out b hc).1 (out b hc).2 e⟩) (fun b o hc _ z => by rw [upd_ne (out b hc).2]; exact z) ?_
  (fun b ys e => by rw [upd_ne (nD b _ e)]; exact e) (fun b o u e => by rw [upd_ne (nD b _ e)]; exact e) (fun b ps e => ⟨#[],by rw [upd_ne (nD b _ e),e]; simp⟩) (fun m hm => ?_) (fun b u e => ?_) I.bare
 ·rcases List.mem_cons.mp hb with z | hb
  ·rw [z]; exact ⟨fk.2.2.2.1,fk.2.1,fk.2.2.2.2.1,fk.2.2.2.2.2⟩
  ·rw [List.mem_singleton.mp hb]; exact ⟨fD.2.2.2.1,fD.2.1,fD.2.2.2.2.1,fD.2.2.2.2.2⟩
 ·exact fun b o hc e => ⟨o,g b o (out b hc).1 (out b hc).2 e⟩
 ·obtain ⟨o,es,ep,ho,r⟩:=hm
  exact ⟨o,es,ep,g _ o (Ne.symm fk.2.1) (Ne.symm fD.2.1) ho,r⟩
 ·by_cases hb:b = D
  ·subst hb
   rw [upd_same] at e
   cases e
   exact ⟨hz,its,n,hv,hD⟩
  ·rw [upd_ne hb] at e
   refine (I.hok b u e).stay (fun c v hc q => ?_) (fun c q => by rw [upd_ne (nD c _ q)]; exact q) fun c ys q => by rw [upd_ne (nD c _ q)]; exact q
   rcases hc with z | z
   ·exact g c v (by rw [z]; exact nK b u e) (by rw [z]; exact hb) q
   ·exact g c v (nK c _ z) (nD c _ z) q
end
theorem Paired.snoc {α β:Type} {R:α→β→Prop} {as:List α} {bs:List β} {a:α} {b:β} (t:Paired R as bs) (h:R a b):Paired R (as++[a]) (bs++[b]):=by
 induction t with
 | nil => exact .cons h .nil
 | cons r _ ih => exact .cons r ih
def keysOf:List D→Option (List Key)
 | [] => some []
 | .int i::ds => (keysOf ds).map (Sum.inl i::·)
 | .str x::ds => (keysOf ds).map (Sum.inr x::·)
 | _::_ => none
theorem keys_rep {K:PySem.W.Frag} {H:Hp}:∀ {ds:List D} {xs:List V} {ks:List Key},RepL K H ds xs→keysOf ds = some ks→xs = ks.map kV
 | _,_,_,.nil,h => by simp only [keysOf,Option.some.injEq] at h; subst h; rfl
 | _,_,_,.cons (d:=d) r t,h => by
  cases r with
  | int i =>
   simp only [keysOf,Option.map_eq_some_iff] at h
   obtain ⟨ms,h1,rfl⟩:=h
   rw [keys_rep t h1]; rfl
  | str i =>
   simp only [keysOf,Option.map_eq_some_iff] at h
   obtain ⟨ms,h1,rfl⟩:=h
   rw [keys_rep t h1]; rfl
  | _ => simp [keysOf] at h
abbrev Tab:=List (List Key×D)
def dlook (kvs:Tab) (k:List Key):Option D:=(kvs.find? fun kv => decide (kv.1 = k)).map (·.2)
abbrev TR (K:PySem.W.Frag) (H:Hp):Tab→List (List Key×V)→Prop:=Paired (fun (p:List Key×D) (q:List Key×V) => p.1 = q.1∧Rep K H p.2 q.2)
theorem TR.look {K:PySem.W.Frag} {H:Hp} {k:List Key}:∀ {kvs:Tab} {ks:List (List Key×V)},TR K H kvs ks→(valV ks k).isSome = (dlook kvs k).isSome∧∀ d,dlook kvs k = some d→∃ v,valV ks k = some v∧Rep K H d v
 | _,_,.nil => ⟨rfl,fun _ h => nomatch h⟩
 | _,_,.cons (a:=p) (b:=q) r t => by
  have ih:=TR.look (k:=k) t
  by_cases e:p.1 = k
  ·have e':q.1 = k:=r.1.symm.trans e
   have l1:∀ rest:Tab,dlook (p::rest) k = some p.2:=fun rest => by unfold dlook; rw [List.find?_cons_of_pos (by simpa using e)]; rfl
   rw [valV_pos e',l1]
   exact ⟨rfl,fun d h => ⟨_,rfl,by cases h; exact r.2⟩⟩
  ·have e':¬ q.1 = k:=fun z => e (r.1.trans z)
   have l1:∀ rest:Tab,dlook (p::rest) k = dlook rest k:=fun rest => by unfold dlook; rw [List.find?_cons_of_neg (by simpa using e)]
   rw [valV_neg e',l1]
   exact ih
def r3inD (neg:Bool):R3:=fun x y H Q => match x,y with
 | .tup ds,.ref a => (match keysOf ds,H a with
  | some k,some (.dic kvs) => Q (.bl (if neg then !(dlook kvs k).isSome else (dlook kvs k).isSome)) H
  | _,_ => False)
 | _,_ => False
def r3inX (neg:Bool):R3:=fun x y H Q => r3in neg x y H Q∨r3inD neg x y H Q
section
variable {X:Cx}
theorem op3_notInX (hu:X.A.units + 64 < cLine):OpR X (compareOp .NotIn) (lift2 X.K (r3inX true)):=by
 intro pins s σ H x y v u Q I rx ry h
 obtain ⟨dx,dy,H3,Q3,hr,rdx,rdy,t,k⟩:=h
 rcases t with t | t
 ·exact op3_notIn hu pins s σ H x y v u Q I rx ry ⟨dx,dy,H3,Q3,hr,rdx,rdy,t,k⟩
 ·cases rdx with
  | tup ha ra =>
   cases rdy with
   | ref a =>
    (delta r3inD at t; dsimp only at t)
    split at t
    ·rename_i ks kvs e1 e2
     obtain ⟨vs,gd,rd⟩:=hr a _ e2
     cases ry
     have ex:=keys_rep ra e1
     subst ex
     refine d_notIn (by omega) I (DGet.t gd ha) rx fun s' I' => ⟨.bl _,H,I',rfl,?_⟩
     rw [(TR.look (k:=ks) rd).1]
     exact k _ _ _ _ TK.refl hr (.bl _) t
    ·exact t.elim
   | _ => exact t.elim
  | _ => exact t.elim
end
def ra3:TS3:=fun _ _ _ => False
theorem s3_never {X:Cx} {st:Stmt}:PS3 X st ra3:=fun _ _ _ _ _ _ h => by obtain ⟨_,_,_,_,_,t,_⟩:=h; exact t.elim
end L3
namespace L3
open PySem L2
end L3
namespace L3
open PySem PySem.Spec PyProof.Rows L2
def boolsOf:List D→Option (List Bool)
 | [] => some []
 | .bl b::ds => (boolsOf ds).map (b::·)
 | _::_ => none
theorem boolsOf_map (bs:List Bool):boolsOf (bs.map D.bl) = some bs:=by
 induction bs with
 | nil => rfl
 | cons b bs ih => rw [List.map_cons,boolsOf,ih]; rfl
theorem boolsOf_inv:∀ {ds:List D} {bs:List Bool},boolsOf ds = some bs→ds = bs.map D.bl
 | [],bs,h => by cases h; rfl
 | d::ds,bs,h => by
  cases d with
  | bl b =>
   rw [boolsOf,Option.map_eq_some_iff] at h
   obtain ⟨cs,hc,rfl⟩:=h
   rw [boolsOf_inv hc]; rfl
  | _ => cases h
def r3tr (f:List Bool→Bool):List D→Hp3→VK3→Prop:=fun ds H Q => match ds with
 | [.ref a] => (match H a with
  | some (.lst xs) => (match boolsOf xs with
   | some bs => Q (.bl (f bs)) H
   | none => False)
  | _ => False)
 | _ => False
abbrev r3all:List D→Hp3→VK3→Prop:=r3tr fun bs => bs.all id
theorem g_tr {f:List Bool→Bool} {bs:List Bool} {a:Addr} {H:Hp3} {Q:VK3} (ha:H a = some (.lst (bs.map D.bl))) (q:Q (.bl (f bs)) H):r3tr f [.ref a] H Q:=by
 (delta r3tr; simp only [ha,boolsOf_map]); exact q
def lets (z:Str):List D:=z.cps.toList.map fun c => D.str ⟨#[c]⟩
def iz3 (te:TE3):TI3:=fun σ H R => te σ H fun x H1 => match x with
 | .str z => R (lets z) (fun _ => True) H1
 | _ => False
def izk (x:D) (H:Hp3) (R:List D→(Hp3→Prop)→Hp3→Prop):Prop:=match x with
 | .str z => R (lets z) (fun _ => True) H
 | _ => False
theorem g_iz {te:TE3} {σ:St3} {H:Hp3} {R:List D→(Hp3→Prop)→Hp3→Prop} (h:te σ H fun x H1 => izk x H1 R):iz3 te σ H R:=h
theorem g_izS {z:Str} {H:Hp3} {R:List D→(Hp3→Prop)→Hp3→Prop} (h:R (lets z) (fun _ => True) H):izk (.str z) H R:=h
def strsOf:List D→Option (List Str)
 | [] => some []
 | .str b::ds => (strsOf ds).map (b::·)
 | _::_ => none
theorem strsOf_map (bs:List Str):strsOf (bs.map D.str) = some bs:=by
 induction bs with
 | nil => rfl
 | cons b bs ih => rw [List.map_cons,strsOf,ih]; rfl
theorem strsOf_inv:∀ {ds:List D} {bs:List Str},strsOf ds = some bs→ds = bs.map D.str
 | [],bs,h => by cases h; rfl
 | d::ds,bs,h => by
  cases d with
  | str b =>
   rw [strsOf,Option.map_eq_some_iff] at h
   obtain ⟨cs,hc,rfl⟩:=h
   rw [strsOf_inv hc]; rfl
  | _ => cases h
def joinZ (z:Str) (ys:List Str):Str:=⟨(ys.drop 1).foldl (fun acc p => acc++z.cps++p.cps) (ys.headD ⟨#[]⟩).cps⟩
theorem foldl_cps (z:Str) (hz:z.cps = #[]):∀ (ys:List Str) (acc:Array Nat),ys.foldl (fun acc p => acc++z.cps++p.cps) acc = acc++(ys.map fun y => y.cps.toList).flatten.toArray
 | [],acc => by simp
 | y::ys,acc => by rw [List.foldl_cons,foldl_cps z hz ys,hz]; apply Array.ext'; simp
theorem joinZ_nil {z:Str} (hz:z.cps = #[]) (ys:List Str):joinZ z ys = ⟨(ys.map fun y => y.cps.toList).flatten.toArray⟩:=by
 unfold joinZ
 rw [foldl_cps z hz]
 cases ys with
 | nil => simp
 | cons y ys => simp
theorem joinZ_lets {z:Str} (hz:z.cps = #[]) (cs:List Nat):joinZ z (cs.map fun c => ⟨#[c]⟩) = ⟨cs.toArray⟩:=by
 rw [joinZ_nil hz,List.map_map]
 congr 2
 induction cs with
 | nil => rfl
 | cons c cs ih => simp only [List.map_cons,List.flatten_cons,ih]; rfl
def r3join:D→List D→Hp3→VK3→Prop:=fun x xs H Q => match x,xs with
 | .str z,[.ref a] => (match H a with
  | some (.lst ds) => (match strsOf ds with
   | some ys => (ys.map fun y => y.cps.size).sum + ys.length * z.cps.size≤16777216∧Q (.str (joinZ z ys)) H
   | none => False)
  | _ => False)
 | _,_ => False
def firstAt (z y:Str):Option Nat:=(List.range (z.cps.size + 1)).find? fun i => decide (i + y.cps.size≤z.cps.size) && (z.cps.extract i (i + y.cps.size) == y.cps)
def r3index:D→List D→Hp3→VK3→Prop:=fun x xs H Q => match x,xs with
 | .str z,[.str y] => (match firstAt z y with
  | some i => Q (.int i) H
  | none => False)
 | _,_ => False
def mz3 (r:D→List D→Hp3→VK3→Prop) (to:TE3) (t:TA3):TE3:=fun σ H Q => to σ H fun x H1 => (match x with
 | .str _ => t σ H1 fun xs H2 => r x xs H2 Q
 | _ => False)
def mzk (r:D→List D→Hp3→VK3→Prop) (t:TA3) (σ:St3) (x:D) (H1:Hp3) (Q:VK3):Prop:=match x with
 | .str _ => t σ H1 fun xs H2 => r x xs H2 Q
 | _ => False
theorem g_mz {r:D→List D→Hp3→VK3→Prop} {to:TE3} {t:TA3} {σ:St3} {H:Hp3} {Q:VK3} (h:to σ H fun x H1 => mzk r t σ x H1 Q):mz3 r to t σ H Q:=h
theorem g_mzk {r:D→List D→Hp3→VK3→Prop} {t:TA3} {σ:St3} {z:Str} {H:Hp3} {Q:VK3} (h:t σ H fun xs H2 => r (.str z) xs H2 Q):mzk r t σ (.str z) H Q:=h
theorem g_join {z:Str} {ys:List Str} {a:Addr} {H:Hp3} {Q:VK3} (ha:H a = some (.lst (ys.map D.str))) (hl:(ys.map fun y => y.cps.size).sum + ys.length * z.cps.size≤16777216) (q:Q (.str (joinZ z ys)) H):r3join (.str z) [.ref a] H Q:=by
 (delta r3join; simp only [ha,strsOf_map]); exact ⟨hl,q⟩
theorem g_index {z y:Str} {i:Nat} {H:Hp3} {Q:VK3} (h:firstAt z y = some i) (q:Q (.int i) H):r3index (.str z) [.str y] H Q:=by
 (delta r3index; simp only [h]); exact q
def cutZ (z:Str) (lo hi:Option Int):Str:=⟨(cut3 z.cps.toList lo hi).toArray⟩
def r3slZ:RSl:=fun x lo hi H Q => match x with
 | .str z => z.length≤sizeLine∧Q (.str (cutZ z lo hi)) H
 | _ => False
theorem g_slZ {z:Str} {lo hi:Option Int} {H:Hp3} {Q:VK3} (hl:z.length≤sizeLine) (q:Q (.str (cutZ z lo hi)) H):r3slZ (.str z) lo hi H Q:=⟨hl,q⟩
end L3
namespace L3
open PySem PySem.Spec PyProof.Rows PySem.Calls L2
section
variable {X:Cx}
theorem bools_at:∀ {bs:List Bool} {us:List Value} {i:Nat} {v:Value},Vals (bs.map V.bl) us→us[i]? = some v→∃ b,bs[i]? = some b∧v = .bool b
 | [],_,i,v,.nil,e => by simp at e
 | b::bs,_,0,v,.cons r t,e => by
  simp at e; subst e
  exact ⟨b,rfl,r⟩
 | b::bs,_,i + 1,v,.cons r t,e => by
  obtain ⟨c,h1,h2⟩:=bools_at (bs:=bs) (i:=i) t (by simpa using e)
  exact ⟨c,by simpa using h1,h2⟩
theorem RepL.bools_inv {K:PySem.W.Frag} {H:Hp}:∀ {bs:List Bool} {vs:List V},RepL K H (bs.map D.bl) vs→vs = bs.map V.bl
 | [],_,.nil => rfl
 | _::bs,_,.cons (.bl _) t => by rw [List.map_cons,RepL.bools_inv (bs:=bs) t]
theorem iter_kept {h h':Heap} {o:Obj} (hk:∀ b x,b∉[h.objs.size]→(h.push o).get? b = some x→h'.get? b = some x) (b:Addr) (x:Obj) (e:h.get? b = some x):h'.get? b = some x:=by
 refine hk b x (fun hm => ?_) (Heap.get?_push_of_some _ e)
 rw [List.mem_singleton.mp hm] at e
 exact absurd (Heap.lt_size e) (Nat.lt_irrefl _)
theorem call_allL (hc:X.calm = true):CallR X (.builtin "all") (fun xs H Q => ∃ (a:Addr) (bs:List Bool),xs = [.ref a]∧SqL X.K H a (bs.map V.bl)∧Q (.bl (bs.all id)) H):=by
 intro pins s σ H xs us Q I r h
 obtain ⟨a,bs,rfl,hq,q⟩:=h
 obtain ⟨u,rfl,ru⟩:=vals1 r
 cases ru
 obtain ⟨its,rv,pl,_⟩:=I.list hq
 have hl:=pl.isList
 have hlt:a < s.heap.objs.size:=by obtain ⟨_,e,_⟩:=hl; exact Heap.lt_size e
 have hlen:its.length = bs.length:=by have:=rv.length; rw [List.length_map] at this; exact this.symm
 refine call_all_walk (wpAny_pyIter_list hl ?_)
 refine ⟨s.heap.objs.size,[s.heap.objs.size,a],[s.heap.objs.size],its.toArray.size,_,_,fun i => (bs[i]?).getD true,rfl,
  Walks.list (A:=X.A.in1) (I.ok.hd hc) _ a (Nat.ne_of_lt hlt) its.toArray,⟨⟨_,Heap.get?_push_size _ rfl,rfl,rfl⟩,hl.push _⟩,?_,?_⟩
 ·intro i v s' Q' E' hP hQ
  obtain ⟨b,e,rfl⟩:=bools_at rv (i:=i) (v:=v) (by simpa using hP)
  dsimp only at hQ
  rw [e,Option.getD_some] at hQ
  exact wpAny_truthy_bool hQ
 ·intro h' tk hk
  rw [List.size_toArray,hlen,LSm.range_all]
  exact ⟨.bl (bs.all id),H,I.kept (iter_kept hk),rfl,q⟩
theorem lift_tr {id:String} {f:List Bool→Bool} (h:CallR X (.builtin id) (fun xs H Q => ∃ (a:Addr) (bs:List Bool),xs = [.ref a]∧SqL X.K H a (bs.map V.bl)∧Q (.bl (f bs)) H)):CallR X (.builtin id) (liftC X.K (r3tr f)):=by
 intro pins s σ H xs us Q I rs t
 obtain ⟨ds,H3,Q3,hr,rd,t,k⟩:=t
 cases rd with
 | nil => exact t.elim
 | cons r1 r2 =>
  cases r2 with
  | cons _ _ => cases r1 <;> exact t.elim
  | nil =>
   cases r1 with
   | ref a =>
    (delta r3tr at t; dsimp only at t)
    split at t
    ·rename_i ds ha
     split at t
     ·rename_i bs e
      obtain ⟨vs,ga,ra⟩:=hr a _ ha
      have z:=boolsOf_inv e
      subst z
      have z:=ra.bools_inv
      subst z
      exact h pins s σ H _ us Q I rs ⟨a,bs,rfl,SqL.of ga,k _ _ _ _ TK.refl hr (.bl _) t⟩
     ·exact t.elim
    ·exact t.elim
   | _ => exact t.elim
theorem cb3_all (hc:X.calm = true):CallR X (.builtin "all") (liftC X.K r3all):=lift_tr (call_allL hc)
end
end L3
namespace L3
open PySem PySem.Spec PyProof.Rows L2
def Itx (x:Str):It:=⟨fun i _ => i < x.cps.size,fun i H v H' => H' = H∧∃ c,x.cps[i]? = some c∧v = .str ⟨#[c]⟩,fun i _ => x.cps.size≤i⟩
theorem turn_text {P:Program} {w:World} {K:PySem.W.Frag} {tg:Expr} {ty:String} {x:Str} {t:Tok} (it:Addr)
  (hn:["enumerate", "zip", "dict_itemiterator", "dict_reverseitemiterator", "odict_iterator", "itertools.zip_longest", "itertools.pairwise"].contains ty = false)
  (W:∀ A':Around,A'.handled = none→Walks P w A' it [it] [it] x.cps.size (SignAt x) (fun i h => h.IsStrIter it ty x t i))
  (S:∀ (A:Around) (i:Nat) (s:Shared) (Q:Value→Shared→Prop) (E:Value→Shared→Prop),s.heap.IsStrIter it ty x t i→Q (.ref it) s→wpAny (model P w) A (pyIter (.ref it)) Q E s) :
  Turn P w K tg (Itx x) [it] it (fun i h => i≤x.cps.size∧h.IsStrIter it ty x t i) where
 mem:=List.mem_singleton.mpr rfl
 obj:=by
  rintro i h ⟨_,o,e,_,d⟩ b hb
  rw [List.mem_singleton.mp hb]
  exact ⟨o,e,fun v z => by rw [d] at z; cases z⟩
 keep:=by
  rintro i h h' ⟨l,o,e,c⟩ k
  exact ⟨l,o,k it (List.mem_singleton.mpr rfl) o e,c⟩
 item:=by
  intro X hP hw hK hc i pins s σ H E I hf st hg
  subst hP hw hK
  obtain ⟨f0,f1,f2,f3,f4,f5⟩:=hf it (List.mem_singleton.mpr rfl)
  refine (W X.A (I.ok.hd hc)).item i s _ _ hg st.2 fun v h' tk hv st' kk => ?_
  obtain ⟨c,u,hcx,rfl⟩:=hv
  have I1:L2.Inv X pins σ H { s with heap:=h',toks:=tk }:=I.turned (fun b o hb e => kk b o (fun z => hb (List.mem_singleton.mp z)) e) f0 f1 f3 f4 f5
  obtain ⟨o,e,hcl,d⟩:=id st'
  exact ⟨_,rfl,go_of (s:={ s with heap:=h',toks:=tk }) e hcl d hn ⟨.str ⟨#[c]⟩,H,I1,⟨u,rfl⟩,⟨rfl,c,hcx,rfl⟩,⟨hg,st'⟩,fun b hb => (hf b hb).1⟩⟩
 done:=by
  intro X hP hw hK hc i pins s σ H E I hf st hg
  subst hP hw hK
  obtain ⟨f0,f1,f2,f3,f4,f5⟩:=hf it (List.mem_singleton.mpr rfl)
  have hi:i = x.cps.size:=Nat.le_antisymm st.1 hg
  subst hi
  exact (W X.A (I.ok.hd hc)).done s _ _ st.2 fun h' tk kk => ⟨rfl,I.turned (t':=tk) (fun b o hb e => kk b o (fun z => hb (List.mem_singleton.mp z)) e) f0 f1 f3 f4 f5⟩
 self:=fun A i s Q E st h => S A i s Q E st.2 h
section
variable {X:Cx}
def iText (tl:TE):TI:=fun σ H R => tl σ H fun x H1 => ∃ z,x = .str z∧R (Itx z) H1
theorem pi_text {tg l:Expr} {tl:TE} (hl:PE X l tl):PI X tg l (iText tl):=by
 intro pins s σ H R I h
 refine thn (hl pins s σ H _ I h) fun v s1 zz => ?_
 obtain ⟨x,H1,I1,r1,q1⟩:=zz
 obtain ⟨z,rfl,q⟩:=q1
 obtain ⟨t,rfl⟩:=r1
 have fp:∀ b∈[s1.heap.objs.size],FpOk X pins H1 b:=fun b hb => by
  rw [List.mem_singleton.mp hb]
  exact I1.fpOk (Nat.le_refl _) (I1.hok.fresh (Nat.le_refl _))
 cases ha:z.cps.all (· < 128)
 ·refine wpAny_pyIter_wide ha ?_
  exact ⟨s1.heap.objs.size,[s1.heap.objs.size],_,_,H1,rfl,I1.kept (t':=s1.toks) fun b o e => Heap.get?_push_of_some _ e,
   turn_text (ty := "str_iterator") (x:=z) (t:=t) _ (by decide) (fun A' hA => Walks.strWide hA _ z t) (fun A i s Q E st h => wpAny_pyIter_striter_wide st h),⟨Nat.zero_le _,_,Heap.get?_push_size _ rfl,rfl,rfl⟩,fp,q⟩
 ·refine wpAny_pyIter_ascii ha ?_
  exact ⟨s1.heap.objs.size,[s1.heap.objs.size],_,_,H1,rfl,I1.kept (t':=s1.toks) fun b o e => Heap.get?_push_of_some _ e,
   turn_text (ty := "str_ascii_iterator") (x:=z) (t:=t) _ (by decide) (fun A' hA => Walks.strAscii hA _ z t) (fun A i s Q E st h => wpAny_pyIter_striter_ascii st h),⟨Nat.zero_le _,_,Heap.get?_push_size _ rfl,rfl,rfl⟩,fp,q⟩
theorem itOk_text {K:PySem.W.Frag} {H:Hp} {z:Str}:ItOk K H (lets z) (fun _ => True) (Itx z):=fun H3 H' tk hr _ => by
 have hl:(lets z).length = z.cps.size:=by unfold lets; rw [List.length_map,Array.length_toList]
 refine ⟨fun i hi => ⟨by rw [hl] at hi; exact hi,fun x H'' y => ?_⟩,by rw [hl]; exact Nat.le_refl _⟩
 obtain ⟨e,c,hc,rfl⟩:=y
 subst e
 refine ⟨TK.refl,hr,.str ⟨#[c]⟩,?_,.str _⟩
 unfold lets
 rw [List.getElem?_map,Array.getElem?_toList,hc]
 rfl
theorem i3_text {tg e:Expr} {te:TE3} (h:PE3 X e te):PI3 X tg e (iz3 te) :=
 pi_imp (pi_text h) fun _ _ _ ⟨σ3,H3,R3,sr,hr,t,k⟩ => ⟨σ3,H3,_,sr,hr,t,fun x v H3a Ha tka hra rx qa => by
  cases rx with
  | str z => exact ⟨z,rfl,k _ _ _ _ _ tka hra itOk_text qa⟩
  | _ => exact qa.elim⟩
end
end L3
namespace L3
open PySem PySem.Spec PyProof.Rows L2
section
variable {X:Cx}
theorem RepL.strs_inv {K:PySem.W.Frag} {H:Hp} {bs:List Str}:∀ {vs:List V},RepL K H (bs.map D.str) vs→vs = bs.map V.str:=by
 induction bs with
 | nil => intro vs h; cases h; rfl
 | cons b bs ih =>
  intro vs h
  cases h with
  | cons r t =>
   cases r
   rw [ih t]; rfl
theorem strs_of:∀ {ys:List Str} {us:List Value},Vals (ys.map V.str) us→StrsAre us ys
 | [],_,.nil => .nil
 | y::ys,_,.cons r t => by
  obtain ⟨k,rfl⟩:=r
  exact .cons y k (strs_of t)
theorem mt_joinZ:MtR X "str.join" (fun x xs H Q => ∃ (z:Str) (a:Addr) (ys:List Str),x = .str z∧xs = [.ref a]∧SqL X.K H a (ys.map V.str)∧(ys.map fun y => y.cps.size).sum + ys.length * z.cps.size≤16777216∧Q (.str (joinZ z ys)) H):=by
 intro pins s σ H x xs v us Q I rx rs h
 obtain ⟨z,a,ys,rfl,rfl,hq,hl,q⟩:=h
 obtain ⟨t,rfl⟩:=rx
 obtain ⟨u,rfl,ru⟩:=vals1 rs
 cases ru
 obtain ⟨its,rv,pl,_⟩:=I.list hq
 refine join_list pl.isList (ys:=ys) (by simpa using strs_of rv) hl fun t' k => ?_
 exact ⟨.str (joinZ z ys),H,I.kept (t':=k) fun _ _ e => e,⟨t',rfl⟩,q⟩
theorem mt_indexZ:MtR X "str.index" (fun x xs H Q => ∃ (z y:Str) (i:Nat),x = .str z∧xs = [.str y]∧firstAt z y = some i∧Q (.int i) H):=by
 intro pins s σ H x xs v us Q I rx rs h
 obtain ⟨z,y,i,rfl,rfl,hi,q⟩:=h
 obtain ⟨t,rfl⟩:=rx
 obtain ⟨u,rfl,ru⟩:=vals1 rs
 obtain ⟨t2,rfl⟩:=ru
 unfold firstAt at hi
 rw [List.find?_range_eq_some] at hi
 obtain ⟨h1,h2,h3⟩:=hi
 rw [Bool.and_eq_true,decide_eq_true_eq] at h1
 have at_i:StrLaws.At z y z.length i:=⟨h1.1,h1.2⟩
 rcases StrLaws.occ_head z y 1 (Nat.le_refl _) with ⟨_,hn⟩ | ⟨j,r,e,hj,hn⟩
 ·exact absurd at_i (hn i)
 ·have hij:j = i:=by
   rcases Nat.lt_trichotomy i j with hlt | heq | hgt
   ·exact absurd at_i (hn i hlt)
   ·exact heq.symm
   ·have:=h3 j hgt
    rw [Bool.not_eq_true',Bool.and_eq_false_iff] at this
    rcases this with w | w
    ·rw [decide_eq_false_iff_not] at w
     exact absurd hj.1 w
    ·have w2:=hj.2
     unfold Builtin.Str.subAt at w2
     exact absurd (show (z.cps.extract j (j + y.cps.size) == y.cps) = true from w2) (by rw [w]; decide)
  subst hij
  exact SC.index e ⟨.int j,H,I.tok _,⟨_,rfl⟩,q⟩
theorem mt3_join:MtR X "str.join" (liftM X.K r3join):=by
 intro pins s σ H x xs v us Q I rx rs t
 obtain ⟨d,ds,H3,Q3,hr,rd,rds,t,k⟩:=t
 cases rd with
 | str z =>
  cases rds with
  | nil => exact t.elim
  | cons r1 r2 =>
   cases r2 with
   | cons _ _ => cases r1 <;> exact t.elim
   | nil =>
    cases r1 with
    | ref a =>
     (delta r3join at t; dsimp only at t)
     split at t
     ·rename_i ds ha
      split at t
      ·rename_i ys e
       obtain ⟨vs,ga,ra⟩:=hr a _ ha
       have w:=strsOf_inv e
       subst w
       have w:=ra.strs_inv
       subst w
       exact mt_joinZ pins s σ H _ _ v us Q I rx rs ⟨z,a,ys,rfl,rfl,SqL.of ga,t.1,k _ _ _ _ TK.refl hr (.str _) t.2⟩
      ·exact t.elim
     ·exact t.elim
    | _ => exact t.elim
 | _ => exact t.elim
theorem mt3_index:MtR X "str.index" (liftM X.K r3index):=by
 intro pins s σ H x xs v us Q I rx rs t
 obtain ⟨d,ds,H3,Q3,hr,rd,rds,t,k⟩:=t
 cases rd with
 | str z =>
  cases rds with
  | nil => exact t.elim
  | cons r1 r2 =>
   cases r2 with
   | cons _ _ => cases r1 <;> exact t.elim
   | nil =>
    cases r1 with
    | str y =>
     (delta r3index at t; dsimp only at t)
     split at t
     ·rename_i i e
      exact mt_indexZ pins s σ H _ _ v us Q I rx rs ⟨z,y,i,rfl,rfl,e,k _ _ _ _ TK.refl hr (.int _) t⟩
     ·exact t.elim
    | _ => exact t.elim
 | _ => exact t.elim
theorem p3_zm {o e:Expr} {es:List Expr} {to:TE3} {t:TA3} {name:Str} {apos cpos:Pos} {id:String} {r:D→List D→Hp3→VK3→Prop} (slot:Slot "str" name id) (hty:typeOf (.builtin id) = pure (.type "method_descriptor"))
  (hm:MtR X id (liftM X.K r)) (ho:PE3 X o to) (ha:PA3 X (e::es) t) (hbase:attributeBase o name X.env (eval o X.env) = eval o X.env:=by rfl)
  (hfew:((backTo cpos (starEach (e::es) X.env)).all (fun x => !x.1) && (backToKw cpos (keywordEach [] X.env)).all (fun x => x.1.isSome) && decide ((e::es).length + ([]:List Keyword).length + (if ([]:List Keyword).isEmpty then 0 else 1) < 30)) = true:=by rfl)
  (hline:(apos.endLine == cpos.line) = true:=by rfl) (hs:starEach (e::es) X.env = (false,eval e X.env)::starEach es X.env:=by rfl) (hplain:(backTo cpos (starEach es X.env)).any (·.1) = false:=by rfl) :
  PE3 X (.Call (.Attribute o name apos) (e::es) [] cpos) (mz3 r to t) :=
 pe_imp (pe_bm PySem.F.plainAttrs_str slot hty hm ho ha hbase hfew hline hs hplain) fun _ _ _ zz => zz.ex fun σ3 H3 Q3 sr hr t k => ⟨σ3,H3,_,sr,hr,t,fun x v H3a Ha tka hra rx qa => by
  cases rx with
  | str z =>
   exact ⟨rfl,σ3,H3a,_,sr.mono tka,hra,qa,fun ds vs H3b Hb tkb hrb rs qb => ⟨.str z,ds,H3b,Q3,hrb,.str z,rs,qb,(k.mono tka).mono tkb⟩⟩
  | _ => exact qa.elim⟩
end
end L3
namespace L3
open PySem PySem.Spec PyProof.Rows L2
section
variable {X:Cx}
theorem clip_ix (v:Option Int) (d n:Nat):(match v with | none => (d:Int) | some i => max 0 (min (if i < 0 then i + (n:Int) else i) (n:Int))) = ((HT.sIx n d v:Nat):Int):=by
 cases v with
 | none => rfl
 | some i =>
  unfold HT.sIx
  dsimp only
  split <;> grind
theorem picked_cut (lo hi:Option Int) (n:Nat):Builtin.Str.strSliceIndices lo hi 1 n = (List.range (HT.sIx n n hi - HT.sIx n 0 lo)).map (HT.sIx n 0 lo + ·):=by
 have e1:=clip_ix lo 0 n
 have e2:=clip_ix hi n n
 rw [← sliceRange_one,← e1,← e2]
 cases lo <;> cases hi <;> rfl
theorem ix_le (v:Option Int) (n:Nat):HT.sIx n n v≤n:=by
 cases v with
 | none => exact Nat.le_refl n
 | some i =>
  unfold HT.sIx
  dsimp only
  split <;> grind
theorem slice_cut (z:Str) (lo hi:Option Int):Txt.slice z lo hi = cutZ z lo hi:=by
 have hl:z.cps.toList.length = z.length:=Array.length_toList
 have hh:=ix_le hi z.length
 unfold Txt.slice cutZ cut3
 rw [picked_cut,pick_run,hl]
 split
 ·rename_i c
  rw [Bool.and_eq_true] at c
  have c2:=c.2
  rw [beq_iff_eq] at c2
  have c3:HT.sIx z.length z.length hi - HT.sIx z.length 0 lo = z.length:=by simpa using c2
  obtain ⟨a⟩:=z
  congr 1
  apply Array.ext'
  rw [c3]
  by_cases h0:a.size = 0
  ·have e:a = #[]:=Array.eq_empty_of_size_eq_zero h0
   subst e
   simp
  ·have hlo:HT.sIx (Str.length ⟨a⟩) 0 lo = 0:=by
    have h1:Str.length ⟨a⟩ = a.size:=rfl
    grind
   rw [hlo,List.drop_zero,List.take_of_length_le (by rw [hl]; exact Nat.le_refl _)]
 ·rfl
theorem sl_text:SlR X (fun x lo hi H Q => ∃ z,x = .str z∧z.length≤sizeLine∧Q (.str (cutZ z lo hi)) H):=by
 intro pins s σ H x v vl vu lo hi sl Q I rx hs pl pu h
 obtain ⟨z,rfl,hz,q⟩:=h
 obtain ⟨t,rfl⟩:=rx
 have fin:∀ t' k,EP X pins σ Q (.str (Txt.slice z lo hi) t') { s with toks:=k }:=fun t' k => by
  rw [slice_cut]
  exact ⟨.str (cutZ z lo hi),H,I.kept (t':=k) fun _ _ e => e,⟨t',rfl⟩,q⟩
 refine ⟨"str",_,F.slot_str_getitem.lookup,typeIs_str _ _ _,?_⟩
 cases pl with
 | none =>
  cases pu with
  | none => exact wpAny_getItem_str_slice (l:=none) (u:=none) (st:=none) hs rfl (post_val_or_str ⟨Nat.le_trans (Txt.slice_le z _ _) hz,fin⟩)
  | int j u => exact wpAny_getItem_str_slice (l:=none) (u:=some (j,u)) (st:=none) hs rfl (post_val_or_str ⟨Nat.le_trans (Txt.slice_le z _ _) hz,fin⟩)
 | int i w =>
  cases pu with
  | none => exact wpAny_getItem_str_slice (l:=some (i,w)) (u:=none) (st:=none) hs rfl (post_val_or_str ⟨Nat.le_trans (Txt.slice_le z _ _) hz,fin⟩)
  | int j u => exact wpAny_getItem_str_slice (l:=some (i,w)) (u:=some (j,u)) (st:=none) hs rfl (post_val_or_str ⟨Nat.le_trans (Txt.slice_le z _ _) hz,fin⟩)
theorem sl3_text:SlR X (liftSl X.K r3slZ):=by
 intro pins s σ H x v vl vu lo hi sl Q I rx hs pl pu h
 obtain ⟨d,H3,Q3,hr,rd,t,k⟩:=h
 cases rd with
 | str z => exact sl_text pins s σ H _ v vl vu lo hi sl Q I rx hs pl pu ⟨z,rfl,t.1,k _ _ _ _ TK.refl hr (.str _) t.2⟩
 | _ => exact t.elim
end
end L3
namespace L3
open PySem L2
def Bt (n:Nat) (i:Int):Prop:=i.natAbs < 2 ^ n
section
variable {m n:Nat} {i j:Int}
theorem Bt.mono (h:Bt m i) (l:m≤n):Bt n i:=Nat.lt_of_lt_of_le h (Nat.pow_le_pow_right (by decide) l)
theorem Bt.of_le (h:Bt m j) (l:i.natAbs≤j.natAbs):Bt m i:=Nat.lt_of_le_of_lt l h
theorem Bt.add (h:Bt m i) (g:Bt n j):Bt (max m n + 1) (i + j):=by
 have h':=Bt.mono h (Nat.le_max_left m n)
 have g':=Bt.mono g (Nat.le_max_right m n)
 show _ < _
 rw [Nat.pow_succ,Nat.mul_two]
 exact Nat.lt_of_le_of_lt (Int.natAbs_add_le i j) (Nat.add_lt_add h' g')
theorem Bt.neg (h:Bt m i):Bt m (-i):=by unfold Bt at *; rw [Int.natAbs_neg]; exact h
theorem Bt.sub (h:Bt m i) (g:Bt n j):Bt (max m n + 1) (i - j):=by rw [Int.sub_eq_add_neg]; exact h.add g.neg
theorem Bt.mul (h:Bt m i) (g:Bt n j):Bt (m + n) (i * j):=by
 unfold Bt at *
 rw [Int.natAbs_mul,Nat.pow_add]
 exact Nat.mul_lt_mul'' h g
theorem Bt.div (h:Bt m i):Bt m (i / j):=Bt.of_le h (Int.natAbs_ediv_le_natAbs i j)
theorem Bt.mod (g:Bt n j) (hj:0 < j):Bt n (i % j):=by
 refine g.of_le ?_
 have h1:=Int.emod_nonneg i (Int.ne_of_gt hj)
 have h2:=Int.emod_lt_of_pos i hj
 omega
theorem Bt.lit (h:i.natAbs < 2 ^ n):Bt n i:=h
end
def CMulW (i j:Int):Prop:=CMul i j∨∃ m n,Bt m i∧Bt n j∧m + n≤134217728
theorem CMulW.of {m n:Nat} {i j:Int} (h:Bt m i) (g:Bt n j) (l:m + n≤134217728):CMulW i j:=.inr ⟨m,n,h,g,l⟩
def CDivW (_ j:Int):Prop:=0 < j∧Bt 8999 j
def CDivNW (_ j:Int):Prop:=j≠0∧Bt 8999 j
def i3mulW:R3:=rI3 CMulW fun i j => .int (i * j)
def i3divW:R3:=rI3 CDivW fun i j => .int (i / j)
def i3divN:R3:=rI3 CDivNW fun i j => .int (i.fdiv j)
def i3modN:R3:=rI3 (fun _ j => j≠0) fun i j => .int (i.fmod j)
section
variable {σ:St3} {H:Hp3} {Q:VK3} {i j:Int} {d x y:D} {ds es:List D}
theorem g_mulW (c:CMulW i j) (q:Q (.int (i * j)) H):i3mulW (.int i) (.int j) H Q:=⟨c,q⟩
theorem g_divW (c:CDivW i j) (q:Q (.int (i / j)) H):i3divW (.int i) (.int j) H Q:=⟨c,q⟩
theorem g_divN (c:CDivNW i j) (q:Q (.int (i.fdiv j)) H):i3divN (.int i) (.int j) H Q:=⟨c,q⟩
theorem g_modN (c:j≠0) (q:Q (.int (i.fmod j)) H):i3modN (.int i) (.int j) H Q:=⟨c,q⟩
def r3abs:List D→Hp3→VK3→Prop:=fun ds H Q => match ds with
 | [.int i] => Q (.int (if i < 0 then -i else i)) H
 | _ => False
theorem g_abs (q:Q (.int (if i < 0 then -i else i)) H):r3abs [.int i] H Q:=q
theorem py_ints:∀ ns:List Int,mapO (pyN 4) (ns.map D.int) = some (ns.map PyData.int)
 | [] => rfl
 | n::ns => by
  have e:pyN 4 (D.int n) = some (PyData.int n):=rfl
  simp only [List.map_cons,mapO,e,py_ints ns]
theorem Cp.rng {g:TG3} {σ0:St3} {te:TE3} {lo:Int} {n:Nat} (F:Nat→D) (hl:n≤1000)
  (hel:∀ i:Nat,i < n→∀ (R:VK3) (H2:Hp3),Sub3 H H2→(∀ H6,Sub3 H2 H6→R (F i) H6)→g (.int (lo + (i:Int))) σ0 H2 fun σ2 H4 => te σ2 H4 R)
  (fin:∀ p,H p = none→Q (.ref p) (upd3 H p (.lst ((List.range n).map F)))):Cp g yes3 te σ0 (rng lo n) (fun _ => True) H Q :=
 Cp.map F (fun _ _ => trivial) (by rw [List.length_range]; exact hl) (fun _ a ha => hel a (List.mem_range.mp (List.mem_of_getElem? ha))) fin
end
def zipD (ds es:List D):List D:=List.zipWith (fun x y => D.tup [x,y]) ds es
section
variable {σ:St3} {H:Hp3} {a b:Addr} {ds es:List D}
theorem zipD_map {α β:Type} {f:α→D} {g:β→D}:∀ (as:List α) (bs:List β),zipD (as.map f) (bs.map g) = (as.zip bs).map fun p => D.tup [f p.1,g p.2]
 | [],_ => rfl
 | _::_,[] => rfl
 | a::as,b::bs => by
  have ih:=zipD_map (f:=f) (g:=g) as bs
  unfold zipD at ih ⊢
  rw [List.map_cons,List.map_cons,List.zipWith_cons_cons,ih,List.zip_cons_cons,List.map_cons]
def kdk (kvs:List (Str×D)) (x:D) (H:Hp3) (Q:VK3):Prop:=match x with
 | .str z => (match kvs.lookup z with
  | some d => Q d H
  | none => False)
 | _ => False
def kd3 (kvs:List (Str×D)) (te:TE3):TE3:=fun σ H Q => te σ H fun x H1 => kdk kvs x H1 Q
theorem g_kd {kvs:List (Str×D)} {te:TE3} {Q:VK3} (h:te σ H fun x H1 => kdk kvs x H1 Q):kd3 kvs te σ H Q:=h
theorem g_kdk {kvs:List (Str×D)} {z:Str} {d:D} {Q:VK3} (hl:kvs.lookup z = some d) (h:Q d H):kdk kvs (.str z) H Q:=by (delta kdk; simp only [hl]); exact h
theorem g_ixK {ds:List D} {i:Int} {d:D} {Q:VK3} (h:atI ds i = some d) (q:Q d H):r3ix (.ktup ds) (.int i) H Q:=by (delta r3ix; simp only [h]); exact q
def irk (x:D) (H:Hp3) (R:List D→(Hp3→Prop)→Hp3→Prop):Prop:=match x with
 | .str z => z.length≤sizeLine∧R (lets z).reverse (fun _ => True) H
 | _ => False
def irv (te:TE3):TI3:=fun σ H R => te σ H fun x H1 => irk x H1 R
theorem g_irv {te:TE3} {R:List D→(Hp3→Prop)→Hp3→Prop} (h:te σ H fun x H1 => irk x H1 R):irv te σ H R:=h
theorem g_irk {z:Str} {R:List D→(Hp3→Prop)→Hp3→Prop} (hz:z.length≤sizeLine) (h:R (lets z).reverse (fun _ => True) H):irk (.str z) H R:=⟨hz,h⟩
def asc (z:Str):Prop:=z.cps.all (· < 128) = true
def tzk (x y:D) (H:Hp3) (R:List D→(Hp3→Prop)→Hp3→Prop):Prop:=match x,y with
 | .str z,.ref a => (match H a with
  | some (.lst ds) => asc z∧R (zipD (lets z) ds) (fun H' => H' a = some (.lst ds)) H
  | _ => False)
 | _,_ => False
def itz (ta tb:TE3):TI3:=fun σ H R => ta σ H fun x H1 => tb σ H1 fun y H2 => tzk x y H2 R
theorem g_itz {ta tb:TE3} {R:List D→(Hp3→Prop)→Hp3→Prop} (h:ta σ H fun x H1 => tb σ H1 fun y H2 => tzk x y H2 R):itz ta tb σ H R:=h
theorem g_tzk {z:Str} {R:List D→(Hp3→Prop)→Hp3→Prop} (ha:H a = some (.lst ds)) (hz:asc z) (h:R (zipD (lets z) ds) (fun H' => H' a = some (.lst ds)) H):tzk (.str z) (.ref a) H R:=by
 (delta tzk; simp only [ha]); exact ⟨hz,h⟩
end
end L3
namespace L3
open PySem PySem.Spec PyProof.Rows L2
section
variable {X:Cx}
theorem CMulW.ok {i j:Int} (h:CMulW i j):IntMulOk i j:=by
 rcases h with h | ⟨m,n,h1,h2,h3⟩
 ·exact h.ok
 ·exact IntMulOk.of_le (intBits_le_iff.mpr h1) (intBits_le_iff.mpr h2) h3
theorem Bt.log {j:Int} (h:Bt 8999 j):j.natAbs.log2 < 9000:=by
 by_cases h0:j.natAbs = 0
 ·rw [h0]; decide +kernel
 ·have:=(Nat.log2_lt h0).mpr h
  omega
theorem op3_mulW:OpR X (binaryOp .Mult) (lift2 X.K i3mulW):=op3_of (opI fun _ _ _ _ _ _ _ hc q => mul_int q (CMulW.ok hc)) fun _ _ _ => .int _
theorem op3_fdivW:OpR X (binaryOp .FloorDiv) (lift2 X.K i3divW):=op3_of (opI fun i j _ _ _ _ _ hc q => by
 have h1:(0:Int) < j:=hc.1
 exact floordiv_int (by omega) (by rw [Int.fdiv_eq_ediv_of_nonneg i (by omega)]; exact q) (.inl (PyProof.noPylong_of_log2 (Bt.log hc.2)))) fun _ _ _ => .int _
theorem op3_fdivN:OpR X (binaryOp .FloorDiv) (lift2 X.K i3divN):=op3_of (opI fun i j _ _ _ _ _ hc q => floordiv_int hc.1 q (.inl (PyProof.noPylong_of_log2 (Bt.log hc.2)))) fun _ _ _ => .int _
theorem op3_modN:OpR X (binaryOp .Mod) (lift2 X.K i3modN):=op3_of op_modN fun _ _ _ => .int _
theorem cb3_abs:CallR X (.builtin "abs") (liftC X.K r3abs):=by
 intro pins s σ H xs us Q I rs t
 obtain ⟨ds,H3,Q3,hr,rd,t,k⟩:=t
 cases rd with
 | nil => exact t.elim
 | cons r1 r2 =>
  cases r2 with
  | cons _ _ => cases r1 <;> exact t.elim
  | nil =>
   cases r1 with
   | int i => exact call_abs pins s σ H _ us Q I rs ⟨i,rfl,k _ _ _ _ TK.refl hr (.int _) t⟩
   | _ => exact t.elim
end
end L3
namespace L3
open PySem PySem.Spec PyProof.Rows L2
section
variable {X:Cx} {pins:List (Addr×Obj)} {σ:St} {H:Hp} {s:Shared} {h':Heap}
theorem turnedNew {t':Nat} {ch:List Addr} {T:Addr} {o:HO} (I:L2.Inv X pins σ H s) (k:∀ b u,b∉ch→s.heap.get? b = some u→h'.get? b = some u)
  (hf:∀ b∈ch,FpOk X pins H b) (hp:s.heap.objs.size≤T) (new:ObjOk X.prog X.w (upd H T o) h' T o):L2.Inv X pins σ (upd H T o) { s with heap:=h',toks:=t' }:=by
 have hn:H T = none:=I.hok.fresh hp
 refine I.step (g':=s.gens) (d':=s.drawn) (ch:=ch) (fun b hb => ?_) (fun b u _ _ hc e _ => k b u hc e) (fun b u _ _ hc e _ => ⟨u.slots,k b u hc e⟩)
  (fun b u _ e n => by rw [upd_ne (Nat.ne_of_lt (Nat.lt_of_lt_of_le (Heap.lt_size e) hp))]; exact n) (fun b u hc e => ⟨u,k b u hc e⟩)
  (fun b xs q => by rw [upd_ne (ne_of_none q hn)]; exact q) (fun b u xs q => by rw [upd_ne (ne_of_none q hn)]; exact q) (fun b ps q => ⟨#[],by rw [upd_ne (ne_of_none q hn),q]; simp⟩) (fun m hm => ?_) (fun b u e => ?_) I.bare
 ·obtain ⟨f0,f1,f2,f3,f4,f5⟩:=hf b hb
  exact ⟨f3,f1,f4,f5⟩
 ·obtain ⟨u,es,ep,hu,r⟩:=hm
  exact ⟨u,es,ep,k _ u (fun z => (hf _ z).2.1 rfl) hu,r⟩
 ·by_cases hb:b = T
  ·subst hb; rw [upd_same] at e; cases e; exact new
  ·rw [upd_ne hb] at e
   refine (I.hok b u e).stay (fun c v hc q => k c v (fun z => ?_) q) (fun c q => by rw [upd_ne (ne_of_none q hn)]; exact q) fun c xs q => by rw [upd_ne (ne_of_none q hn)]; exact q
   have f0:=(hf c z).1
   rcases hc with rfl | hc
   ·rw [f0] at e; cases e
   ·rw [f0] at hc; cases hc
theorem turnedL {t':Nat} {ch:List Addr} (I:L2.Inv X pins σ H s) (k:∀ b u,b∉ch→s.heap.get? b = some u→h'.get? b = some u)
  (hf:∀ b∈ch,FpOk X pins H b):L2.Inv X pins σ H { s with heap:=h',toks:=t' }:=by
 refine I.step (g':=s.gens) (d':=s.drawn) (ch:=ch) (fun b hb => ?_) (fun b u _ _ hc e _ => k b u hc e) (fun b u _ _ hc e _ => ⟨u.slots,k b u hc e⟩)
  (fun b u _ e n => n) (fun b u hc e => ⟨u,k b u hc e⟩)
  (fun b xs q => q) (fun b u xs q => q) (fun b ps q => ⟨#[],by rw [q]; simp⟩) (fun m hm => ?_) (fun b u e => ?_) I.bare
 ·obtain ⟨f0,f1,f2,f3,f4,f5⟩:=hf b hb
  exact ⟨f3,f1,f4,f5⟩
 ·obtain ⟨u,es,ep,hu,r⟩:=hm
  exact ⟨u,es,ep,k _ u (fun z => (hf _ z).2.1 rfl) hu,r⟩
 ·refine (I.hok b u e).stay (fun c v hc q => k c v (fun z => ?_) q) (fun c q => q) fun c xs q => q
  have f0:=(hf c z).1
  rcases hc with rfl | hc
  ·rw [f0] at e; cases e
  ·rw [f0] at hc; cases hc
end
section
variable {X:Cx} {tg:Expr}
theorem boot_zip:bootBuiltins "zip" = some (.type "zip"):=by rfl
end
end L3
namespace L3
open PySem PySem.Spec PyProof.Rows L2
theorem Vals.snoc1 {xs:List V} {us:List Value} {x:V} {u:Value} (h:Vals xs us) (r:RelV x u):Vals (xs++[x]) (us++[u]):=Paired.snoc h r
section
variable {X:Cx}
theorem boot_reversed:bootBuiltins "reversed" = some (.type "reversed"):=by rfl
theorem boot_list:bootBuiltins "list" = some (.type "list"):=by rfl
end
end L3
namespace L3
open PySem PySem.Spec PyProof.Rows L2
inductive RepK (K:PySem.W.Frag):D→Value→Prop
 | str (x:Str) (t:Tok):RepK K (.str x) (.str x t)
 | int (i:Int) (t:Tok):RepK K (.int i) (.int i t)
 | tupI {a:Addr} {ns:List Int}:KTp K a (ns.map V.int)→RepK K (.ktup (ns.map D.int)) (.ref a)
theorem RepK.rep {K:PySem.W.Frag} {H:Hp} {d:D} {v:Value} (r:RepK K d v):∃ y,RelV y v∧Rep K H d y:=by
 cases r with
 | str x t => exact ⟨.str x,⟨t,rfl⟩,.str x⟩
 | int i t => exact ⟨.int i,⟨t,rfl⟩,.int i⟩
 | tupI h => exact ⟨.ref _,rfl,.ktup h (RepL.ints _)⟩
inductive EntR (w:World) (K:PySem.W.Frag):List DictEntry→List (Str×D)→Prop
 | nil:EntR w K [] []
 | cons {k:Str} {d:D} {t:Tok} {v:Value} {es:List DictEntry} {kvs:List (Str×D)}:RepK K d v→EntR w K es kvs→EntR w K (⟨hashStr w k,.str k t,v⟩::es) ((k,d)::kvs)
structure DC (K:PySem.W.Frag) (w:World) (a:Addr) (kvs:List (Str×D)):Prop where
 ob:∃ o es ep,K.lookup a = some o∧o.ExactDict∧o.data = .dict es ep∧EntR w K es.toList kvs
 nd:(kvs.map (·.1)).Nodup
 ns:(a == sysModules) = false
theorem EntR.pairs {P:Program} {w:World} {K:PySem.W.Frag}:∀ {es:List DictEntry} {kvs:List (Str×D)},EntR w K es kvs→∃ vs:List (Key×Value),Pairs (mixKind P w) es vs∧vs.map (·.1) = kvs.map (fun p => (Sum.inr p.1:Key)) ∧
  (∀ e∈es,∃ k,(mixKind P w).is k e.key = true∧e.hash = (mixKind P w).hash k)∧(∀ z d,kvs.lookup z = some d→∃ v,valueAt vs (.inr z) = some v∧RepK K d v)∧∀ z,kvs.lookup z = none→valueAt vs (.inr z) = none
 | _,_,.nil => ⟨[],.nil,rfl,by simp,by simp,fun z _ => rfl⟩
 | _,_,.cons (k:=k) (d:=d) (t:=t) (v:=v) r h => by
  obtain ⟨vs,h1,h2,h3,h4,h5⟩:=EntR.pairs (P:=P) h
  refine ⟨(.inr k,v)::vs,.cons (mixKind_str P w k t) rfl h1,by rw [List.map_cons,h2]; rfl,?_,?_,?_⟩
  ·intro e he
   rcases List.mem_cons.mp he with rfl | he
   ·exact ⟨.inr k,mixKind_str P w k t,rfl⟩
   ·exact h3 e he
  ·intro z dz hz
   by_cases e:z = k
   ·subst e
    rw [List.lookup_cons,beq_self_eq_true] at hz
    cases hz
    exact ⟨v,by unfold valueAt; rw [List.find?_cons_of_pos (by simp)]; rfl,r⟩
   ·have hb:(z == k) = false:=beq_eq_false_iff_ne.mpr e
    rw [List.lookup_cons,hb] at hz
    obtain ⟨v',q1,q2⟩:=h4 z dz hz
    refine ⟨v',?_,q2⟩
    unfold valueAt at q1 ⊢
    rw [List.find?_cons_of_neg (by simp; exact fun q => e q.symm)]
    exact q1
  ·intro z hz
   have e:z≠k:=by
    rintro rfl
    rw [List.lookup_cons,beq_self_eq_true] at hz
    cases hz
   have hb:(z == k) = false:=beq_eq_false_iff_ne.mpr e
   rw [List.lookup_cons,hb] at hz
   have q1:=h5 z hz
   unfold valueAt at q1 ⊢
   rw [List.find?_cons_of_neg (by simp; exact fun q => e q.symm)]
   exact q1
theorem DC.dict {K:PySem.W.Frag} {P:Program} {w:World} {a:Addr} {kvs:List (Str×D)} {h:Heap} (c:DC K w a kvs) (hk:K.In h):∃ vs:List (Key×Value),h.DictOf (mixKind P w) a vs∧(∀ z d,kvs.lookup z = some d→∃ v,valueAt vs (.inr z) = some v∧RepK K d v)∧∀ z,kvs.lookup z = none→valueAt vs (.inr z) = none:=by
 obtain ⟨o,es,ep,h1,h2,h3,h4⟩:=c.ob
 obtain ⟨vs,p1,p2,p3,p4,p5⟩:=EntR.pairs (P:=P) h4
 refine ⟨vs,⟨o,es,ep,hk a o h1,h2,h3,fun e he => p3 e (by simpa using he),p1,?_⟩,p4,p5⟩
 rw [p2]
 have:=c.nd
 rw [List.nodup_iff_pairwise_ne,List.pairwise_map] at this ⊢
 exact this.imp fun h q => h (Sum.inr.inj q)
section
variable {X:Cx}
def tKd (K:PySem.W.Frag) (kvs:List (Str×D)) (te:TE):TE:=fun σ H Q => te σ H fun x H1 => ∃ z d,x = .str z∧kvs.lookup z = some d∧∀ v y,RelV y v→Rep K H1 d y→Q y H1
theorem pe_kd {x:Str} {a:Addr} {kvs:List (Str×D)} {e:Expr} {te:TE} {p pos:Pos} (hg:Gl X x) (hm:X.mg x = some (.ref a)) (c:DC X.K X.w a kvs) (he:PE X e te) (hs:NoSl e) (hd:(x == ("__debug__" : Str)) = false:=by decide):PE X (.Subscript (.Name x p) e pos) (tKd X.K kvs te):=by
 intro pins s σ H Q I h
 refine subD_of PySem.F.slot_dict_getitem.lookup hs (ld_glob I hg hm (thn (he pins s σ H _ I h) fun iv s2 zz => ?_) hd)
 obtain ⟨y,H2,I2,ry,z,d,ey,hl,q2⟩:=zz
 subst ey
 obtain ⟨vs,dd,h1,_⟩:=c.dict (P:=X.prog) I2.kIn
 obtain ⟨v,hv,rk⟩:=h1 z d hl
 obtain ⟨y,ryv,rep⟩:=rk.rep (H:=H2)
 exact ⟨dd.typeIs,wpAny_getItem_of (kV_is (k:=.inr z) ry) dd.mapOf hv ⟨y,H2,I2.tok _,ryv,q2 v y ryv rep⟩⟩
theorem p3_kd {x:Str} {kvs:List (Str×D)} {e:Expr} {te:TE3} {p pos:Pos} (hg:Gl X x) (hm:∃ a,X.mg x = some (.ref a)∧DC X.K X.w a kvs) (he:PE3 X e te) (hs:NoSl e:=by exact fun _ _ => rfl) (hd:(x == ("__debug__" : Str)) = false:=by decide) :
  PE3 X (.Subscript (.Name x p) e pos) (kd3 kvs te):=by
 obtain ⟨a,hm,c⟩:=hm
 refine pe_imp (pe_kd hg hm c he hs hd) fun _ _ _ h => ?_
 obtain ⟨σ3,H3,Q3,sr,hr,t,k⟩:=h
 refine ⟨σ3,H3,_,sr,hr,t,fun x v H3a Ha tka hra rx qa => ?_⟩
 cases rx with
 | str z =>
  (delta kdk at qa; dsimp only at qa)
  split at qa
  ·rename_i d hl
   exact ⟨z,d,rfl,hl,fun v y _ rep => k _ _ _ _ tka hra rep qa⟩
  ·exact qa.elim
 | _ => exact qa.elim
end
theorem str_norev:typeLookup (.type "str") "__reversed__" = pure none:=by
 rw [typeLookup_type,builtinLookup_eq_fast]
 kernel_rfl
theorem rev_init:Slot "reversed" "__init__" "object.__init__" :=
 .of (owner := "object") (n := "__init__") (by rw [typeLookup_type,builtinLookup_eq_fast]; kernel_rfl) (by decide +kernel) (by decide +kernel) (by decide +kernel)
  (by first | exact .inl (by decide +kernel) | exact .inr (by decide +kernel)) (by rw [isSubtype_type]; kernel_rfl)
theorem rev_called:TypeCalled "reversed" "reversed.__new__" "object.__init__" :=
 ⟨by decide +kernel,by decide +kernel,⟨_,_,F.mro_reversed⟩,F.made_reversed,by decide +kernel,by rw [isSubtype_type]; kernel_rfl,rev_init⟩
theorem rev_next:Slot "reversed" "__next__" "reversed.__next__" :=
 .of (owner := "reversed") (n := "__next__") (by rw [typeLookup_type,builtinLookup_eq_fast]; kernel_rfl) (by decide +kernel) (by decide +kernel) (by decide +kernel)
  (by first | exact .inl (by decide +kernel) | exact .inr (by decide +kernel)) (by rw [isSubtype_type]; kernel_rfl)
theorem rev_next_entry:entryFor table "reversed.__next__" = some Builtin.«reversed.__next__»:=entryFor_of_tree (by kernel_rfl)
theorem rev_owner:Manifest.owners.lookup (String.ofList ['d','e','s','r','e','v','e','r'].reverse) = some Manifest.sig_reversed:=by kernel_rfl
theorem rev_next_args (a:Value):argsOk "reversed.__next__" ⟨[a],[]⟩:=by
 unfold argsOk
 rw [signature?_of (id := "reversed.__next__") (n:=['_','_','t','x','e','n','_','_']) (o:=['d','e','s','r','e','v','e','r']) (by kernel_rfl) rev_owner]
 kernel_rfl
theorem rev_iter_args (a:Value):argsOk "reversed.__iter__" ⟨[a],[]⟩:=by
 unfold argsOk
 rw [signature?_of (id := "reversed.__iter__") (n:=['_','_','r','e','t','i','_','_']) (o:=['d','e','s','r','e','v','e','r']) (by kernel_rfl) rev_owner]
 kernel_rfl
theorem rev_iter:Slot "reversed" "__iter__" "reversed.__iter__" :=
 .of (owner := "reversed") (n := "__iter__") (by rw [typeLookup_type,builtinLookup_eq_fast]; kernel_rfl) (by decide +kernel) (by decide +kernel) (by decide +kernel)
  (by first | exact .inl (by decide +kernel) | exact .inr (by decide +kernel)) (by rw [isSubtype_type]; kernel_rfl)
theorem rev_iter_entry:entryFor table "reversed.__iter__" = some Builtin.«dict_keyiterator.__iter__» :=
 entryFor_alias (id' := "dict_keyiterator.__iter__") (by kernel_rfl) (by first | rfl | decide +kernel | (unfold String.splitOn; simp +decide [String.splitOnAux])) (by decide +kernel) (by kernel_rfl)
theorem meets_rev (x:Str) (t:Tok) (hfit:¬ (x.length:Int) ≥ 2 ^ 63):Meets (Builtin.«reversed.__new__» ⟨[.type "reversed",.str x t],[]⟩) (fun _ R s => R (.ok (.ret (.ref s.heap.objs.size))) { s with heap:=s.heap.push { cls:=.type "reversed",data:=.fields #[.str x t,rawInt ((x.length:Int) - 1)] },toks:=s.toks + 1 + 1 }) :=
 .of_wp fun prog w A R s h => by
  unfold Builtin.«reversed.__new__»
  refine wpAny_bind (wpAny_of_eq (newClass_reversed _) ?_)
  try dsimp only
  refine wpAny_bind (wpAny_of_eq (a:=()) (by first | rfl | kernel_rfl) ?_)
  refine wpAny_bind (wpAny_of_eq (a:=()) (by first | rfl | kernel_rfl) ?_)
  try dsimp only
  refine wpAny_bind (wpAny_specialOf (T := "str") (v:=.str x t) rfl str_norev ?_)
  refine wpAny_bind ?_
  wp_delta
  refine wpAny_bind (wpAny_isInstance (T := "str") (v:=.str x t) (b:=false) rfl (by rw [isSubtype_type]; kernel_rfl) ?_)
  try dsimp only
  refine wpAny_bind (wpAny_specialOf (T := "str") (v:=.str x t) rfl PySem.F.slot_str_getitem.lookup ?_)
  try dsimp only
  rw [if_pos (by decide)]
  refine wpAny_pure ?_
  rw [if_neg (by decide)]
  refine wpAny_bind (len_str hfit ?_)
  refine wpAny_bind (wpAny_of_eq (a:=some _) rfl ?_)
  try dsimp only
  refine wpAny_bind ?_
  unfold Builtin.SmallTypes.newRecord
  exact wpAny_newObj_type (wpAny_pure ⟨_,rfl,h⟩)
def RevT (h:Heap) (it:Addr) (x:Str) (t:Tok) (i:Int):Prop:=h.get? it = some { cls:=.type "reversed",data:=.fields #[.str x t,rawInt i] }
section
variable {prog:Program} {w:World} {A:Around} {E:Value→Shared→Prop} {s:Shared} {x:Str} {t:Tok} {it:Addr}
theorem call_rev_text {Q:Value→Shared→Prop} (hfit:¬ (x.length:Int) ≥ 2 ^ 63) (h:Q (.ref s.heap.objs.size) { s with heap:=s.heap.push { cls:=.type "reversed",data:=.fields #[.str x t,rawInt ((x.length:Int) - 1)] },toks:=s.toks + 1 + 1 }) :
  wpAny (model prog w) A (call (.type "reversed") [.str x t]) Q E s :=
 callType_new rev_called (by decide) (F.typeCall_reversed_1 _) (F.newCall_reversed_1 _) (fun obj => F.args_object_init_2 obj _) F.entry_reversed_new (meets_rev x t hfit) ⟨⟨_,Heap.get?_push_size _ rfl,rfl⟩,h⟩
theorem rev_typeIs {i:Int} (h:RevT s.heap it x t i):s.TypeIs (.ref it) "reversed":=⟨_,h,rfl⟩
theorem rev_item {i:Nat} {c:Nat} {Q:Option Value→Shared→Prop} (hit:RevT s.heap it x t (i:Int)) (hfit:¬ (x.length:Int) ≥ 2 ^ 63) (hc:x.cps[i]? = some c)
  (hQ:∀ h' tk u,RevT h' it x t ((i:Int) - 1)→Heap.SameBut it s.heap h'→Q (some (.str ⟨#[c]⟩ u)) { s with heap:=h',toks:=tk }):wpAny (model prog w) A (pyNext (.ref it)) Q E s:=by
 have hT:=rev_typeIs hit
 have hit':s.heap.get? it = some { cls:=.type "reversed",data:=.fields #[.str x t,rawInt (i:Int)] }:=hit
 unfold pyNext
 refine wpAny_bind (wpAny_attempt (wpAny_callSpecial?_slot (name:=Str.ofString "__next__") hT rev_next (wpAny_call_entry rev_next hT rev_next_entry ?_ (rev_next_args _))))
 unfold Builtin.«reversed.__next__»
 refine wpAny_bind (wpAny_of_eq (a:=(Value.ref it,[])) rfl ?_)
 try dsimp only
 refine wpAny_bind (wpAny_field hit' rfl (x:=.str x t) rfl ?_)
 refine wpAny_bind (wpAny_field hit' rfl (x:=rawInt (i:Int)) rfl ?_)
 show wpAny _ _ (if (i:Int) < 0 then _ else _) _ _ s
 rw [if_neg (by omega)]
 refine wpAny_bind (wpAny_specialOf (T := "str") (v:=.str x t) rfl PySem.F.slot_str_getitem.lookup ?_)
 rw [if_neg (by decide)]
 have hlt:i < x.cps.size:=(Array.getElem?_eq_some_iff.mp hc).1
 have hsi:(seqIndex? (i:Int) x.length).bind (x.cps[·]?) = some c:=by
  have e:seqIndex? (i:Int) x.length = some i:=by
   unfold seqIndex?
   have h1:¬ ((i:Int) < 0):=by omega
   have h2:(i:Int) < (x.length:Int):=by show (i:Int) < (x.cps.size:Int); omega
   simp only [h1,if_false]
   rw [if_pos (by simp [h2]),Int.toNat_natCast]
  rw [e]; exact hc
 have hr:(decide ((i:Int) < -(2 ^ 63:Int)) || decide ((i:Int) ≥ 2 ^ 63)) = false:=by
  have h2:(i:Int) < (x.length:Int):=by show (i:Int) < (x.cps.size:Int); omega
  have h3:¬ ((i:Int) < -(2 ^ 63:Int)):=by omega
  have h4:¬ ((i:Int) ≥ 2 ^ 63):=by omega
  rw [decide_eq_false h3,decide_eq_false h4]; rfl
 refine wpAny_bind (wpAny_mkInt ?_)
 refine wpAny_bind (wpAny_attempt (getItem_str hr hsi ?_))
 show wpAny _ _ (field (Value.ref it) 1 >>= _) _ _ _
 refine wpAny_bind (wpAny_field (s:={ s with toks:=s.toks + 1 + 1 }) hit' rfl (x:=rawInt (i:Int)) rfl ?_)
 show wpAny _ _ (setField (Value.ref it) 1 (rawInt ((i:Int) - 1)) >>= _) _ _ _
 refine wpAny_bind (wpAny_setField_rec (s:={ s with toks:=s.toks + 1 + 1 }) hit' (by simp) fun h1 hz hs => ?_)
 exact wpAny_pure ⟨_,rfl,wpAny_pure (hQ h1 _ _ hz hs)⟩
theorem rev_end {Q:Option Value→Shared→Prop} (hh:A.handled = none) (hit:RevT s.heap it x t (-1)) (hQ:∀ h',(∀ b o,b≠it→s.heap.get? b = some o→h'.get? b = some o)→Q none { s with heap:=h' }):wpAny (model prog w) A (pyNext (.ref it)) Q E s:=by
 have hT:=rev_typeIs hit
 have hit':s.heap.get? it = some { cls:=.type "reversed",data:=.fields #[.str x t,rawInt (-1)] }:=hit
 unfold pyNext
 refine wpAny_bind (wpAny_attempt (wpAny_callSpecial?_slot (name:=Str.ofString "__next__") hT rev_next (wpAny_call_entry rev_next hT rev_next_entry ?_ (rev_next_args _))))
 unfold Builtin.«reversed.__next__»
 refine wpAny_bind (wpAny_of_eq (a:=(Value.ref it,[])) rfl ?_)
 try dsimp only
 refine wpAny_bind (wpAny_field hit' rfl (x:=.str x t) rfl ?_)
 refine wpAny_bind (wpAny_field hit' rfl (x:=rawInt (-1)) rfl ?_)
 show wpAny _ _ (if (-1:Int) < 0 then _ else _) _ _ s
 rw [if_pos (by omega)]
 refine wpAny_bind (wpAny_rule ?_)
 refine wpAny_bind ?_
 wp_delta
 refine wpAny_bind (wpAny_setField_rec hit' (by simp) fun h1 hz hs => ?_)
 refine wpAny_setField_rec (s:={ s with heap:=h1 }) hz (by simp) fun h2 hz2 hs2 => ?_
 refine wpAny_bind ?_
 show wpAny _ _ (newExc (.type "StopIteration") [] >>= _) _ _ _
 refine wpAny_bind ?_
 simp only [newExc,newTuple]
 refine wpAny_bind (wpAny_newObj_type ?_ (by size_fits))
 refine wpAny_bind (m:=firstArgMember _ _) (wpAny_of_eq (a:=Value.none) (by first | rfl | (simp only [firstArgMember]; rfl)) ?_)
 refine wpAny_newObj_type ?_ (by size_fits)
 simp only [raiseNew]
 refine wpAny_bind (wpAny_handled ?_)
 rw [show A.in1.handled = none from hh]
 refine wpAny_bind (wpAny_pure (wpAny_throw ?_))
 refine wpAny_bind (wpAny_isInstance (T := "StopIteration") (b:=true) ⟨_,Heap.get?_push_size _ rfl,rfl⟩ isSubtype_stop ?_)
 exact wpAny_pure (hQ _ fun b o hb e => Heap.get?_push_of_some _ (Heap.get?_push_of_some _ ((hs2.2 b hb).trans ((hs.2 b hb).trans e))))
theorem rev_self {i:Int} {Q:Value→Shared→Prop} (hit:RevT s.heap it x t i) (h:Q (.ref it) s):wpAny (model prog w) A (pyIter (.ref it)) Q E s:=by
 have hT:=rev_typeIs hit
 refine wpAny_pyIter_slot hT rev_iter (wpAny_call_entry rev_iter hT rev_iter_entry ?_ (rev_iter_args _))
 show wpAny _ _ (ret (.ref it)) _ _ s
 exact wpAny_pure ⟨_,rfl, "reversed",_,hT,rev_next.lookup,h⟩
end
def Itv (x:Str):It:=⟨fun i _ => i < x.cps.size,fun i H v H' => H' = H∧∃ c,x.cps[x.cps.size - 1 - i]? = some c∧v = .str ⟨#[c]⟩,fun i _ => x.cps.size≤i⟩
theorem turn_rev {P:Program} {w:World} {K:PySem.W.Frag} {tg:Expr} {x:Str} {t:Tok} (it:Addr) (hfit:¬ (x.length:Int) ≥ 2 ^ 63) :
  Turn P w K tg (Itv x) [it] it (fun i h => i≤x.cps.size∧RevT h it x t ((x.cps.size:Int) - 1 - (i:Int))) where
 mem:=List.mem_singleton.mpr rfl
 obj:=by
  rintro i h ⟨_,e⟩ b hb
  rw [List.mem_singleton.mp hb]
  exact ⟨_,e,fun v z => nomatch z⟩
 keep:=by
  rintro i h h' ⟨l,e⟩ k
  exact ⟨l,k it (List.mem_singleton.mpr rfl) _ e⟩
 item:=by
  intro X hP hw hK hc i pins s σ H E I hf st hg
  subst hP hw hK
  obtain ⟨f0,f1,f2,f3,f4,f5⟩:=hf it (List.mem_singleton.mpr rfl)
  have hlt:i < x.cps.size:=hg
  obtain ⟨_,e⟩:=st
  have ei:(x.cps.size:Int) - 1 - (i:Int) = ((x.cps.size - 1 - i:Nat):Int):=by omega
  rw [ei] at e
  have hx:x.cps[x.cps.size - 1 - i]? = some (x.cps[x.cps.size - 1 - i]'(by omega)):=Array.getElem?_eq_getElem (by omega)
  refine rev_item e hfit hx fun h' tk u e' sb => ?_
  have e2:((x.cps.size - 1 - i:Nat):Int) - 1 = (x.cps.size:Int) - 1 - ((i + 1:Nat):Int):=by omega
  rw [e2] at e'
  have I1:L2.Inv X pins σ H { s with heap:=h',toks:=tk }:=I.turned (fun b o hb q => (sb.2 b hb).trans q) f0 f1 f3 f4 f5
  exact ⟨_,rfl,go_of (s:={ s with heap:=h',toks:=tk }) e' rfl rfl (by decide) ⟨.str _,H,I1,⟨u,rfl⟩,⟨rfl,_,hx,rfl⟩,⟨hlt,e'⟩,fun b hb => (hf b hb).1⟩⟩
 done:=by
  intro X hP hw hK hc i pins s σ H E I hf st hg
  subst hP hw hK
  obtain ⟨f0,f1,f2,f3,f4,f5⟩:=hf it (List.mem_singleton.mpr rfl)
  have hi:i = x.cps.size:=Nat.le_antisymm st.1 hg
  subst hi
  have e:=st.2
  rw [show (x.cps.size:Int) - 1 - (x.cps.size:Int) = -1 from by omega] at e
  exact rev_end (I.ok.hd hc) e fun h' k => ⟨rfl,I.turned (t':=s.toks) (fun b o hb q => k b o hb q) f0 f1 f3 f4 f5⟩
 self:=fun A i s Q E st h => rev_self st.2 h
section
variable {X:Cx} {tg:Expr}
def jRev (te:TE):TI:=fun σ H R => te σ H fun x H1 => ∃ z,x = .str z∧z.length≤sizeLine∧R (Itv z) H1
theorem pj_rev {a:Expr} {ta:TE} {p pos:Pos} (hg:Gl X "reversed") (hm:X.mg "reversed" = none) (ha:PE X a ta) (hs:starEach [a] X.env = [(false,eval a X.env)]:=by rfl):PI X tg (.Call (.Name "reversed" p) [a] [] pos) (jRev ta):=by
 intro pins s σ H R I h
 refine Call_ (ld_blt I hg hm boot_reversed (PyProof.Rows.callWith_type1 ?_ hs rfl))
 rw [hs]
 refine Calls.spliced_cons (thn (ha pins s σ H _ I h) fun v s1 zz => ?_)
 obtain ⟨x,H1,I1,r1,z,ex,hz,q⟩:=zz
 subst ex
 obtain ⟨t,rfl⟩:=r1
 refine Calls.spliced_nil ?_
 have hfit:¬ (z.length:Int) ≥ 2 ^ 63:=by rw [sizeLine_n] at hz; omega
 refine call_rev_text hfit ?_
 have e0:RevT (s1.heap.push { cls:=.type "reversed",data:=.fields #[.str z t,rawInt ((z.length:Int) - 1)] }) s1.heap.objs.size z t ((z.cps.size:Int) - 1 - ((0:Nat):Int)):=by
  have e:(z.cps.size:Int) - 1 - ((0:Nat):Int) = (z.length:Int) - 1:=by show _ = (z.cps.size:Int) - 1; omega
  rw [e]
  exact Heap.get?_push_size _ rfl
 have I2:L2.Inv X pins σ H1 { s1 with heap:=s1.heap.push { cls:=.type "reversed",data:=.fields #[.str z t,rawInt ((z.length:Int) - 1)] },toks:=s1.toks + 1 + 1 }:=I1.kept fun b o e => Heap.get?_push_of_some _ e
 refine rev_self (s:={ s1 with heap:=s1.heap.push { cls:=.type "reversed",data:=.fields #[.str z t,rawInt ((z.length:Int) - 1)] },toks:=s1.toks + 1 + 1 }) e0 ?_
 refine ⟨s1.heap.objs.size,[s1.heap.objs.size],_,_,H1,rfl,I2,turn_rev _ hfit,⟨Nat.zero_le _,e0⟩,fun b hb => ?_,q⟩
 rw [List.mem_singleton.mp hb]
 exact I1.fpOk (Nat.le_refl _) (I1.hok.fresh (Nat.le_refl _))
theorem itOk_rev {K:PySem.W.Frag} {H:Hp} {z:Str}:ItOk K H (lets z).reverse (fun _ => True) (Itv z):=fun H3 H' tk hr _ => by
 have hl:(lets z).length = z.cps.size:=by unfold lets; rw [List.length_map,Array.length_toList]
 refine ⟨fun i hi => ?_,by rw [List.length_reverse,hl]; exact Nat.le_refl _⟩
 rw [List.length_reverse,hl] at hi
 refine ⟨hi,fun x H'' y => ?_⟩
 obtain ⟨e,c,hc,rfl⟩:=y
 subst e
 refine ⟨TK.refl,hr,.str ⟨#[c]⟩,?_,.str _⟩
 rw [List.getElem?_reverse (by rw [hl]; exact hi),hl]
 unfold lets
 rw [List.getElem?_map,Array.getElem?_toList,hc]
 rfl
theorem i3_rev {e:Expr} {te:TE3} {p pos:Pos} (hm:X.mg "reversed" = none) (h:PE3 X e te) (hg:Gl X "reversed":=by rfl) (hs:starEach [e] X.env = [(false,eval e X.env)]:=by rfl):PI3 X tg (.Call (.Name "reversed" p) [e] [] pos) (irv te) :=
 pi_imp (pj_rev hg hm h hs) fun _ _ _ ⟨σ3,H3,R3,sr,hr,t,k⟩ => ⟨σ3,H3,_,sr,hr,t,fun x v H3a Ha tka hra rx qa => by
  cases rx with
  | str z => exact ⟨z,rfl,qa.1,k _ _ _ _ _ tka hra itOk_rev qa.2⟩
  | _ => exact qa.elim⟩
end
end L3
namespace L3
open PySem PySem.Spec PyProof.Rows L2
end L3
namespace L3
open PySem PySem.Spec PyProof.Rows L2
end L3
namespace L3
open PySem PySem.Spec PyProof.Rows L2
structure ZAp (z TI TO i1 i2:Addr) (f1 f2:List Addr):Prop where
 TIz:TI≠z
 TOz:TO≠z
 i1z:i1≠z
 i2z:i2≠z
 TITO:TI≠TO
 TIi1:TI≠i1
 TIi2:TI≠i2
 TOi1:TO≠i1
 TOi2:TO≠i2
 i12:i1≠i2
 a1:z∉f1∧TO∉f1∧i2∉f1
 a2:z∉f2∧TO∉f2∧i1∉f2
section
variable {prog:Program} {w:World} {A:Around} {E:Value→Shared→Prop} {s:Shared}
variable {z TI TO i1 i2:Addr} {f1 f2:List Addr} {n1 n2 k:Nat} {P1 P2:Nat→Value→Prop} {S1 S2:Nat→Heap→Prop} {a b:Value}
theorem zipD_item {Q:Option Value→Shared→Prop} (D:ZAp z TI TO i1 i2 f1 f2) (D1:Draws prog w A.in1 i1 f1 n1 P1 S1) (D2:Draws prog w A.in1 i2 f2 n2 P2 S2) (h1:k < n1) (h2:k < n2)
  (hz:IsZip s.heap z TI TO .none) (hTI:IsPair s.heap TI (.ref i1) (.ref i2)) (hTO:IsPair s.heap TO a b) (st1:S1 k s.heap) (st2:S2 k s.heap)
  (hQ:∀ h' tk x y,P1 k x→P2 k y→IsZip h' z TI TO (rawInt s.heap.objs.size)→IsPair h' TO x y→S1 (k + 1) h'→S2 (k + 1) h'→IsPair h' s.heap.objs.size x y →
   (∀ c o,c≠z→c≠TO→c≠i1→c≠i2→s.heap.get? c = some o→h'.get? c = some o)→Q (some (.ref s.heap.objs.size)) { s with heap:=h',toks:=tk }) :
  wpAny (model prog w) A (pyNext (.ref z)) Q E s:=by
 have hT:s.TypeIs (.ref z) "zip":=⟨_,hz,rfl⟩
 unfold pyNext
 refine wpAny_bind (wpAny_attempt (wpAny_callSpecial?_slot (name:=Str.ofString "__next__") hT F.slot_zip_next (wpAny_call_entry F.slot_zip_next hT F.entry_zip_next ?_ (F.args_zip_next_1 _))))
 show wpAny _ _ (field (.ref z) 2 >>= _) _ _ _
 refine wpAny_bind (wpAny_field hz rfl (x:=.bool false) rfl ?_)
 show wpAny _ _ (field (.ref z) 3 >>= _) _ _ _
 refine wpAny_bind (wpAny_field hz rfl (x:=.ref TI) rfl ?_)
 refine wpAny_bind (wpAny_seqItems hTI rfl ?_)
 show wpAny _ _ (Builtin.SmallTypes.ownedTupleIsFree (.ref z) >>= _) _ _ _
 refine wpAny_bind ?_
 unfold Builtin.SmallTypes.ownedTupleIsFree
 refine wpAny_bind (wpAny_field hz rfl (x:=.none) rfl (wpAny_pure ?_))
 simp only [if_true]
 refine wpAny_bind (wpAny_rule ?_)
 refine wpAny_bind (wpAny_field hz rfl (x:=.ref TO) rfl ?_)
 refine wpAny_bind (wpAny_setField_rec hz (by simp) fun h₁ hz₁ hs₁ => ?_)
 replace hz₁:IsZip h₁ z TI TO .ellipsis:=hz₁
 refine wpAny_bind ?_
 simp only [List.zipIdx_cons,List.zipIdx_nil,List.forIn_cons,List.forIn_nil]
 have ne:∀ {c d:Addr} {f:List Addr},c∈f→d∉f→c≠d:=fun hc hd e => hd (e▸hc)
 refine wpAny_bind (wpAny_bind (wpAny_onRaise ?_))
 show wpAny _ _ (Builtin.SmallTypes.nextOf (.ref i1) >>= _) _ _ _
 have s11:S1 k h₁:=D1.frame _ _ _ st1 fun c hc o e => (hs₁.2 c (ne hc D.a1.1)).trans e
 have s21:S2 k h₁:=D2.frame _ _ _ st2 fun c hc o e => (hs₁.2 c (ne hc D.a2.1)).trans e
 refine wpAny_bind (D1.item k { s with heap:=h₁ } _ _ h1 s11 fun x h₂ tk₂ hx s12 hs₂ => wpAny_pure ?_)
 have hTO₂:IsPair h₂ TO a b:=(hs₂.2 TO D.TOi1).trans ((hs₁.2 TO D.TOz).trans hTO)
 refine wpAny_bind (wpAny_seqItems (s:={ s with heap:=h₂,toks:=tk₂ }) hTO₂ rfl ?_)
 refine wpAny_bind (wpAny_updateSeq_pair (s:={ s with heap:=h₂,toks:=tk₂ }) hTO₂ fun h₃ hTO₃ hs₃ => ?_)
 replace hTO₃:IsPair h₃ TO x b:=hTO₃
 refine wpAny_bind (wpAny_letGo (wpAny_pure ?_))
 have s13:S1 (k + 1) h₃:=D1.frame _ _ _ s12 fun c hc o e => (hs₃.2 c (ne hc D.a1.2.1)).trans e
 have s23:S2 k h₃:=D2.frame _ _ _ s21 fun c hc o e => (hs₃.2 c (ne hc D.a2.2.1)).trans ((hs₂.2 c (ne hc D.a2.2.2)).trans e)
 refine wpAny_bind (wpAny_bind (wpAny_onRaise ?_))
 show wpAny _ _ (Builtin.SmallTypes.nextOf (.ref i2) >>= _) _ _ _
 refine wpAny_bind (D2.item k { s with heap:=h₃,toks:=tk₂ } _ _ h2 s23 fun y h₄ tk₄ hy s24 hs₄ => wpAny_pure ?_)
 have hTO₄:IsPair h₄ TO x b:=(hs₄.2 TO D.TOi2).trans hTO₃
 refine wpAny_bind (wpAny_seqItems (s:={ s with heap:=h₄,toks:=tk₄ }) hTO₄ rfl ?_)
 refine wpAny_bind (wpAny_updateSeq_pair (s:={ s with heap:=h₄,toks:=tk₄ }) hTO₄ fun h₅ hTO₅ hs₅ => ?_)
 replace hTO₅:IsPair h₅ TO x y:=hTO₅
 refine wpAny_bind (wpAny_letGo (wpAny_pure (wpAny_pure ?_)))
 have s14:S1 (k + 1) h₅:=D1.frame _ _ _ s13 fun c hc o e => (hs₅.2 c (ne hc D.a1.2.1)).trans ((hs₄.2 c (ne hc D.a1.2.2)).trans e)
 have s25:S2 (k + 1) h₅:=D2.frame _ _ _ s24 fun c hc o e => (hs₅.2 c (ne hc D.a2.2.1)).trans e
 refine wpAny_bind (wpAny_seqItems (s:={ s with heap:=h₅,toks:=tk₄ }) hTO₅ rfl ?_)
 refine wpAny_bind (wpAny_newTuple ?_)
 have hsz:h₅.objs.size = s.heap.objs.size:=by rw [hs₅.1,hs₄.1,hs₃.1,hs₂.1,hs₁.1]
 have hz₅:IsZip h₅ z TI TO .ellipsis:=(hs₅.2 z D.TOz.symm).trans ((hs₄.2 z D.i2z.symm).trans ((hs₃.2 z D.TOz.symm).trans ((hs₂.2 z D.i1z.symm).trans hz₁)))
 have hk₅:∀ c o,c≠z→c≠TO→c≠i1→c≠i2→s.heap.get? c = some o→h₅.get? c = some o:=fun c o c1 c2 c3 c4 e =>
  (hs₅.2 c c2).trans ((hs₄.2 c c4).trans ((hs₃.2 c c2).trans ((hs₂.2 c c3).trans ((hs₁.2 c c1).trans e))))
 have hzlt:z < h₅.objs.size:=Heap.lt_size hz₅
 show wpAny _ _ (Builtin.SmallTypes.ownedTupleHandOut (.ref z) (.ref h₅.objs.size) >>= _) _ _ _
 refine wpAny_bind ?_
 unfold Builtin.SmallTypes.ownedTupleHandOut
 have hz₆:IsZip (h₅.push { cls:=.type "tuple",data:=.seq #[x,y] }) z TI TO .ellipsis:=Heap.get?_push_of_some _ hz₅
 refine wpAny_bind (wpAny_setField_rec (s:={ s with heap:=h₅.push { cls:=.type "tuple",data:=.seq #[x,y] },toks:=tk₄ }) hz₆ (by simp) fun h₇ hz₇ hs₇ => ?_)
 replace hz₇:IsZip h₇ z TI TO (rawInt h₅.objs.size):=hz₇
 refine wpAny_setField_rec (s:={ s with heap:=h₇,toks:=tk₄ }) hz₇ (by simp) fun h₈ hz₈ hs₈ => ?_
 replace hz₈:IsZip h₈ z TI TO (rawInt h₅.objs.size):=hz₈
 have up:∀ c o,c≠z→h₅.get? c = some o→h₈.get? c = some o:=fun c o c1 e => (hs₈.2 c c1).trans ((hs₇.2 c c1).trans (Heap.get?_push_of_some _ e))
 have hT₈:IsPair h₈ h₅.objs.size x y:=(hs₈.2 _ (Nat.ne_of_gt hzlt)).trans ((hs₇.2 _ (Nat.ne_of_gt hzlt)).trans (Heap.get?_push_size _ rfl))
 rw [hsz] at hz₈ hT₈
 refine wpAny_pure ⟨_,rfl,wpAny_pure ?_⟩
 show Q (some (.ref h₅.objs.size)) _
 rw [hsz]
 exact hQ h₈ tk₄ x y hx hy hz₈ (up _ _ D.TOz hTO₅) (D1.frame _ _ _ s14 fun c hc o e => up c o (ne hc D.a1.1) e) (D2.frame _ _ _ s25 fun c hc o e => up c o (ne hc D.a2.1) e) hT₈ fun c o c1 c2 c3 c4 e => up c o c1 (hk₅ c o c1 c2 c3 c4 e)
def Endd (prog:Program) (w:World) (A:Around) (it:Addr) (S:Heap→Prop):Prop:=∀ (s:Shared) (Q:Value→Shared→Prop) (E:Value→Shared→Prop),S s.heap →
 (∀ h' e,Heap.ExtBut it s.heap h'→(∃ o,h'.get? e = some o∧o.cls = .type "StopIteration")→E (.ref e) { s with heap:=h' })→wpAny (model prog w) A (Builtin.SmallTypes.nextOf (.ref it)) Q E s
theorem zipD_end {Q:Option Value→Shared→Prop} (D:ZAp z TI TO i1 i2 f1 f2) (fr1:∀ h h':Heap,S1 k h→(∀ b∈f1,∀ o,h.get? b = some o→h'.get? b = some o)→S1 k h') (fr2:∀ h h':Heap,S2 k h→(∀ b∈f2,∀ o,h.get? b = some o→h'.get? b = some o)→S2 k h')
  (hend:Endd prog w A.in1 i1 (S1 k)∨((k < n1∧Draws prog w A.in1 i1 f1 n1 P1 S1)∧Endd prog w A.in1 i2 (S2 k)))
  (hz:IsZip s.heap z TI TO .none) (hTI:IsPair s.heap TI (.ref i1) (.ref i2)) (hTO:IsPair s.heap TO a b) (st1:S1 k s.heap) (st2:S2 k s.heap)
  (hQ:∀ h' tk,(∀ c o,c≠z→c≠TO→c≠i1→c≠i2→s.heap.get? c = some o→h'.get? c = some o)→Q none { s with heap:=h',toks:=tk }) :
  wpAny (model prog w) A (pyNext (.ref z)) Q E s:=by
 have hT:s.TypeIs (.ref z) "zip":=⟨_,hz,rfl⟩
 unfold pyNext
 refine wpAny_bind (wpAny_attempt (wpAny_callSpecial?_slot (name:=Str.ofString "__next__") hT F.slot_zip_next (wpAny_call_entry F.slot_zip_next hT F.entry_zip_next ?_ (F.args_zip_next_1 _))))
 have fin:∀ h' e tk,(∀ c o,c≠z→c≠TO→c≠i1→c≠i2→s.heap.get? c = some o→h'.get? c = some o)→(∃ o,h'.get? e = some o∧o.cls = .type "StopIteration") →
   wpAny (model prog w) A (do let r ← isInstance (.ref e) (Value.type "StopIteration"); if r = true then pure none else throw (.ref e)) Q E { s with heap:=h',toks:=tk }:=by
  rintro h' e tk hk ⟨o,ho,hc⟩
  refine wpAny_bind (wpAny_isInstance (T := "StopIteration") (b:=true) ⟨o,ho,hc⟩ isSubtype_stop ?_)
  exact wpAny_pure (hQ h' tk hk)
 show wpAny _ _ (field (.ref z) 2 >>= _) _ _ _
 refine wpAny_bind (wpAny_field hz rfl (x:=.bool false) rfl ?_)
 show wpAny _ _ (field (.ref z) 3 >>= _) _ _ _
 refine wpAny_bind (wpAny_field hz rfl (x:=.ref TI) rfl ?_)
 refine wpAny_bind (wpAny_seqItems hTI rfl ?_)
 show wpAny _ _ (Builtin.SmallTypes.ownedTupleIsFree (.ref z) >>= _) _ _ _
 refine wpAny_bind ?_
 unfold Builtin.SmallTypes.ownedTupleIsFree
 refine wpAny_bind (wpAny_field hz rfl (x:=.none) rfl (wpAny_pure ?_))
 simp only [if_true]
 refine wpAny_bind (wpAny_rule ?_)
 refine wpAny_bind (wpAny_field hz rfl (x:=.ref TO) rfl ?_)
 refine wpAny_bind (wpAny_setField_rec hz (by simp) fun h₁ hz₁ hs₁ => ?_)
 replace hz₁:IsZip h₁ z TI TO .ellipsis:=hz₁
 refine wpAny_bind ?_
 simp only [List.zipIdx_cons,List.zipIdx_nil,List.forIn_cons,List.forIn_nil]
 have ne:∀ {c d:Addr} {f:List Addr},c∈f→d∉f→c≠d:=fun hc hd e => hd (e▸hc)
 refine wpAny_bind (wpAny_bind (wpAny_onRaise ?_))
 show wpAny _ _ (Builtin.SmallTypes.nextOf (.ref i1) >>= _) _ _ _
 have s11:S1 k h₁:=fr1 _ _ st1 fun c hc o e => (hs₁.2 c (ne hc D.a1.1)).trans e
 have s21:S2 k h₁:=fr2 _ _ st2 fun c hc o e => (hs₁.2 c (ne hc D.a2.1)).trans e
 rcases hend with hend | ⟨⟨hk1,D1⟩,hend⟩
 ·refine wpAny_bind (hend { s with heap:=h₁ } _ _ s11 fun h₂ e hs₂ he => ?_)
  obtain ⟨oe,hoe,hce⟩:=he
  have hz₂:IsZip h₂ z TI TO .ellipsis:=hs₂ _ _ D.i1z.symm hz₁
  have hez:e≠z:=fun x => by subst x; rw [hz₂] at hoe; cases hoe; simp at hce
  refine wpAny_setField_rec (s:={ s with heap:=h₂ }) hz₂ (by simp) fun h₃ _ hs₃ => ?_
  exact fin h₃ e s.toks (fun c o c1 _ c3 _ x => (hs₃.2 c c1).trans (hs₂ c o c3 ((hs₁.2 c c1).trans x))) ⟨oe,(hs₃.2 e hez).trans hoe,hce⟩
 ·refine wpAny_bind (D1.item k { s with heap:=h₁ } _ _ hk1 s11 fun x h₂ tk₂ hx s12 hs₂ => wpAny_pure ?_)
  have hTO₂:IsPair h₂ TO a b:=(hs₂.2 TO D.TOi1).trans ((hs₁.2 TO D.TOz).trans hTO)
  refine wpAny_bind (wpAny_seqItems (s:={ s with heap:=h₂,toks:=tk₂ }) hTO₂ rfl ?_)
  refine wpAny_bind (wpAny_updateSeq_pair (s:={ s with heap:=h₂,toks:=tk₂ }) hTO₂ fun h₃ hTO₃ hs₃ => ?_)
  refine wpAny_bind (wpAny_letGo (wpAny_pure ?_))
  have s23:S2 k h₃:=fr2 _ _ s21 fun c hc o e => (hs₃.2 c (ne hc D.a2.2.1)).trans ((hs₂.2 c (ne hc D.a2.2.2)).trans e)
  refine wpAny_bind (wpAny_bind (wpAny_onRaise ?_))
  show wpAny _ _ (Builtin.SmallTypes.nextOf (.ref i2) >>= _) _ _ _
  refine wpAny_bind (hend { s with heap:=h₃,toks:=tk₂ } _ _ s23 fun h₄ e hs₄ he => ?_)
  obtain ⟨oe,hoe,hce⟩:=he
  have hz₄:IsZip h₄ z TI TO .ellipsis:=hs₄ _ _ D.i2z.symm ((hs₃.2 z D.TOz.symm).trans ((hs₂.2 z D.i1z.symm).trans hz₁))
  have hez:e≠z:=fun x => by subst x; rw [hz₄] at hoe; cases hoe; simp at hce
  refine wpAny_setField_rec (s:={ s with heap:=h₄,toks:=tk₂ }) hz₄ (by simp) fun h₅ _ hs₅ => ?_
  exact fin h₅ e tk₂ (fun c o c1 c2 c3 c4 x => (hs₅.2 c c1).trans (hs₄ c o c4 ((hs₃.2 c c2).trans ((hs₂.2 c c3).trans ((hs₁.2 c c1).trans x))))) ⟨oe,(hs₅.2 e hez).trans hoe,hce⟩
end
def aIt (x:Str) (t:Tok):Obj:={ cls:=.type "str_ascii_iterator",data:=.fields #[.str x t,.int 0 0] }
def lIt (l:Addr):Obj:={ cls:=.type "list_iterator",data:=.fields #[.ref l,.int 0 0] }
abbrev zh2 (h:Heap) (o1 o2:Obj):Heap:=(h.push o1).push o2
abbrev zh3 (h:Heap) (o1 o2:Obj):Heap:=(zh2 h o1 o2).push { cls:=.type "tuple",data:=.seq #[.ref h.objs.size,.ref (h.push o1).objs.size] }
abbrev zh4 (h:Heap) (o1 o2:Obj):Heap:=(zh3 h o1 o2).push { cls:=.type "tuple",data:=.seq #[.none,.none] }
abbrev zh5 (h:Heap) (o1 o2:Obj):Heap:=(zh4 h o1 o2).push { cls:=.type "zip",data:=.fields #[.none,.bool false,.bool false,.ref (zh2 h o1 o2).objs.size,.ref (zh3 h o1 o2).objs.size] }
set_option maxHeartbeats 4000000 in
theorem meets_zip_tl (l:Addr) (xs:Array Value) (x:Str) (t:Tok) (ha:x.cps.all (· < 128) = true) :
  Meets (Builtin.«zip.__new__» ⟨[.type "zip",.str x t,.ref l],[]⟩) (fun _ R s => s.heap.IsList l xs∧R (.ok (.ret (.ref (zh4 s.heap (aIt x t) (lIt l)).objs.size))) { s with heap:=zh5 s.heap (aIt x t) (lIt l) }) :=
 .of_wp fun prog w A R s h => by
  obtain ⟨hp,g,d,tk,os⟩:=s
  obtain ⟨hl,h⟩:=h
  have hsub:=sub_zip
  have hL:Heap.IsList (Shared.heap ⟨hp.push { cls:=.type "str_ascii_iterator",data:=.fields #[.str x t,.int 0 0] },g,d,tk,os⟩) l xs:=Heap.IsList.push hl _
  wp_walk using wpAny_pyIter_ascii ha,wpAny_pyIter_list hL
  exact ⟨_,rfl,h⟩
theorem zh_at (h:Heap) (o1 o2:Obj) (f1:o1.isFreed = false) (f2:o2.isFreed = false):let n:=h.objs.size
  (zh4 h o1 o2).objs.size = n + 4∧IsZip (zh5 h o1 o2) (n + 4) (n + 2) (n + 3) .none∧IsPair (zh5 h o1 o2) (n + 2) (.ref n) (.ref (n + 1))∧IsPair (zh5 h o1 o2) (n + 3) .none .none∧(zh5 h o1 o2).get? n = some o1∧(zh5 h o1 o2).get? (n + 1) = some o2∧∀ c o,h.get? c = some o→(zh5 h o1 o2).get? c = some o:=by
 intro n
 have z1:(h.push o1).objs.size = n + 1:=Heap.size_push ..
 have z2:(zh2 h o1 o2).objs.size = n + 2:=by rw [Heap.size_push,z1]
 have z3:(zh3 h o1 o2).objs.size = n + 3:=by rw [Heap.size_push,z2]
 have z4:(zh4 h o1 o2).objs.size = n + 4:=by rw [Heap.size_push,z3]
 have g5:(zh5 h o1 o2).get? (zh4 h o1 o2).objs.size = some _:=Heap.get?_push_size _ rfl
 have g4:(zh5 h o1 o2).get? (zh3 h o1 o2).objs.size = some _:=Heap.get?_push_of_some _ (Heap.get?_push_size _ rfl)
 have g3:(zh5 h o1 o2).get? (zh2 h o1 o2).objs.size = some _:=Heap.get?_push_of_some _ (Heap.get?_push_of_some _ (Heap.get?_push_size _ rfl))
 have g2:(zh5 h o1 o2).get? (h.push o1).objs.size = some o2:=Heap.get?_push_of_some _ (Heap.get?_push_of_some _ (Heap.get?_push_of_some _ (Heap.get?_push_size _ f2)))
 have g1:(zh5 h o1 o2).get? h.objs.size = some o1:=Heap.get?_push_of_some _ (Heap.get?_push_of_some _ (Heap.get?_push_of_some _ (Heap.get?_push_of_some _ (Heap.get?_push_size _ f1))))
 rw [z2,z3,z4] at g5
 rw [z1,z2] at g3
 rw [z3] at g4
 rw [z1] at g2
 exact ⟨z4,g5,g3,g4,g1,g2,fun c o x => Heap.get?_push_of_some _ (Heap.get?_push_of_some _ (Heap.get?_push_of_some _ (Heap.get?_push_of_some _ (Heap.get?_push_of_some _ x))))⟩
theorem ltn {l n:Nat} (h:l < n):n + 4≠l∧n + 3≠l∧n + 1≠l∧n≠l:=by grind
theorem nm1 {x a:Nat} (h:x≠a):x∉[a]:=by simp [h]
theorem nm2 {x a b:Nat} (h:x≠a) (g:x≠b):x∉[a,b]:=by simp [h,g]
def Itz_tl (K:PySem.W.Frag) (a:Addr) (x:Str):It :=
 ⟨fun i H => ∃ xs v c,SqL K H a xs∧xs[i]? = some v∧x.cps[i]? = some c,
   fun i H y H' => ∃ T v c,y = .ref T∧H T = none∧H' = upd H T (.tup [.str ⟨#[c]⟩,v])∧x.cps[i]? = some c∧∀ xs,SqL K H a xs→xs[i]? = some v,
   fun i H => ∃ xs,SqL K H a xs∧(xs.length≤i∨x.cps.size≤i)⟩
theorem turn_zip_tl {P:Program} {w:World} {K:PySem.W.Frag} {elts:List Expr} {kt:Nat} {pt:Pos} {x:Str} {t:Tok} (z TI TO i1 i2 a:Addr) (D:ZAp z TI TO i1 i2 [i1] [i2,a]) (hai:a≠i2) :
  Turn P w K (.Tuple elts kt pt) (Itz_tl K a x) [z,TI,TO,i1,i2] z (fun i h => IsZip h z TI TO .none∧IsPair h TI (.ref i1) (.ref i2)∧(∃ u v,IsPair h TO u v)∧h.IsListIter i2 a i∧i≤x.cps.size∧h.IsStrIter i1 "str_ascii_iterator" x t i) where
 mem:=by simp
 obj:=by
  rintro i h ⟨h1,h2,⟨u,v,h3⟩,⟨o4,h4,c4,d4⟩,_,⟨o5,h5,c5,d5⟩⟩ c hc
  simp only [List.mem_cons,List.not_mem_nil,or_false] at hc
  rcases hc with rfl | rfl | rfl | rfl | rfl
  ·exact ⟨_,h1,fun v z => nomatch z⟩
  ·exact ⟨_,h2,fun v z => nomatch z⟩
  ·exact ⟨_,h3,fun v z => nomatch z⟩
  ·first
   | exact ⟨_,h4,fun v z => by rw [d4] at z; cases z⟩
   | exact ⟨_,h5,fun v z => by rw [d5] at z; cases z⟩
  ·first
   | exact ⟨_,h4,fun v z => by rw [d4] at z; cases z⟩
   | exact ⟨_,h5,fun v z => by rw [d5] at z; cases z⟩
 keep:=by
  rintro i h h' ⟨h1,h2,⟨u,v,h3⟩,h4,hi,⟨o5,h5,r5⟩⟩ k
  exact ⟨k z (by simp) _ h1,k TI (by simp) _ h2,⟨u,v,k TO (by simp) _ h3⟩,h4.at fun o e => k i2 (by simp) o e,hi,o5,k i1 (by simp) o5 h5,r5⟩
 item:=by
  intro X hP hw hK hc i pins s σ H E I hf st hg
  subst hP hw hK
  obtain ⟨xs,v,c,hq,hxv,hcx⟩:=hg
  obtain ⟨h1,h2,⟨u0,v0,h3⟩,h4,_,h5⟩:=st
  obtain ⟨its,rv,pl,hz⟩:=I.list hq
  obtain ⟨u,hu,ru⟩:=rv.get hxv
  have hh:=I.ok.hd hc
  have hlv:i < its.length:=(List.getElem?_eq_some_iff.mp hu).1
  have hct:i < x.cps.size:=(Array.getElem?_eq_some_iff.mp hcx).1
  have hT:H s.heap.objs.size = none:=I.hok.fresh (Nat.le_refl _)
  refine zipD_item (k:=i) (f1:=[i1]) (f2:=[i2,a]) (S1:=fun i h => h.IsStrIter i1 "str_ascii_iterator" x t i) (S2:=fun i h => h.IsListIter i2 a i∧h.IsList a its.toArray) D (Draws.strAscii (prog:=X.prog) (w:=X.w) (A:=X.A.in1) hh i1 x t) (Draws.list (prog:=X.prog) (w:=X.w) (A:=X.A.in1) hh i2 a hai its.toArray) hct (by simp; grind) h1 h2 h3 h5 ⟨h4,pl.isList⟩ fun h' tk y1 y2 hy1 hy2 a1 a2 sa sb a5 a7 => ?_
  refine ⟨_,rfl,?_⟩
  refine wpAny_letOwnedTupleGo_zip (s:={ s with heap:=h',toks:=tk }) a1 fun h'' b1 b2 => ?_
  have lt:∀ {c o},s.heap.get? c = some o→s.heap.objs.size≠c:=fun e => Nat.ne_of_gt (Heap.lt_size e)
  obtain ⟨c',u',hc',rfl⟩:=hy1
  have ec:c' = c:=Option.some.inj (hc'.symm.trans hcx)
  subst ec
  have eu:y2 = u:=by
   have q:=hy2
   simp only [List.getElem?_toArray] at q
   exact Option.some.inj (q.symm.trans hu)
  subst eu
  have new:h''.get? s.heap.objs.size = some { cls:=.type "tuple",data:=.seq #[.str ⟨#[c']⟩ u',y2] }:=(b2.2 _ (lt h1)).trans a5
  have I1:L2.Inv X pins σ (upd H s.heap.objs.size (.tup [.str ⟨#[c']⟩,v])) { s with heap:=h'',toks:=tk }:=by
   refine turnedNew (ch:=[z,TI,TO,i1,i2]) I (fun c o hcn e => ?_) hf (Nat.le_refl _) ⟨?_,[.str ⟨#[c']⟩ u',y2],.cons ⟨_,rfl⟩ (.cons ru .nil),⟨_,new,rfl,_,rfl,rfl⟩⟩
   ·have n1:c≠z:=fun w => hcn (by simp [w])
    exact (b2.2 c n1).trans (a7 c o n1 (fun w => hcn (by simp [w])) (fun w => hcn (by simp [w])) (fun w => hcn (by simp [w])) e)
   ·show 2≤sizeLine; decide
  refine ⟨.ref s.heap.objs.size,_,I1,rfl,⟨_,v,c',rfl,hT,rfl,hcx,fun xs' q1 => by rw [I.list_inj q1 hq]; exact hxv⟩,⟨b1,?_,⟨_,_,(b2.2 TO D.TOz).trans a2⟩,?_,hct,?_⟩,fun d hdm => ?_⟩
  ·exact (b2.2 TI D.TIz).trans (a7 TI _ D.TIz D.TITO D.TIi1 D.TIi2 h2)
  ·exact (sb).1.at fun o e => (b2.2 i2 D.i2z).trans e
  ·obtain ⟨o,e,r⟩:=sa
   exact ⟨o,(b2.2 i1 D.i1z).trans e,r⟩
  ·have hcn:H d = none:=(hf d hdm).1
   have:d≠s.heap.objs.size:=by
    obtain ⟨o,e,_⟩:∃ o,s.heap.get? d = some o∧True:=by
     simp only [List.mem_cons,List.not_mem_nil,or_false] at hdm
     obtain ⟨o4,e4,_⟩:=h4
     obtain ⟨o5,e5,_⟩:=h5
     rcases hdm with rfl | rfl | rfl | rfl | rfl
     ·exact ⟨_,h1,trivial⟩
     ·exact ⟨_,h2,trivial⟩
     ·exact ⟨_,h3,trivial⟩
     ·first | exact ⟨_,e4,trivial⟩ | exact ⟨_,e5,trivial⟩
     ·first | exact ⟨_,e4,trivial⟩ | exact ⟨_,e5,trivial⟩
    exact (lt e).symm
   rw [upd_ne this]; exact hcn
 done:=by
  intro X hP hw hK hc i pins s σ H E I hf st hg
  subst hP hw hK
  obtain ⟨xs,hq,hx⟩:=hg
  obtain ⟨h1,h2,⟨u0,v0,h3⟩,h4,hi,h5⟩:=st
  obtain ⟨its,rv,pl,hz⟩:=I.list hq
  have hl:=rv.length
  have hh:=I.ok.hd hc
  have DL:=Draws.list (prog:=X.prog) (w:=X.w) (A:=X.A.in1) hh i2 a hai its.toArray
  have DT:=Draws.strAscii (prog:=X.prog) (w:=X.w) (A:=X.A.in1) hh i1 x t
  have endL:its.length≤i→Endd X.prog X.w X.A.in1 i2 ((fun i h => h.IsListIter i2 a i∧h.IsList a its.toArray) i):=fun hle s' Q E' st' hE => wpAny_nextOf_list_end hh st'.1 st'.2 (by simp; grind) hE
  have endT:x.cps.size≤i→Endd X.prog X.w X.A.in1 i1 ((fun i h => h.IsStrIter i1 "str_ascii_iterator" x t i) i):=fun hle s' Q E' st' hE => by
   have e:i = x.cps.size:=Nat.le_antisymm hi hle
   subst e
   exact DT.done s' Q E' st' hE
  refine zipD_end (k:=i) (P1:=fun i v => ∃ c u,x.cps[i]? = some c∧v = .str ⟨#[c]⟩ u) (f1:=[i1]) (f2:=[i2,a]) (n1:=x.cps.size) (S1:=fun i h => h.IsStrIter i1 "str_ascii_iterator" x t i) (S2:=fun i h => h.IsListIter i2 a i∧h.IsList a its.toArray) D (fun _ _ q k => DT.frame i _ _ q k) (fun _ _ q k => DL.frame i _ _ q k) ?_ h1 h2 h3 h5 ⟨h4,pl.isList⟩ fun h' tk k => ⟨rfl,?_⟩
  ·by_cases hle:x.cps.size≤i
   ·exact .inl (endT hle)
   ·exact .inr ⟨⟨by grind,DT⟩,endL (by grind)⟩
  ·exact turnedL (t':=tk) (ch:=[z,TI,TO,i1,i2]) I (fun c o hcn e => k c o (fun w => hcn (by simp [w])) (fun w => hcn (by simp [w])) (fun w => hcn (by simp [w])) (fun w => hcn (by simp [w])) e) hf
 self:=fun A i s Q E st h => wpAny_pyIter_zip st.1 h
section
variable {X:Cx} {tg:Expr}
theorem call_zip_tl {prog:Program} {w:World} {A:Around} {E:Value→Shared→Prop} {s:Shared} {l:Addr} {xs:Array Value} {x:Str} {t:Tok} {Q:Value→Shared→Prop} (ha:x.cps.all (· < 128) = true) (hl:s.heap.IsList l xs)
  (h:Q (.ref (s.heap.objs.size + 4)) { s with heap:=zh5 s.heap (aIt x t) (lIt l) }):wpAny (model prog w) A (call (.type "zip") [.str x t,.ref l]) Q E s:=by
 refine callType_new F.called_zip (by decide) (F.typeCall_zip_2 _ _) (F.newCall_zip_2 _ _) (fun obj => F.args_object_init_3 obj _ _) F.entry_zip_new (meets_zip_tl l xs x t ha) ⟨hl,?_⟩
 obtain ⟨z4,g5,_⟩:=zh_at s.heap (aIt x t) (lIt l) rfl rfl
 show _∧_
 rw [z4]
 exact ⟨⟨_,g5,rfl⟩,h⟩
def jZip_tl (K:PySem.W.Frag) (ta:TA):TI:=fun σ H R => ta σ H fun vs H1 => ∃ l x,vs = [.str x,.ref l]∧x.cps.all (· < 128) = true∧(∃ xs,SqL K H1 l xs)∧R (Itz_tl K l x) H1
theorem pj_zip_tl {a b:Expr} {ta:TA} {p pos pt:Pos} {elts:List Expr} {kt:Nat} (hg:Gl X "zip") (hm:X.mg "zip" = none) (ha:PA X [a,b] ta) (hs:starEach [a,b] X.env = [(false,eval a X.env),(false,eval b X.env)]:=by rfl) (hs2:starEach [b] X.env = [(false,eval b X.env)]:=by rfl) :
  PI X (.Tuple elts kt pt) (.Call (.Name "zip" p) [a,b] [] pos) (jZip_tl X.K ta):=by
 intro pins s σ H R I h
 refine Call_ (ld_blt I hg hm boot_zip (PyProof.Rows.callWith_type1 (thn (ha pos pins s σ H _ I h) fun us s1 ⟨vs,H1,I1,r1,l,x,e,hx,⟨xs,hq⟩,q⟩ => ?_) (by rw [hs,hs2]) (by rw [hs2]; rfl)))
 subst e
 obtain ⟨u,u',rfl,e1,e2⟩:=vals2 r1
 obtain ⟨t,rfl⟩:=e1
 cases e2
 obtain ⟨its,rv,pl,hz⟩:=I1.list hq
 have a1:l < s1.heap.objs.size:=by obtain ⟨_,e,_⟩:=pl.isList; exact Heap.lt_size e
 refine call_zip_tl hx pl.isList ?_
 obtain ⟨z4,g5,g3,g4,g1,g2,hk⟩:=zh_at s1.heap (aIt x t) (lIt l) rfl rfl
 generalize hn:s1.heap.objs.size = n at *
 refine wpAny_pyIter_zip (s:={ s1 with heap:=zh5 s1.heap (aIt x t) (lIt l) }) g5 ?_
 have I2:L2.Inv X pins σ H1 { s1 with heap:=zh5 s1.heap (aIt x t) (lIt l),toks:=s1.toks }:=I1.kept (t':=s1.toks) hk
 have D:ZAp (n + 4) (n + 2) (n + 3) n (n + 1) [n] [n + 1,l]:=by
  exact ⟨(show (n + 2:Nat)≠n + 4 from by grind),(show (n + 3:Nat)≠n + 4 from by grind),(show (n:Nat)≠n + 4 from by grind),(show (n + 1:Nat)≠n + 4 from by grind),(show (n + 2:Nat)≠n + 3 from by grind),(show (n + 2:Nat)≠n from by grind),(show (n + 2:Nat)≠n + 1 from by grind),(show (n + 3:Nat)≠n from by grind),(show (n + 3:Nat)≠n + 1 from by grind),(show (n:Nat)≠n + 1 from by grind),⟨nm1 (show (n + 4:Nat)≠n from by grind),nm1 (show (n + 3:Nat)≠n from by grind),nm1 (show (n + 1:Nat)≠n from by grind)⟩,⟨nm2 (show (n + 4:Nat)≠n + 1 from by grind) (ltn a1).1,nm2 (show (n + 3:Nat)≠n + 1 from by grind) (ltn a1).2.1,nm2 (show (n:Nat)≠n + 1 from by grind) (ltn a1).2.2.2⟩⟩
 refine ⟨_,_,_,_,H1,rfl,I2,turn_zip_tl (t:=t) _ _ _ _ _ l D (Ne.symm (ltn a1).2.2.1),⟨g5,g3,⟨_,_,g4⟩,⟨_,g2,rfl,rfl⟩,Nat.zero_le _,⟨_,g1,rfl,rfl⟩⟩,fun b hb => ?_,q⟩
 simp only [List.mem_cons,List.not_mem_nil,or_false] at hb
 have hge:s1.heap.objs.size≤b:=by rw [hn]; rcases hb with rfl | rfl | rfl | rfl | rfl <;> grind
 exact I1.fpOk (b:=b) (H':=H1) hge (I1.hok.fresh hge)
theorem itOk_zip_tl {K:PySem.W.Frag} {H:Hp} {a:Addr} {ds:List D} {z:Str}:ItOk K H (zipD (lets z) ds) (fun H' => H' a = some (.lst ds)) (Itz_tl K a z):=fun H3 H' _ hr hk => by
 obtain ⟨vs,ga,ra⟩:=hr a _ hk
 have hl:(zipD (lets z) ds).length = min ds.length z.cps.size:=by
  have hz:(lets z).length = z.cps.size:=by unfold lets; rw [List.length_map,Array.length_toList]
  unfold zipD; rw [List.length_zipWith,hz]; exact Nat.min_comm _ _
 refine ⟨fun i hi => ?_,?_⟩
 ·rw [hl] at hi
  have h1:i < vs.length:=by rw [← ra.length]; grind
  have h2:i < z.cps.size:=by grind
  refine ⟨⟨vs,vs[i],z.cps[i],SqL.of ga,by simp,by simp⟩,fun v H'' y => ?_⟩
  obtain ⟨T,x,c,rfl,hT,rfl,hc,hx⟩:=y
  obtain ⟨d,hd,rd⟩:=ra.getV (hx vs (SqL.of ga))
  have hc2:(lets z)[i]? = some (.str ⟨#[c]⟩):=by unfold lets; rw [List.getElem?_map,Array.getElem?_toList,hc]; rfl
  refine ⟨TK.fresh hT,hr.tup hT,.tup [.str ⟨#[c]⟩,d],?_,.tup upd_same (.cons (.str _) (.cons (rd.mono (TK.fresh hT)) .nil))⟩
  unfold zipD
  rw [List.getElem?_zipWith,hc2,hd]
 ·rw [hl]
  refine ⟨vs,SqL.of ga,?_⟩
  rw [← ra.length]
  grind
end
section
variable {X:Cx}
theorem i3_zip_tl {a b:Expr} {ta tb:TE3} {p pos pt:Pos} {elts:List Expr} {kt:Nat} (hm:X.mg "zip" = none) (ha:PE3 X a ta) (hb:PE3 X b tb) (hg:Gl X "zip":=by rfl) (hs:starEach [a,b] X.env = [(false,eval a X.env),(false,eval b X.env)]:=by rfl)
  (hs1:starEach [a,b] X.env = (false,eval a X.env)::starEach [b] X.env:=by rfl) (hs2:starEach [b] X.env = (false,eval b X.env)::starEach [] X.env:=by rfl) (hs3:starEach [b] X.env = [(false,eval b X.env)]:=by rfl):PI3 X (.Tuple elts kt pt) (.Call (.Name "zip" p) [a,b] [] pos) (itz ta tb) :=
 pi_imp (pj_zip_tl hg hm (a3_cons ha (a3_cons hb a3_nil hs2) hs1) hs hs3) fun _ _ _ ⟨σ3,H3,R3,sr,hr,t,k⟩ => by
  refine ⟨σ3,H3,fun ds H1 => (match ds with | [x,y] => tzk x y H1 R3 | _ => False),sr,hr,t,fun ds vs H3a Ha tka hra rs qa => ?_⟩
  cases rs with
  | nil => exact qa.elim
  | cons r1 r2 =>
   cases r2 with
   | nil => exact qa.elim
   | cons r2 r3 =>
    cases r3 with
    | cons _ _ => exact qa.elim
    | nil =>
     cases r1 with
     | str z =>
      cases r2 with
      | ref x =>
       (delta tzk at qa; dsimp only at qa)
       split at qa
       ·rename_i ds hx
        obtain ⟨vs,ga,ra⟩:=hra x _ hx
        exact ⟨x,z,rfl,qa.1,⟨vs,SqL.of ga⟩,k _ _ _ _ _ tka hra itOk_zip_tl qa.2⟩
       ·exact qa.elim
      | _ => exact qa.elim
     | _ => exact qa.elim
end
end L3
namespace L3
open PySem PySem.Spec PyProof.Rows L2
def enk (x:D) (H:Hp3) (R:List D→(Hp3→Prop)→Hp3→Prop):Prop:=match x with
 | .ref a => (match H a with
  | some (.lst ds) => R (zipD (rng 0 ds.length) ds) (fun H' => H' a = some (.lst ds)) H
  | _ => False)
 | _ => False
def ien (te:TE3):TI3:=fun σ H R => te σ H fun x H1 => enk x H1 R
theorem g_ien {te:TE3} {σ:St3} {H:Hp3} {R:List D→(Hp3→Prop)→Hp3→Prop} (h:te σ H fun x H1 => enk x H1 R):ien te σ H R:=h
theorem g_enk {H:Hp3} {a:Addr} {ds:List D} {R:List D→(Hp3→Prop)→Hp3→Prop} (h:H a = some (.lst ds)) (q:R (zipD (rng 0 ds.length) ds) (fun H' => H' a = some (.lst ds)) H):enk (.ref a) H R:=by
 (delta enk; simp only [h]); exact q
theorem en_get {ds:List D} {i:Nat} {d:D} (h:(zipD (rng 0 ds.length) ds)[i]? = some d):∃ x,ds[i]? = some x∧d = .tup [.int i,x]:=by
 unfold zipD at h
 rw [List.getElem?_zipWith] at h
 cases hx:ds[i]? with
 | none => rw [hx] at h; cases hr:(rng 0 ds.length)[i]? <;> rw [hr] at h <;> cases h
 | some x =>
  have hi:=(List.getElem?_eq_some_iff.mp hx).1
  rw [hx,rng_get hi] at h
  refine ⟨x,rfl,?_⟩
  simp only [Int.zero_add] at h
  exact (Option.some.inj h).symm
theorem en_len (ds:List D):(zipD (rng 0 ds.length) ds).length = ds.length:=by unfold zipD; rw [List.length_zipWith,rng_len,Nat.min_self]
abbrev EK3:=Str→Hp3→Prop
abbrev SpE:=List D→Hp3→VK3→EK3→Prop
def gone (i:Nat) (D:Ends3):Ends3:={ nx:=fun σ' H' => D.nx (σ'.set i none) H',rt:=D.rt,bk:=fun σ' H' => D.bk (σ'.set i none) H',ct:=fun σ' H' => D.ct (σ'.set i none) H' }
def KX (K:PySem.W.Frag) (H:Hp) (E3:EK3) (E:XK):Prop:=∀ c C H3' H',TK H H'→HR K H3' H'→PySem.W.nsIn K mainGlobals c = some (some (.ref C))→E3 c H3'→E (.ref C) none H'
end L3
namespace L3
open PySem PySem.Spec PyProof.Rows L2
def Ite (K:PySem.W.Frag) (a:Addr):It :=
 ⟨fun i H => ∃ xs x,SqL K H a xs∧xs[i]? = some x,
   fun i H v H' => ∃ T x,v = .ref T∧H T = none∧H' = upd H T (.tup [.int i,x])∧∀ xs,SqL K H a xs→xs[i]? = some x,
   fun i H => ∃ xs,SqL K H a xs∧xs.length≤i⟩
theorem turn_enum {P:Program} {w:World} {K:PySem.W.Frag} {elts:List Expr} {kt:Nat} {pt:Pos} (e it a:Addr) (hne:e≠it) :
  Turn P w K (.Tuple elts kt pt) (Ite K a) [e,it] e (fun i h => (∃ old,IsEnum h e it i old)∧h.IsListIter it a i) where
 mem:=by simp
 obj:=by
  rintro i h ⟨⟨old,h1⟩,⟨o4,h4,c4,d4⟩⟩ c hc
  simp only [List.mem_cons,List.not_mem_nil,or_false] at hc
  rcases hc with rfl | rfl
  ·exact ⟨_,h1,fun v z => nomatch z⟩
  ·exact ⟨_,h4,fun v z => by rw [d4] at z; cases z⟩
 keep:=by
  rintro i h h' ⟨⟨old,h1⟩,h4⟩ k
  exact ⟨⟨old,k e (by simp) _ h1⟩,h4.at fun o q => k it (by simp) o q⟩
 item:=by
  intro X hP hw hK hc i pins s σ H E I hf st hg
  subst hP hw hK
  obtain ⟨xs,x,hq,hx⟩:=hg
  obtain ⟨⟨old,h1⟩,h4⟩:=st
  obtain ⟨its,rv,p,hz⟩:=I.list hq
  obtain ⟨u,hu,ru⟩:=rv.get hx
  have hT:H s.heap.objs.size = none:=I.hok.fresh (Nat.le_refl _)
  refine wpAny_pyNext_enum_item h1 h4 p.isList (x:=u) (by simpa using hu) hne fun h' a1 a2 a3 a4 a5 => ?_
  refine ⟨_,rfl,?_⟩
  refine wpAny_letOwnedTupleGo_enum (s:={ s with heap:=h',toks:=s.toks + 1 }) a1 fun h'' b1 b2 => ?_
  have lt:∀ {c o},s.heap.get? c = some o→s.heap.objs.size≠c:=fun q => Nat.ne_of_gt (Heap.lt_size q)
  have new:h''.get? s.heap.objs.size = some { cls:=.type "tuple",data:=.seq #[.int i s.toks,u] }:=(b2.2 _ (lt h1)).trans a3
  have I1:L2.Inv X pins σ (upd H s.heap.objs.size (.tup [.int i,x])) { s with heap:=h'',toks:=s.toks + 1 }:=by
   refine turnedNew (ch:=[e,it]) I (fun c o hcn q => ?_) hf (Nat.le_refl _) ⟨?_,[.int i s.toks,u],.cons ⟨_,rfl⟩ (.cons ru .nil),⟨_,new,rfl,_,rfl,rfl⟩⟩
   ·have n1:c≠e:=fun w => hcn (by simp [w])
    exact (b2.2 c n1).trans (a5 c o n1 (fun w => hcn (by simp [w])) q)
   ·show 2≤sizeLine; decide
  refine ⟨.ref s.heap.objs.size,_,I1,rfl,⟨_,x,rfl,hT,rfl,fun xs' q1 => by rw [I.list_inj q1 hq]; exact hx⟩,⟨⟨u,b1⟩,a2.at fun o q => (b2.2 it (Ne.symm hne)).trans q⟩,fun c hcm => ?_⟩
  have hcn:H c = none:=(hf c hcm).1
  have:c≠s.heap.objs.size:=by
   obtain ⟨o,q,_⟩:∃ o,s.heap.get? c = some o∧True:=by
    simp only [List.mem_cons,List.not_mem_nil,or_false] at hcm
    rcases hcm with rfl | rfl
    ·exact ⟨_,h1,trivial⟩
    ·obtain ⟨o,q,_⟩:=h4; exact ⟨o,q,trivial⟩
   exact (lt q).symm
  rw [upd_ne this]; exact hcn
 done:=by
  intro X hP hw hK hc i pins s σ H E I hf st hg
  subst hP hw hK
  obtain ⟨xs,hq,hx⟩:=hg
  obtain ⟨⟨old,h1⟩,h4⟩:=st
  obtain ⟨its,rv,p,hz⟩:=I.list hq
  have hl:=rv.length
  refine wpAny_pyNext_enum_end (I.ok.hd hc) h1 h4 p.isList (by rw [List.getElem?_toArray]; exact List.getElem?_eq_none (by grind)) fun h' k => ⟨rfl,?_⟩
  exact turnedL (t':=s.toks) (ch:=[e,it]) I (fun c o hcn q => k c o (fun w => hcn (by simp [w])) q) hf
 self:=fun A i s Q E st h => by
  obtain ⟨old,h1⟩:=st.1
  exact wpAny_pyIter_enum h1 h
section
variable {X:Cx} {tg:Expr}
theorem boot_enum:bootBuiltins "enumerate" = some (.type "enumerate"):=by rfl
def jEnum (K:PySem.W.Frag) (ta:TA):TI:=fun σ H R => ta σ H fun vs H1 => ∃ a,vs = [.ref a]∧(∃ xs,SqL K H1 a xs)∧R (Ite K a) H1
theorem pj_enum {a:Expr} {ta:TA} {p pos pt:Pos} {elts:List Expr} {kt:Nat} (hg:Gl X "enumerate") (hm:X.mg "enumerate" = none) (ha:PA X [a] ta) (hs:starEach [a] X.env = [(false,eval a X.env)]:=by rfl) :
  PI X (.Tuple elts kt pt) (.Call (.Name "enumerate" p) [a] [] pos) (jEnum X.K ta):=by
 intro pins s σ H R I h
 refine Call_ (ld_blt I hg hm boot_enum (PyProof.Rows.callWith_type1 (thn (ha pos pins s σ H _ I h) fun us s1 ⟨vs,H1,I1,r1,l1,e,⟨xs,hq⟩,q⟩ => ?_) (by rw [hs]; rfl) (by rfl)))
 subst e
 obtain ⟨u,rfl,e1⟩:=vals1 r1
 cases e1
 obtain ⟨its,rv,pl,hz⟩:=I1.list hq
 refine call_enumerate_list pl.isList fun h' he hit hsz hk => ?_
 refine wpAny_pyIter_enum (s:={ s1 with heap:=h' }) he ?_
 have I2:L2.Inv X pins σ H1 { s1 with heap:=h',toks:=s1.toks }:=I1.kept (t':=s1.toks) hk
 refine ⟨_,_,_,_,H1,rfl,I2,turn_enum _ _ l1 (Nat.ne_of_gt (Nat.lt_succ_self _)),⟨⟨_,he⟩,hit⟩,fun b hb => ?_,q⟩
 simp only [List.mem_cons,List.not_mem_nil,or_false] at hb
 have hge:s1.heap.objs.size≤b:=by rcases hb with rfl | rfl <;> grind
 have fp:=I1.fpOk (b:=b) (H':=H1) hge (I1.hok.fresh hge)
 exact fp
theorem itOk_enum {K:PySem.W.Frag} {H:Hp} {a:Addr} {ds:List D}:ItOk K H (zipD (rng 0 ds.length) ds) (fun H' => H' a = some (.lst ds)) (Ite K a):=fun H3 H' _ hr hk => by
 obtain ⟨vs,ga,ra⟩:=hr a _ hk
 refine ⟨fun i hi => ?_,?_⟩
 ·rw [en_len] at hi
  have h1:i < vs.length:=by rw [← ra.length]; exact hi
  refine ⟨⟨vs,vs[i],SqL.of ga,by simp⟩,fun v H'' y => ?_⟩
  obtain ⟨T,x,rfl,hT,rfl,hx⟩:=y
  obtain ⟨d,hd,rd⟩:=ra.getV (hx vs (SqL.of ga))
  refine ⟨TK.fresh hT,hr.tup hT,.tup [.int i,d],?_,.tup upd_same (.cons (.int i) (.cons (rd.mono (TK.fresh hT)) .nil))⟩
  unfold zipD
  rw [List.getElem?_zipWith,hd,rng_get hi]
  simp only [Int.zero_add]
 ·rw [en_len]
  exact ⟨vs,SqL.of ga,by rw [ra.length]; exact Nat.le_refl _⟩
theorem i3_enum {a:Expr} {ta:TE3} {p pos pt:Pos} {elts:List Expr} {kt:Nat} (hm:X.mg "enumerate" = none) (ha:PE3 X a ta) (hg:Gl X "enumerate":=by rfl) (hs:starEach [a] X.env = [(false,eval a X.env)]:=by rfl)
  (hs1:starEach [a] X.env = (false,eval a X.env)::starEach [] X.env:=by rfl):PI3 X (.Tuple elts kt pt) (.Call (.Name "enumerate" p) [a] [] pos) (ien ta) :=
 pi_imp (pj_enum hg hm (a3_cons ha a3_nil hs1) hs) fun _ _ _ ⟨σ3,H3,R3,sr,hr,t,k⟩ => by
  refine ⟨σ3,H3,fun ds H1 => (match ds with | [x] => enk x H1 R3 | _ => False),sr,hr,t,fun ds vs H3a Ha tka hra rs qa => ?_⟩
  cases rs with
  | nil => exact qa.elim
  | cons r1 r2 =>
   cases r2 with
   | cons _ _ => exact qa.elim
   | nil =>
    cases r1 with
    | ref x =>
     (delta enk at qa; dsimp only at qa)
     split at qa
     ·rename_i ds hx
      obtain ⟨vs,ga,ra⟩:=hra x _ hx
      exact ⟨x,rfl,⟨vs,SqL.of ga⟩,k _ _ _ _ _ tka hra itOk_enum qa⟩
     ·exact qa.elim
    | _ => exact qa.elim
end
end L3
namespace L3
open PySem PySem.Spec PyProof.Rows L2 PySem.Calls Builtin Builtin.ObjectAttr Builtin.Getset_descriptor
end L3
namespace L3
open PySem PySem.Spec PyProof.Rows L2
def lzk (x y:D) (H:Hp3) (Q:VK3):Prop:=match x,y with
 | .tup ds,.ref b => (match H b with
  | some (.lst es) => ds.length≤1000∧∀ p,H p = none→Q (.ref p) (upd3 H p (.lst (zipD ds es)))
  | _ => False)
 | _,_ => False
def lz3 (ta tb:TE3):TE3:=fun σ H Q => ta σ H fun x H1 => tb σ H1 fun y H2 => lzk x y H2 Q
def r3sortI:List D→Hp3→VK3→Prop:=fun ds H Q => match ds with
 | [.ref a] => (match H a with
  | some (.lst xs) => (match intsOf xs with
   | some ns => ns.length < 64∧∀ (ms:List Int) (p:Addr),ms.Perm ns→ms.Pairwise (·≤·)→H p = none→Q (.ref p) (upd3 H p (.lst (ms.map D.int)))
   | none => False)
  | _ => False)
 | _ => False
def r3slT:RSl:=fun x lo hi H Q => match x with
 | .tup ds => ¬ (HT.sIx ds.length 0 lo = 0∧HT.sIx ds.length ds.length hi = ds.length)∧Q (.tup (cut3 ds lo hi)) H
 | _ => False
section
variable {H:Hp3} {Q:VK3} {σ:St3} {a:Addr} {ds es:List D} {ta tb:TE3}
theorem g_lz (h:ta σ H fun x H1 => tb σ H1 fun y H2 => lzk x y H2 Q):lz3 ta tb σ H Q:=h
theorem g_lzk (h:H a = some (.lst es)) (hl:ds.length≤1000) (q:∀ p,H p = none→Q (.ref p) (upd3 H p (.lst (zipD ds es)))):lzk (.tup ds) (.ref a) H Q:=by
 (delta lzk; simp only [h]); exact ⟨hl,q⟩
theorem g_sortI {ns:List Int} (h:H a = some (.lst (ns.map D.int))) (hl:ns.length < 64) (q:∀ (ms:List Int) (p:Addr),ms.Perm ns→ms.Pairwise (·≤·)→H p = none→Q (.ref p) (upd3 H p (.lst (ms.map D.int)))):r3sortI [.ref a] H Q:=by
 (delta r3sortI; simp only [h,intsOf_map]); exact ⟨hl,q⟩
theorem g_slT {lo hi:Option Int} (hw:¬ (HT.sIx ds.length 0 lo = 0∧HT.sIx ds.length ds.length hi = ds.length)) (q:Q (.tup (cut3 ds lo hi)) H):r3slT (.tup ds) lo hi H Q:=⟨hw,q⟩
end
theorem wpAny_alive {α:Type} {M:Model} {A:Around} {E:Value→Shared→Prop} {s:Shared} {a:Addr} {k:Option Obj→Sem α} {Q:α→Shared→Prop} (h:wpAny M A (k (s.heap.get? a)) Q E s):wpAny M A (Sem.loadIfAlive a k) Q E s:=fun Γ p hΓ => by
 have:=h Γ p hΓ
 rw [Sem.wp_loadIfAlive]; exact this
section
variable {prog:Program} {w:World} {A:Around} {E:Value→Shared→Prop} {s:Shared}
theorem nextOf_tup {jt tt:Addr} {i:Nat} {its:Array Value} {x:Value} {Q:Value→Shared→Prop} (hj:s.heap.IsTupleIter jt tt i) (ht:s.heap.IsTuple tt its) (hx:its[i]? = some x)
  (hQ:∀ h',h'.IsTupleIter jt tt (i + 1)→Heap.SameBut jt s.heap h'→Q x { s with heap:=h' }):wpAny (model prog w) A (Builtin.SmallTypes.nextOf (.ref jt)) Q E s:=by
 obtain ⟨o,ho,hc,hd⟩:=id hj
 obtain ⟨ol,hol,_,nl,hdl⟩:=ht
 unfold Builtin.SmallTypes.nextOf
 refine wpAny_bind (wpAny_callSpecial?_slot (name:=Str.ofString "__next__") hj.typeIs F.slot_tuple_iterator_next (wpAny_call_entry F.slot_tuple_iterator_next hj.typeIs F.entry_tuple_iterator_next ?_ (F.args_tuple_iterator_next_1 _)))
 show wpAny _ _ (field (.ref jt) 0 >>= _) _ _ s
 refine wpAny_bind (wpAny_field ho hd (x:=.ref tt) rfl ?_)
 show wpAny _ _ (if (Value.ref tt == Value.none) = true then _ else _) _ _ s
 rw [if_neg (show ¬ ((Value.ref tt == Value.none) = true) from Bool.false_ne_true)]
 show wpAny _ _ (field (.ref jt) 1 >>= _) _ _ s
 refine wpAny_bind (wpAny_field ho hd (x:=.int i 0) rfl ?_)
 show wpAny _ _ (seqItems? (.ref tt) >>= _) _ _ s
 refine wpAny_bind (wpAny_seqItems hol hdl ?_)
 simp only [Int.toNat_natCast,hx]
 refine wpAny_bind (wpAny_setField ho hd (by simp) (wpAny_pure ⟨x,rfl,wpAny_pure (hQ _ ⟨_,Heap.get?_update_self _ ho (Obj.isFreed_of_fields (Obj.data_mapFields hd _)),(Obj.cls_mapFields ..).trans hc,by rw [Obj.data_mapFields hd]; simp [rawInt]⟩ (Heap.SameBut.update ..))⟩))
theorem nextOf_tup_end {jt tt:Addr} {i:Nat} {its:Array Value} {Q:Value→Shared→Prop} (hh:A.handled = none) (hj:s.heap.IsTupleIter jt tt i) (ht:s.heap.IsTuple tt its) (hx:its[i]? = none)
  (hE:∀ h' e,Heap.ExtBut jt s.heap h'→(∃ o,h'.get? e = some o∧o.cls = .type "StopIteration")→E (.ref e) { s with heap:=h' }):wpAny (model prog w) A (Builtin.SmallTypes.nextOf (.ref jt)) Q E s:=by
 obtain ⟨o,ho,hc,hd⟩:=id hj
 obtain ⟨ol,hol,_,nl,hdl⟩:=ht
 unfold Builtin.SmallTypes.nextOf
 refine wpAny_bind (wpAny_callSpecial?_slot (name:=Str.ofString "__next__") hj.typeIs F.slot_tuple_iterator_next (wpAny_call_entry F.slot_tuple_iterator_next hj.typeIs F.entry_tuple_iterator_next ?_ (F.args_tuple_iterator_next_1 _)))
 show wpAny _ _ (field (.ref jt) 0 >>= _) _ _ s
 refine wpAny_bind (wpAny_field ho hd (x:=.ref tt) rfl ?_)
 show wpAny _ _ (if (Value.ref tt == Value.none) = true then _ else _) _ _ s
 rw [if_neg (show ¬ ((Value.ref tt == Value.none) = true) from Bool.false_ne_true)]
 show wpAny _ _ (field (.ref jt) 1 >>= _) _ _ s
 refine wpAny_bind (wpAny_field ho hd (x:=.int i 0) rfl ?_)
 show wpAny _ _ (seqItems? (.ref tt) >>= _) _ _ s
 refine wpAny_bind (wpAny_seqItems hol hdl ?_)
 simp only [Int.toNat_natCast,hx]
 refine wpAny_bind (wpAny_rule (wpAny_bind (wpAny_setField ho hd (by simp) ?_)))
 show wpAny _ _ (newExc (.type "StopIteration") [] >>= fun _ => _) _ _ _
 refine wpAny_bind ?_
 simp only [newExc,newTuple]
 refine wpAny_bind (wpAny_newObj_type ?_ (by size_fits))
 refine wpAny_bind (m:=firstArgMember _ _) (wpAny_of_eq (a:=Value.none) (by first | (simp only [firstArgMember]; rfl) | rfl) ?_)
 refine wpAny_newObj_type ?_ (by size_fits)
 simp only [raiseNew]
 refine wpAny_bind (wpAny_handled ?_)
 first | rw [hh] | rw [show A.in1.handled = none from hh]
 refine wpAny_bind (wpAny_pure (wpAny_throw ?_))
 exact hE _ _ (((Heap.SameBut.update ..).extBut.push _).push _) ⟨_,Heap.get?_push_size _ rfl,rfl⟩
theorem drawsT (hh:A.handled = none) (jt tt:Addr) (hne:tt≠jt) (its:Array Value):Draws prog w A jt [jt,tt] its.size (fun i v => its[i]? = some v) (fun i h => h.IsTupleIter jt tt i∧h.IsTuple tt its) where
 live:=fun _ _ st => let ⟨o,ho,_⟩:=st.1; ⟨o,ho⟩
 frame:=fun _ _ _ st hk => ⟨st.1.at fun o e => hk jt (by simp) o e,st.2.at fun o e => hk tt (by simp) o e⟩
 item:=fun i s Q E hi st hQ => nextOf_tup st.1 st.2 (x:=its[i]) (by simp [hi]) fun h' hj' hs' => hQ _ h' s.toks (by simp [hi]) ⟨hj',st.2.extBut hs'.extBut hne⟩ hs'
 done:=fun s Q E st hE => nextOf_tup_end hh st.1 st.2 (by simp) hE
def ZipH (h:Heap) (z TI TO T0:Addr):Prop:=∃ b:Bool,h.get? z = some { cls:=.type "zip",data:=.fields #[rawInt T0,.bool b,.bool false,.ref TI,.ref TO] }
variable {z TI TO i1 i2 T0:Addr} {f1 f2:List Addr} {n1 n2 k:Nat} {P1 P2:Nat→Value→Prop} {S1 S2:Nat→Heap→Prop} {a b:Value}
theorem heldT (hz:ZipH s.heap z TI TO T0) {o0:Obj} (h0:s.heap.get? T0 = some o0) {Q:Bool→Shared→Prop}
  (h:∀ h',ZipH h' z TI TO T0→Heap.SameBut z s.heap h'→Q false { s with heap:=h' }):wpAny (model prog w) A (Builtin.SmallTypes.ownedTupleIsFree (.ref z)) Q E s:=by
 obtain ⟨bb,hz⟩:=hz
 unfold Builtin.SmallTypes.ownedTupleIsFree
 refine wpAny_bind (wpAny_field hz rfl (x:=rawInt T0) rfl ?_)
 unfold rawInt
 dsimp only
 refine wpAny_bind (wpAny_alive (wpAny_pure ?_))
 rw [Int.toNat_natCast,h0]
 simp only [Option.isNone_some,Bool.false_eq_true,if_false]
 refine wpAny_bind (wpAny_field hz rfl (x:=.bool bb) rfl ?_)
 cases bb with
 | true =>
  rw [if_neg (by decide)]
  exact wpAny_pure (h s.heap ⟨true,hz⟩ (Heap.SameBut.refl _ _))
 | false =>
  rw [if_pos (by decide)]
  refine wpAny_bind (wpAny_setField_rec hz (by simp) fun h₁ hz₁ hs₁ => wpAny_pure (h h₁ ⟨true,?_⟩ hs₁))
  exact hz₁
theorem zipN_item {Q:Option Value→Shared→Prop} (D:ZAp z TI TO i1 i2 f1 f2) (D1:Draws prog w A.in1 i1 f1 n1 P1 S1) (D2:Draws prog w A.in1 i2 f2 n2 P2 S2) (h1:k < n1) (h2:k < n2)
  (hz:ZipH s.heap z TI TO T0) {o0:Obj} (h0:s.heap.get? T0 = some o0) (hTI:IsPair s.heap TI (.ref i1) (.ref i2)) (st1:S1 k s.heap) (st2:S2 k s.heap)
  (hQ:∀ h' tk x y,P1 k x→P2 k y→ZipH h' z TI TO T0→S1 (k + 1) h'→S2 (k + 1) h'→IsPair h' s.heap.objs.size x y →
   (∀ c o,c≠z→c≠i1→c≠i2→s.heap.get? c = some o→h'.get? c = some o)→Q (some (.ref s.heap.objs.size)) { s with heap:=h',toks:=tk }) :
  wpAny (model prog w) A (pyNext (.ref z)) Q E s:=by
 obtain ⟨bb,hzz⟩:=id hz
 have hT:s.TypeIs (.ref z) "zip":=⟨_,hzz,rfl⟩
 unfold pyNext
 refine wpAny_bind (wpAny_attempt (wpAny_callSpecial?_slot (name:=Str.ofString "__next__") hT F.slot_zip_next (wpAny_call_entry F.slot_zip_next hT F.entry_zip_next ?_ (F.args_zip_next_1 _))))
 show wpAny _ _ (field (.ref z) 2 >>= fun _ => _) _ _ _
 refine wpAny_bind (wpAny_field hzz rfl (x:=.bool false) rfl ?_)
 show wpAny _ _ (field (.ref z) 3 >>= fun _ => _) _ _ _
 refine wpAny_bind (wpAny_field hzz rfl (x:=.ref TI) rfl ?_)
 refine wpAny_bind (wpAny_seqItems hTI rfl ?_)
 show wpAny _ _ (Builtin.SmallTypes.ownedTupleIsFree (.ref z) >>= fun _ => _) _ _ _
 refine wpAny_bind (heldT hz h0 fun h₁ hz₁ hs₁ => ?_)
 simp only [Bool.false_eq_true,if_false]
 refine wpAny_bind ?_
 rw [← Array.forIn_toList]
 simp only [List.forIn_cons,List.forIn_nil]
 have ne:∀ {c d:Addr} {f:List Addr},c∈f→d∉f→c≠d:=fun hc hd e => hd (e▸hc)
 have s11:S1 k h₁:=D1.frame _ _ _ st1 fun c hc o e => (hs₁.2 c (ne hc D.a1.1)).trans e
 have s21:S2 k h₁:=D2.frame _ _ _ st2 fun c hc o e => (hs₁.2 c (ne hc D.a2.1)).trans e
 refine wpAny_bind (wpAny_bind (wpAny_holding ?_))
 show wpAny _ _ (Builtin.SmallTypes.nextOf (.ref i1) >>= fun _ => _) _ _ _
 refine wpAny_bind (D1.item k { s with heap:=h₁ } _ _ h1 s11 fun x h₂ tk₂ hx s12 hs₂ => wpAny_pure (wpAny_pure ?_))
 have s22:S2 k h₂:=D2.frame _ _ _ s21 fun c hc o e => (hs₂.2 c (ne hc D.a2.2.2)).trans e
 refine wpAny_bind (wpAny_bind (wpAny_holding ?_))
 show wpAny _ _ (Builtin.SmallTypes.nextOf (.ref i2) >>= fun _ => _) _ _ _
 refine wpAny_bind (D2.item k { s with heap:=h₂,toks:=tk₂ } _ _ h2 s22 fun y h₃ tk₃ hy s23 hs₃ => wpAny_pure (wpAny_pure (wpAny_pure ?_)))
 have s13:S1 (k + 1) h₃:=D1.frame _ _ _ s12 fun c hc o e => (hs₃.2 c (ne hc D.a1.2.2)).trans e
 refine wpAny_bind (wpAny_newTuple (wpAny_pure ⟨_,rfl,wpAny_pure ?_⟩) (by show 2≤sizeLine; decide))
 have hsz:h₃.objs.size = s.heap.objs.size:=by rw [hs₃.1,hs₂.1,hs₁.1]
 have up:∀ c o,h₃.get? c = some o→(h₃.push { cls:=.type "tuple",data:=.seq #[x,y] }).get? c = some o:=fun c o e => Heap.get?_push_of_some _ e
 have hn:IsPair (h₃.push { cls:=.type "tuple",data:=.seq #[x,y] }) h₃.objs.size x y:=Heap.get?_push_size _ rfl
 rw [hsz] at hn
 obtain ⟨b1,hz1⟩:=hz₁
 have hz3:ZipH (h₃.push { cls:=.type "tuple",data:=.seq #[x,y] }) z TI TO T0:=⟨b1,up _ _ ((hs₃.2 z D.i2z.symm).trans ((hs₂.2 z D.i1z.symm).trans hz1))⟩
 show Q (some (.ref h₃.objs.size)) _
 rw [hsz]
 exact hQ _ tk₃ x y hx hy hz3 (D1.frame _ _ _ s13 fun c _ o e => up c o e) (D2.frame _ _ _ s23 fun c _ o e => up c o e) hn fun c o c1 c3 c4 e => up c o ((hs₃.2 c c4).trans ((hs₂.2 c c3).trans ((hs₁.2 c c1).trans e)))
theorem zipN_end {Q:Option Value→Shared→Prop} (D:ZAp z TI TO i1 i2 f1 f2) (fr1:∀ h h':Heap,S1 k h→(∀ b∈f1,∀ o,h.get? b = some o→h'.get? b = some o)→S1 k h') (fr2:∀ h h':Heap,S2 k h→(∀ b∈f2,∀ o,h.get? b = some o→h'.get? b = some o)→S2 k h')
  (hend:Endd prog w A.in1 i1 (S1 k)∨((k < n1∧Draws prog w A.in1 i1 f1 n1 P1 S1)∧Endd prog w A.in1 i2 (S2 k)))
  (hz:ZipH s.heap z TI TO T0) {o0:Obj} (h0:s.heap.get? T0 = some o0) (hTI:IsPair s.heap TI (.ref i1) (.ref i2)) (st1:S1 k s.heap) (st2:S2 k s.heap)
  (hQ:∀ h' tk,(∀ c o,c≠z→c≠i1→c≠i2→s.heap.get? c = some o→h'.get? c = some o)→Q none { s with heap:=h',toks:=tk }) :
  wpAny (model prog w) A (pyNext (.ref z)) Q E s:=by
 obtain ⟨bb,hzz⟩:=id hz
 have hT:s.TypeIs (.ref z) "zip":=⟨_,hzz,rfl⟩
 unfold pyNext
 refine wpAny_bind (wpAny_attempt (wpAny_callSpecial?_slot (name:=Str.ofString "__next__") hT F.slot_zip_next (wpAny_call_entry F.slot_zip_next hT F.entry_zip_next ?_ (F.args_zip_next_1 _))))
 have fin:∀ h' e tk,(∀ c o,c≠z→c≠i1→c≠i2→s.heap.get? c = some o→h'.get? c = some o)→(∃ o,h'.get? e = some o∧o.cls = .type "StopIteration") →
   wpAny (model prog w) A (do let r ← isInstance (.ref e) (Value.type "StopIteration"); if r = true then pure none else throw (.ref e)) Q E { s with heap:=h',toks:=tk }:=by
  rintro h' e tk hk ⟨o,ho,hc⟩
  exact wpAny_bind (wpAny_isInstance (T := "StopIteration") (b:=true) ⟨o,ho,hc⟩ isSubtype_stop (wpAny_pure (hQ h' tk hk)))
 show wpAny _ _ (field (.ref z) 2 >>= fun _ => _) _ _ _
 refine wpAny_bind (wpAny_field hzz rfl (x:=.bool false) rfl ?_)
 show wpAny _ _ (field (.ref z) 3 >>= fun _ => _) _ _ _
 refine wpAny_bind (wpAny_field hzz rfl (x:=.ref TI) rfl ?_)
 refine wpAny_bind (wpAny_seqItems hTI rfl ?_)
 show wpAny _ _ (Builtin.SmallTypes.ownedTupleIsFree (.ref z) >>= fun _ => _) _ _ _
 refine wpAny_bind (heldT hz h0 fun h₁ hz₁ hs₁ => ?_)
 simp only [Bool.false_eq_true,if_false]
 refine wpAny_bind ?_
 rw [← Array.forIn_toList]
 simp only [List.forIn_cons,List.forIn_nil]
 have ne:∀ {c d:Addr} {f:List Addr},c∈f→d∉f→c≠d:=fun hc hd e => hd (e▸hc)
 have s11:S1 k h₁:=fr1 _ _ st1 fun c hc o e => (hs₁.2 c (ne hc D.a1.1)).trans e
 have s21:S2 k h₁:=fr2 _ _ st2 fun c hc o e => (hs₁.2 c (ne hc D.a2.1)).trans e
 refine wpAny_bind (wpAny_bind (wpAny_holding ?_))
 show wpAny _ _ (Builtin.SmallTypes.nextOf (.ref i1) >>= fun _ => _) _ _ _
 rcases hend with hend | ⟨⟨hk1,D1⟩,hend⟩
 ·exact wpAny_bind (hend { s with heap:=h₁ } _ _ s11 fun h₂ e hs₂ he => fin h₂ e s.toks (fun c o c1 c3 _ x => hs₂ c o c3 ((hs₁.2 c c1).trans x)) he)
 ·refine wpAny_bind (D1.item k { s with heap:=h₁ } _ _ hk1 s11 fun x h₂ tk₂ hx s12 hs₂ => wpAny_pure (wpAny_pure ?_))
  have s22:S2 k h₂:=fr2 _ _ s21 fun c hc o e => (hs₂.2 c (ne hc D.a2.2.2)).trans e
  refine wpAny_bind (wpAny_bind (wpAny_holding ?_))
  show wpAny _ _ (Builtin.SmallTypes.nextOf (.ref i2) >>= fun _ => _) _ _ _
  exact wpAny_bind (hend { s with heap:=h₂,toks:=tk₂ } _ _ s22 fun h₃ e hs₃ he => fin h₃ e tk₂ (fun c o c1 c3 c4 x => hs₃ c o c4 ((hs₂.2 c c3).trans ((hs₁.2 c c1).trans x))) he)
end
def ZSt (h:Heap) (z TI TO:Addr):Prop:=(IsZip h z TI TO .none∧∃ u v,IsPair h TO u v)∨∃ T0 o0,ZipH h z TI TO T0∧h.get? T0 = some o0∧T0≠z∧∃ oO,h.get? TO = some oO
section
variable {X:Cx} {pins:List (Addr×Obj)} {σ:St} {A:Around} {z TI TO i1 i2 ta lb S:Addr} {us ws:List Value} {xs ys:List V} {dx dy:List D} {H0:Hp} {H3:Hp3} {R:Result→Shared→Prop}
theorem zip_next (hh:A.handled = none) (D:ZAp z TI TO i1 i2 [i1,ta] [i2,lb]) (n1:ta≠i1) (n2:lb≠i2) {i:Nat} {s:Shared} {H:Hp} {E:Value→Shared→Prop} {Q:Option Value→Shared→Prop} (I:L2.Inv X pins σ H s)
  (hf:∀ b∈[z,TI,TO,i1,i2],FpOk X pins H b) (hz:ZSt s.heap z TI TO) (hTI:IsPair s.heap TI (.ref i1) (.ref i2)) (h1:s.heap.IsTupleIter i1 ta i) (h2:s.heap.IsTuple ta us.toArray) (h3:s.heap.IsListIter i2 lb i) (h4:s.heap.IsList lb ws.toArray)
  (hi1:i < us.length) (hi2:i < ws.length) {x y:V} (rx:∀ u,us[i]? = some u→RelV x u) (ry:∀ u,ws[i]? = some u→RelV y u)
  (hQ:∀ h' tk,L2.Inv X pins σ (upd H s.heap.objs.size (.tup [x,y])) { s with heap:=h',toks:=tk }→ZSt h' z TI TO→IsPair h' TI (.ref i1) (.ref i2)→h'.IsTupleIter i1 ta (i + 1)→h'.IsTuple ta us.toArray→h'.IsListIter i2 lb (i + 1)→h'.IsList lb ws.toArray →
   (∀ c o,c∉[z,TI,TO,i1,i2]→s.heap.get? c = some o→h'.get? c = some o)→Q (some (.ref s.heap.objs.size)) { s with heap:=h',toks:=tk }) :
  wpAny (model X.prog X.w) A (pyNext (.ref z)) Q E s:=by
 have DT:=drawsT (prog:=X.prog) (w:=X.w) (A:=A.in1) hh i1 ta n1 us.toArray
 have DL:=Draws.list (prog:=X.prog) (w:=X.w) (A:=A.in1) hh i2 lb n2 ws.toArray
 have o1:∀ {h:Heap},h.IsTupleIter i1 ta i→∃ o,h.get? i1 = some o:=fun ⟨o,e,_⟩ => ⟨o,e⟩
 have big:∀ c∈[z,TI,TO,i1,i2],(∃ o,s.heap.get? c = some o)→s.heap.objs.size≠c:=fun c _ ⟨o,e⟩ => Nat.ne_of_gt (Heap.lt_size e)
 have k1:i < us.toArray.size:=by simpa using hi1
 have k2:i < ws.toArray.size:=by simpa using hi2
 have two:∀ {h':Heap} {tk:Nat} {u v:Value},us.toArray[i]? = some u→ws.toArray[i]? = some v→IsPair h' s.heap.objs.size u v→(∀ c o,c∉[z,TI,TO,i1,i2]→s.heap.get? c = some o→h'.get? c = some o)→L2.Inv X pins σ (upd H s.heap.objs.size (.tup [x,y])) { s with heap:=h',toks:=tk }:=fun hu hv hp hk =>
  turnedNew (ch:=[z,TI,TO,i1,i2]) I (fun c o hcn e => hk c o hcn e) hf (Nat.le_refl _) ⟨by show 2≤sizeLine; decide,[_,_],.cons (rx _ (by simpa using hu)) (.cons (ry _ (by simpa using hv)) .nil),⟨_,hp,rfl,_,rfl,rfl⟩⟩
 have out:∀ {c:Addr},c∉[z,TI,TO,i1,i2]→c≠z∧c≠TI∧c≠TO∧c≠i1∧c≠i2:=fun h => by simp only [List.mem_cons,List.not_mem_nil,or_false,not_or] at h; exact h
 rcases hz with ⟨hz,u0,v0,hTO⟩ | ⟨T0,o0,hz,h0,hT0,oO,hO⟩
 ·refine zipD_item (k:=i) D DT DL k1 k2 hz hTI hTO ⟨h1,h2⟩ ⟨h3,h4⟩ fun h' tk u v hu hv a1 a2 sa sb a5 a7 => ?_
  have hk:∀ c o,c∉[z,TI,TO,i1,i2]→s.heap.get? c = some o→h'.get? c = some o:=fun c o hc e => a7 c o (out hc).1 (out hc).2.2.1 (out hc).2.2.2.1 (out hc).2.2.2.2 e
  exact hQ h' tk (two hu hv a5 hk) (.inr ⟨s.heap.objs.size,_,⟨false,a1⟩,a5,big z (by simp) ⟨_,hz⟩,_,a2⟩) (a7 TI _ D.TIz D.TITO D.TIi1 D.TIi2 hTI) sa.1 sa.2 sb.1 sb.2 hk
 ·refine zipN_item (k:=i) D DT DL k1 k2 hz h0 hTI ⟨h1,h2⟩ ⟨h3,h4⟩ fun h' tk u v hu hv a1 sa sb a5 a7 => ?_
  have hk:∀ c o,c∉[z,TI,TO,i1,i2]→s.heap.get? c = some o→h'.get? c = some o:=fun c o hc e => a7 c o (out hc).1 (out hc).2.2.2.1 (out hc).2.2.2.2 e
  have h0':∃ o,h'.get? T0 = some o:=by
   by_cases e1:T0 = i1
   ·obtain ⟨o,e,_⟩:=sa.1; exact ⟨o,by rw [e1]; exact e⟩
   ·by_cases e2:T0 = i2
    ·obtain ⟨o,e,_⟩:=sb.1; exact ⟨o,by rw [e2]; exact e⟩
    ·exact ⟨o0,a7 T0 o0 hT0 e1 e2 h0⟩
  obtain ⟨o',h0'⟩:=h0'
  exact hQ h' tk (two hu hv a5 hk) (.inr ⟨T0,o',a1,h0',hT0,oO,a7 TO _ D.TOz D.TOi1 D.TOi2 hO⟩) (a7 TI _ D.TIz D.TIi1 D.TIi2 hTI) sa.1 sa.2 sb.1 sb.2 hk
theorem zip_stop (hh:A.handled = none) (D:ZAp z TI TO i1 i2 [i1,ta] [i2,lb]) (n1:ta≠i1) (n2:lb≠i2) {i:Nat} {s:Shared} {H:Hp} {E:Value→Shared→Prop} {Q:Option Value→Shared→Prop} (I:L2.Inv X pins σ H s)
  (hf:∀ b∈[z,TI,TO,i1,i2],FpOk X pins H b) (hz:ZSt s.heap z TI TO) (hTI:IsPair s.heap TI (.ref i1) (.ref i2)) (h1:s.heap.IsTupleIter i1 ta i) (h2:s.heap.IsTuple ta us.toArray) (h3:s.heap.IsListIter i2 lb i) (h4:s.heap.IsList lb ws.toArray)
  (hi:us.length≤i∨ws.length≤i)
  (hQ:∀ h' tk,L2.Inv X pins σ H { s with heap:=h',toks:=tk }→(∀ c o,c∉[z,TI,TO,i1,i2]→s.heap.get? c = some o→h'.get? c = some o)→Q none { s with heap:=h',toks:=tk }) :
  wpAny (model X.prog X.w) A (pyNext (.ref z)) Q E s:=by
 have DT:=drawsT (prog:=X.prog) (w:=X.w) (A:=A.in1) hh i1 ta n1 us.toArray
 have DL:=Draws.list (prog:=X.prog) (w:=X.w) (A:=A.in1) hh i2 lb n2 ws.toArray
 have out:∀ {c:Addr},c∉[z,TI,TO,i1,i2]→c≠z∧c≠TI∧c≠TO∧c≠i1∧c≠i2:=fun h => by simp only [List.mem_cons,List.not_mem_nil,or_false,not_or] at h; exact h
 have e1:us.length≤i→Endd X.prog X.w A.in1 i1 ((fun i h => h.IsTupleIter i1 ta i∧h.IsTuple ta us.toArray) i):=fun hle s' Q' E' st' hE => nextOf_tup_end hh st'.1 st'.2 (by simp; grind) hE
 have e2:ws.length≤i→Endd X.prog X.w A.in1 i2 ((fun i h => h.IsListIter i2 lb i∧h.IsList lb ws.toArray) i):=fun hle s' Q' E' st' hE => wpAny_nextOf_list_end hh st'.1 st'.2 (by simp; grind) hE
 have he:Endd X.prog X.w A.in1 i1 ((fun i h => h.IsTupleIter i1 ta i∧h.IsTuple ta us.toArray) i)∨((i < us.toArray.size∧Draws X.prog X.w A.in1 i1 [i1,ta] us.toArray.size (fun i v => us.toArray[i]? = some v) (fun i h => h.IsTupleIter i1 ta i∧h.IsTuple ta us.toArray))∧Endd X.prog X.w A.in1 i2 ((fun i h => h.IsListIter i2 lb i∧h.IsList lb ws.toArray) i)):=by
  by_cases hle:us.length≤i
  ·exact .inl (e1 hle)
  ·exact .inr ⟨⟨by simp; grind,DT⟩,e2 (by grind)⟩
 rcases hz with ⟨hz,u0,v0,hTO⟩ | ⟨T0,o0,hz,h0,hT0,oO,hO⟩
 ·refine zipD_end (k:=i) (P1:=fun i v => us.toArray[i]? = some v) (n1:=us.toArray.size) (S1:=fun i h => h.IsTupleIter i1 ta i∧h.IsTuple ta us.toArray) (S2:=fun i h => h.IsListIter i2 lb i∧h.IsList lb ws.toArray) D (fun _ _ q k => DT.frame i _ _ q k) (fun _ _ q k => DL.frame i _ _ q k) he hz hTI hTO ⟨h1,h2⟩ ⟨h3,h4⟩ fun h' tk k => ?_
  have hk:∀ c o,c∉[z,TI,TO,i1,i2]→s.heap.get? c = some o→h'.get? c = some o:=fun c o hc e => k c o (out hc).1 (out hc).2.2.1 (out hc).2.2.2.1 (out hc).2.2.2.2 e
  exact hQ h' tk (turnedL (t':=tk) (ch:=[z,TI,TO,i1,i2]) I hk hf) hk
 ·refine zipN_end (k:=i) (P1:=fun i v => us.toArray[i]? = some v) (n1:=us.toArray.size) (S1:=fun i h => h.IsTupleIter i1 ta i∧h.IsTuple ta us.toArray) (S2:=fun i h => h.IsListIter i2 lb i∧h.IsList lb ws.toArray) D (fun _ _ q k => DT.frame i _ _ q k) (fun _ _ q k => DL.frame i _ _ q k) he hz h0 hTI ⟨h1,h2⟩ ⟨h3,h4⟩ fun h' tk k => ?_
  have hk:∀ c o,c∉[z,TI,TO,i1,i2]→s.heap.get? c = some o→h'.get? c = some o:=fun c o hc e => k c o (out hc).1 (out hc).2.2.2.1 (out hc).2.2.2.2 e
  exact hQ h' tk (turnedL (t':=tk) (ch:=[z,TI,TO,i1,i2]) I hk hf) hk
end
def tIt (t:Addr):Obj:={ cls:=.type "tuple_iterator",data:=.fields #[.ref t,.int 0 0] }
set_option maxHeartbeats 4000000 in
theorem meets_zip_Tl (t l:Addr) (xs ys:Array Value) :
  Meets (Builtin.«zip.__new__» ⟨[.type "zip",.ref t,.ref l],[]⟩) (fun _ R s => (s.heap.IsTuple t xs∧s.heap.IsList l ys)∧R (.ok (.ret (.ref (zh4 s.heap (tIt t) (lIt l)).objs.size))) { s with heap:=zh5 s.heap (tIt t) (lIt l) }) :=
 .of_wp fun prog w A R s h => by
  obtain ⟨hp,g,d,tk,os⟩:=s
  obtain ⟨⟨ht,hl⟩,h⟩:=h
  have hsub:=sub_zip
  have hT:Heap.IsTuple (Shared.heap ⟨hp,g,d,tk,os⟩) t xs:=ht
  have hL:Heap.IsList (Shared.heap ⟨hp.push { cls:=.type "tuple_iterator",data:=.fields #[.ref t,.int 0 0] },g,d,tk,os⟩) l ys:=Heap.IsList.push hl _
  wp_walk using wpAny_pyIter_tuple hT,wpAny_pyIter_list hL
  exact ⟨_,rfl,h⟩
theorem call_zip_Tl {prog:Program} {w:World} {A:Around} {E:Value→Shared→Prop} {s:Shared} {t l:Addr} {xs ys:Array Value} {Q:Value→Shared→Prop} (ht:s.heap.IsTuple t xs) (hl:s.heap.IsList l ys)
  (h:Q (.ref (s.heap.objs.size + 4)) { s with heap:=zh5 s.heap (tIt t) (lIt l) }):wpAny (model prog w) A (call (.type "zip") [.ref t,.ref l]) Q E s:=by
 refine callType_new F.called_zip (by decide) (F.typeCall_zip_2 _ _) (F.newCall_zip_2 _ _) (fun obj => F.args_object_init_3 obj _ _) F.entry_zip_new (meets_zip_Tl t l xs ys) ⟨⟨ht,hl⟩,?_⟩
 obtain ⟨z4,g5,_⟩:=zh_at s.heap (tIt t) (lIt l) rfl rfl
 show _∧_
 rw [z4]
 exact ⟨⟨_,g5,rfl⟩,h⟩
theorem zip_nolen:typeLookup (.type "zip") "__len__" = pure none:=by
 rw [typeLookup_type,builtinLookup_eq_fast]
 kernel_rfl
theorem zip_nohint:typeLookup (.type "zip") "__length_hint__" = pure none:=by
 rw [typeLookup_type,builtinLookup_eq_fast]
 kernel_rfl
section
variable {X:Cx} {pins:List (Addr×Obj)} {σ:St} {A:Around} {z TI TO i1 i2 ta lb S:Addr} {us ws:List Value} {xs ys:List V} {dx dy:List D} {H0:Hp} {H3:Hp3} {R:Result→Shared→Prop} {res:Value}
theorem zip_loop (hh:A.handled = none) (D:ZAp z TI TO i1 i2 [i1,ta] [i2,lb]) (n1:ta≠i1) (n2:lb≠i2) (hS:S∉[z,TI,TO,i1,i2]) (hSt:S≠ta) (hSl:S≠lb) (rx:Vals xs us) (ry:Vals ys ws) (px:RepL X.K H0 dx xs) (py:RepL X.K H0 dy ys) (hu:us.length≤1000) :
  ∀ (m i:Nat) (s:Shared) (H:Hp) (acc:Array Value) (c:Nat) (vs:List V),min us.length ws.length - i = m→i≤min us.length ws.length→L2.Inv X pins σ H s→TK H0 H→HR X.K H3 H→(∀ b∈[z,TI,TO,i1,i2],FpOk X pins H b)→FpOk X pins H S→ZSt s.heap z TI TO→IsPair s.heap TI (.ref i1) (.ref i2) →
   s.heap.IsTupleIter i1 ta i→s.heap.IsTuple ta us.toArray→s.heap.IsListIter i2 lb i→s.heap.IsList lb ws.toArray→s.heap.get? S = some { cls:=.type "list",dict:=none,data:=.seq acc c,slots:=#[] }→Vals vs acc.toList→RepL X.K H ((zipD dx dy).take i) vs→vs.length = i →
   (∀ s' H' vs' acc' c',L2.Inv X pins σ H' s'→TK H0 H'→HR X.K H3 H'→FpOk X pins H' S→FpOk X pins H' z→s'.heap.get? S = some { cls:=.type "list",dict:=none,data:=.seq acc' c',slots:=#[] }→Vals vs' acc'.toList→RepL X.K H' (zipD dx dy) vs'→vs'.length≤1000→R (.ok (.ret res)) s') →
   codeAny (model X.prog X.w) A (.builtin "list.extend.loop" ⟨[.ref S,.ref z,res],[]⟩) R s:=by
 have lz:(zipD dx dy).length = min us.length ws.length:=by unfold zipD; rw [List.length_zipWith,px.length,py.length,rx.length,ry.length]
 intro m
 induction m with
 | zero =>
  intro i s H acc c vs hm hi I tk hr hf fS hz hTI h1 h2 h3 h4 hs hv hrep hlen hR
  refine codeAny_builtin F.entry_extend_loop ?_
  rw [Around.under_plainId F.plain_extend_loop _]
  show wpAny _ A.in1 (pyNext (.ref z) >>= fun _ => _) _ _ s
  refine wpAny_bind (zip_stop (A:=A.in1) hh D n1 n2 I hf hz hTI h1 h2 h3 h4 (by grind) fun h' t' I' hk => ?_)
  refine wpAny_pure (hR _ H vs acc c I' tk hr fS (hf z (by simp)) (hk S _ hS hs) hv ?_ (by grind))
  rw [List.take_of_length_le (by grind)] at hrep
  exact hrep
 | succ m ih =>
  intro i s H acc c vs hm hi I tk hr hf fS hz hTI h1 h2 h3 h4 hs hv hrep hlen hR
  refine codeAny_builtin F.entry_extend_loop ?_
  rw [Around.under_plainId F.plain_extend_loop _]
  show wpAny _ A.in1 (pyNext (.ref z) >>= fun _ => _) _ _ s
  have hx:i < xs.length:=by rw [rx.length]; grind
  have hy:i < ys.length:=by rw [ry.length]; grind
  have gx:xs[i]? = some xs[i]:=List.getElem?_eq_getElem hx
  have gy:ys[i]? = some ys[i]:=List.getElem?_eq_getElem hy
  obtain ⟨u,eu,ru⟩:=rx.get gx
  obtain ⟨v,ev,rv⟩:=ry.get gy
  have hT:H s.heap.objs.size = none:=I.hok.fresh (Nat.le_refl _)
  refine wpAny_bind (zip_next (A:=A.in1) hh D n1 n2 I hf hz hTI h1 h2 h3 h4 (by grind) (by grind) (x:=xs[i]) (y:=ys[i]) (fun w e => by rw [eu] at e; cases e; exact ru) (fun w e => by rw [ev] at e; cases e; exact rv) fun h' t' I' hz' hTI' h1' h2' h3' h4' hk => ?_)
  have hs':=hk S _ hS hs
  have al:acc.size = i:=by rw [← Array.length_toList,← hv.length]; exact hlen
  show wpAny _ A.in1 (updateSeq S (·.push (Value.ref s.heap.objs.size)) >>= fun _ => _) _ _ _
  refine wpAny_bind ?_
  have oth:∀ b o,b≠S→h'.get? b = some o→(h'.update S (Obj.mapSeq (·.push (Value.ref s.heap.objs.size)))).get? b = some o:=fun b o hb e => (Heap.get?_update_other _ _ (Ne.symm hb)).trans e
  have tk1:TK H (upd H s.heap.objs.size (.tup [xs[i],ys[i]])):=TK.fresh hT
  have nS:S≠s.heap.objs.size:=Nat.ne_of_lt (Heap.lt_size hs)
  have fS':FpOk X pins (upd H s.heap.objs.size (.tup [xs[i],ys[i]])) S:=⟨by rw [upd_ne nS]; exact fS.1,fS.2⟩
  have old:∀ b∈[z,TI,TO,i1,i2],∃ o,s.heap.get? b = some o:=by
   intro b hb
   simp only [List.mem_cons,List.not_mem_nil,or_false] at hb
   rcases hb with rfl | rfl | rfl | rfl | rfl
   ·rcases hz with ⟨q,_⟩ | ⟨_,_,⟨_,q⟩,_⟩
    ·exact ⟨_,q⟩
    ·exact ⟨_,q⟩
   ·exact ⟨_,hTI⟩
   ·rcases hz with ⟨_,_,_,q⟩ | ⟨_,_,_,_,_,o,q⟩
    ·exact ⟨_,q⟩
    ·exact ⟨_,q⟩
   ·obtain ⟨o,e,_⟩:=h1; exact ⟨o,e⟩
   ·obtain ⟨o,e,_⟩:=h3; exact ⟨o,e⟩
  have hf':∀ b∈[z,TI,TO,i1,i2],FpOk X pins (upd H s.heap.objs.size (.tup [xs[i],ys[i]])) b:=fun b hb => by
   obtain ⟨o,e⟩:=old b hb
   exact ⟨by rw [upd_ne (Nat.ne_of_lt (Heap.lt_size e))]; exact (hf b hb).1,(hf b hb).2⟩
  have I2:=turnedL (t':=t') (ch:=[S]) (h':=h'.update S (Obj.mapSeq (·.push (Value.ref s.heap.objs.size)))) I' (fun b o hb e => oth b o (fun q => hb (by simp [q])) e) (fun b hb => by rw [List.mem_singleton.mp hb]; exact fS')
  have zS:∀ b∈[z,TI,TO,i1,i2],b≠S:=fun b hb e => hS (e▸hb)
  have hz2:ZSt (h'.update S (Obj.mapSeq (·.push (Value.ref s.heap.objs.size)))) z TI TO:=by
   rcases hz' with ⟨q,u0,v0,q2⟩ | ⟨T0,o0,⟨b0,q⟩,q2,q3,oO,q4⟩
   ·exact .inl ⟨oth _ _ (zS z (by simp)) q,u0,v0,oth _ _ (zS TO (by simp)) q2⟩
   ·by_cases e:T0 = S
    ·exact .inr ⟨T0,_,⟨b0,oth _ _ (zS z (by simp)) q⟩,by rw [e]; exact Heap.get?_update_self _ hs' rfl,q3,oO,oth _ _ (zS TO (by simp)) q4⟩
    ·exact .inr ⟨T0,o0,⟨b0,oth _ _ (zS z (by simp)) q⟩,oth _ _ e q2,q3,oO,oth _ _ (zS TO (by simp)) q4⟩
  have hd:dx[i]? = some (dx[i]'(by rw [px.length]; exact hx)):=List.getElem?_eq_getElem _
  have hd':dy[i]? = some (dy[i]'(by rw [py.length]; exact hy)):=List.getElem?_eq_getElem _
  obtain ⟨vx,evx,rvx⟩:=px.get hd
  obtain ⟨vy,evy,rvy⟩:=py.get hd'
  rw [gx] at evx; cases evx
  rw [gy] at evy; cases evy
  have ez:(zipD dx dy).take (i + 1) = (zipD dx dy).take i++[.tup [dx[i]'(by rw [px.length]; exact hx),dy[i]'(by rw [py.length]; exact hy)]]:=by
   rw [List.take_add_one]
   congr 1
   unfold zipD
   rw [List.getElem?_zipWith,hd,hd']; rfl
  refine wpAny_updateSeq hs' rfl (wpAny_pure ⟨plainId_quiet F.plain_extend_loop _,ih (i + 1) _ _ (acc.push (.ref s.heap.objs.size)) _ (vs++[.ref s.heap.objs.size]) (by grind) (by grind) I2 (tk.trans tk1) (hr.tup hT) hf' fS' hz2 (oth _ _ (zS TI (by simp)) hTI') (h1'.at fun o e => oth _ o (zS i1 (by simp)) e) (h2'.at fun o e => oth _ o hSt.symm e) (h3'.at fun o e => oth _ o (zS i2 (by simp)) e) (h4'.at fun o e => oth _ o hSl.symm e) (Heap.get?_update_self _ hs' rfl) ?_ ?_ (by rw [List.length_append,hlen]; rfl) hR⟩)
   (by rw [al,sizeLine_eq]; grind) (by show (acc.push _).size≤sizeLine + 1; rw [Array.size_push,al,sizeLine_eq]; grind)
  ·rw [Array.toList_push]
   exact Vals.snoc1 hv rfl
  ·rw [ez]
   exact (hrep.mono tk1).snoc (.tup upd_same (.cons (rvx.mono (tk.trans tk1)) (.cons (rvy.mono (tk.trans tk1)) .nil)))
end
theorem ext_zip {prog:Program} {w:World} {A:Around} {s:Shared} {R:Result→Shared→Prop} {S z TI TO:Addr} {res:Value} {c0:Nat} (hSz:S≠z) (hS:s.heap.get? S = some { cls:=.type "list",data:=.seq #[] c0 }) (hz:IsZip s.heap z TI TO .none)
  (h:∀ h' c,(∀ b o,b≠S→s.heap.get? b = some o→h'.get? b = some o)→h'.get? S = some { cls:=.type "list",dict:=none,data:=.seq #[] c,slots:=#[] }→codeAny (model prog w) A (.builtin "list.extend.loop" ⟨[.ref S,.ref z,res],[]⟩) R { s with heap:=h' }) :
  wpAny (model prog w) A.in1 (Builtin.List.listExtendWith (.ref S) (.ref z) res) (fun fin s' => match fin with
   | .done f => R (.ok f) s'
   | .again c => c.quiet = true∧codeAny (model prog w) A c R s') (fun e s' => R (.error e) s') s:=by
 have hT:s.TypeIs (.ref z) "zip":=⟨_,hz,rfl⟩
 have h1:Builtin.List.listSameRef (.ref S) (.ref z) = false:=by simp [Builtin.List.listSameRef,hSz]
 unfold Builtin.List.listExtendWith
 refine wpAny_bind (wpAny_typeOf hT ?_)
 rw [if_neg (by rw [h1]; decide)]
 refine wpAny_bind (wpAny_pyIter_zip hz ?_)
 refine wpAny_bind (wpAny_holding ?_)
 unfold Builtin.List.listLengthHint
 refine wpAny_bind (wpAny_specialOf hT zip_nolen ?_)
 show wpAny _ A.in1 (specialOf (Value.ref z) (Str.ofString "__length_hint__") >>= fun _ => _) _ _ s
 refine wpAny_bind (wpAny_specialOf hT zip_nohint (wpAny_pure ?_))
 rw [if_pos (by rfl)]
 refine wpAny_bind (wpAny_rule ?_)
 unfold Builtin.List.listTouch
 refine wpAny_bind (wpAny_bind ?_)
 show wpAny _ _ (updateSeq S (fun x => x.push Value.none)) _ _ s
 refine wpAny_updateSeq hS rfl ?_
 have g1:=Heap.get?_update_self (Obj.mapSeq (fun x:Array Value => x.push Value.none)) hS rfl
 have o1:∀ b o,b≠S→s.heap.get? b = some o→(s.heap.update S (Obj.mapSeq (fun x:Array Value => x.push Value.none))).get? b = some o:=fun b o hb e => (Heap.get?_update_other _ _ (Ne.symm hb)).trans e
 show wpAny _ _ (updateSeq S (fun x => x.pop)) _ _ { s with heap:=s.heap.update S (Obj.mapSeq (fun x:Array Value => x.push Value.none)) }
 refine wpAny_updateSeq g1 rfl ?_
 have g2:=Heap.get?_update_self (Obj.mapSeq (fun x:Array Value => x.pop)) g1 rfl
 exact wpAny_pure ⟨plainId_quiet F.plain_extend_loop _,h _ _ (fun b o hb e => (Heap.get?_update_other _ _ (Ne.symm hb)).trans (o1 b o hb e)) g2⟩
section
variable {X:Cx}
theorem p3_listzip {a b:Expr} {ta tb:TE3} {p1 p2 pos1 pos2:Pos} (hc:X.calm = true) (m1:X.mg "list" = none) (m2:X.mg "zip" = none) (ha:PE3 X a ta) (hb:PE3 X b tb) (g1:Gl X "list":=by rfl) (g2:Gl X "zip":=by rfl)
  (hs:starEach [.Call (.Name "zip" p2) [a,b] [] pos2] X.env = [(false,eval (.Call (.Name "zip" p2) [a,b] [] pos2) X.env)]:=by rfl) (hs0:starEach [a,b] X.env = [(false,eval a X.env),(false,eval b X.env)]:=by rfl) (hs2:starEach [b] X.env = [(false,eval b X.env)]:=by rfl)
  (hs3:starEach [a,b] X.env = (false,eval a X.env)::starEach [b] X.env:=by rfl) (hs4:starEach [b] X.env = (false,eval b X.env)::starEach [] X.env:=by rfl) :
  PE3 X (.Call (.Name "list" p1) [.Call (.Name "zip" p2) [a,b] [] pos2] [] pos1) (lz3 ta tb):=by
 intro pins s σ H Q I ⟨σ3,H3,Q3,sr,hr3,t,kk⟩
 refine Call_ (ld_blt I g1 m1 boot_list (PyProof.Rows.callWith_type1 ?_ hs rfl))
 rw [hs]
 refine Calls.spliced_cons ?_
 have hp:PA3 X [a,b] (cons3 ta (cons3 tb nil3)):=a3_cons ha (a3_cons hb a3_nil hs4) hs3
 refine Call_ (ld_blt I g2 m2 boot_zip (PyProof.Rows.callWith_type1 (thn (hp pos2 pins s σ H (fun vs H1 => ∃ t0 l0 xs ys dx dy H3',vs = [.ref t0,.ref l0]∧TK H H1∧HR X.K H3' H1∧H1 t0 = some (.tup xs)∧H1 l0 = some (.lst ys)∧RepL X.K H1 dx xs∧RepL X.K H1 dy ys∧dx.length≤1000∧∀ p,H3' p = none→Q3 (.ref p) (upd3 H3' p (.lst (zipD dx dy)))) I
  ⟨σ3,H3,fun ds H1 => (match ds with | [x,y] => lzk x y H1 Q3 | _ => False),sr,hr3,t,fun ds vs H3a Ha tka hra rs qa => ?_⟩) fun us s1 ⟨vs,H1,I1,r1,t0,l0,xs,ys,dx,dy,H3',e,tk1,hr1,et,el,px,py,hl,q⟩ => ?_) (by rw [hs0,hs2]) (by rw [hs2]; rfl)))
 ·cases rs with
  | nil => exact qa.elim
  | cons r1 r2 =>
   cases r2 with
   | nil => exact qa.elim
   | cons r2 r3 =>
    cases r3 with
    | cons _ _ => exact qa.elim
    | nil =>
     cases r1 with
     | tup ht rt =>
      cases r2 with
      | ref l =>
       (delta lzk at qa; dsimp only at qa)
       split at qa
       ·rename_i es he
        obtain ⟨ys,gy,ry⟩:=hra l _ he
        exact ⟨_,l,_,ys,_,es,H3a,rfl,tka,hra,ht,gy,rt,ry,qa.1,qa.2⟩
       ·exact qa.elim
      | _ => exact qa.elim
     | _ => exact qa.elim
 subst e
 obtain ⟨u,u',rfl,e1,e2⟩:=vals2 r1
 cases e1
 cases e2
 obtain ⟨its,rx,pt,hzx⟩:=I1.tuple (SqT.of et)
 obtain ⟨jts,ry,pl,hzy⟩:=I1.list (SqL.of el)
 have pt':s1.heap.IsTuple t0 its.toArray:=pt
 have a1:t0 < s1.heap.objs.size:=by obtain ⟨_,e,_⟩:=pt; exact Heap.lt_size e
 have a2:l0 < s1.heap.objs.size:=by obtain ⟨_,e,_⟩:=pl.isList; exact Heap.lt_size e
 refine call_zip_Tl pt' pl.isList ?_
 obtain ⟨z4,g5,g3,g4,gg1,gg2,hk⟩:=zh_at s1.heap (tIt t0) (lIt l0) rfl rfl
 generalize hn:s1.heap.objs.size = n at *
 refine Calls.spliced_nil ?_
 have I2:L2.Inv X pins σ H1 { s1 with heap:=zh5 s1.heap (tIt t0) (lIt l0),toks:=s1.toks }:=I1.kept (t':=s1.toks) hk
 have D:ZAp (n + 4) (n + 2) (n + 3) n (n + 1) [n,t0] [n + 1,l0]:=by
  exact ⟨(show (n + 2:Nat)≠n + 4 from by grind),(show (n + 3:Nat)≠n + 4 from by grind),(show (n:Nat)≠n + 4 from by grind),(show (n + 1:Nat)≠n + 4 from by grind),(show (n + 2:Nat)≠n + 3 from by grind),(show (n + 2:Nat)≠n from by grind),(show (n + 2:Nat)≠n + 1 from by grind),(show (n + 3:Nat)≠n from by grind),(show (n + 3:Nat)≠n + 1 from by grind),(show (n:Nat)≠n + 1 from by grind),⟨nm2 (show (n + 4:Nat)≠n from by grind) (ltn a1).1,nm2 (show (n + 3:Nat)≠n from by grind) (ltn a1).2.1,nm2 (show (n + 1:Nat)≠n from by grind) (ltn a1).2.2.1⟩,⟨nm2 (show (n + 4:Nat)≠n + 1 from by grind) (ltn a2).1,nm2 (show (n + 3:Nat)≠n + 1 from by grind) (ltn a2).2.1,nm2 (show (n:Nat)≠n + 1 from by grind) (ltn a2).2.2.2⟩⟩
 generalize hh5:zh5 s1.heap (tIt t0) (lIt l0) = h5 at *
 have z5:h5.objs.size = n + 5:=by rw [← hh5,Heap.size_push,z4]
 refine callType_codes (Q₁:=fun obj s₁ => obj = .ref h5.objs.size∧s₁ = { s1 with heap:=h5.push { cls:=.type "list",data:=.seq #[] } }) F.called_list (F.typeCall_list_1 _) F.entry_list_init (code_list_new _ ⟨rfl,rfl⟩) ?_
 rintro obj s₁ ⟨rfl,rfl⟩
 have hS:(h5.push { cls:=.type "list",data:=.seq #[] }).get? h5.objs.size = some { cls:=.type "list",data:=.seq #[] }:=Heap.get?_push_size _ rfl
 refine ⟨⟨_,hS,rfl⟩,F.args_list_init_2 _ _,?_⟩
 generalize hp6:h5.push { cls:=.type "list",data:=.seq #[] } = h6 at hS
 have k6:∀ b o,h5.get? b = some o→h6.get? b = some o:=fun b o e => by rw [← hp6]; exact Heap.get?_push_of_some _ e
 show wpAny _ _ (Builtin.List.listItems (.ref h5.objs.size) >>= fun old => Builtin.List.listUpdate (.ref h5.objs.size) (fun _ => #[]) >>= fun _ => letGo old.toList.reverse >>= fun _ => Builtin.List.listExtendWith (.ref h5.objs.size) (.ref (n + 4)) .none) _ _ _
 refine wpAny_bind ?_
 unfold Builtin.List.listItems
 refine wpAny_bind (wpAny_seqItems hS rfl (wpAny_pure ?_))
 show wpAny _ _ (updateSeq h5.objs.size (fun _ => #[]) >>= fun _ => letGo (#[]:Array Value).toList.reverse >>= fun _ => Builtin.List.listExtendWith (.ref h5.objs.size) (.ref (n + 4)) .none) _ _ _
 refine wpAny_bind (wpAny_updateSeq hS rfl ?_)
 have hS2:=Heap.get?_update_self (Obj.mapSeq (fun _ => (#[]:Array Value))) hS rfl
 have oth:∀ b o,b≠h5.objs.size→h6.get? b = some o→(h6.update h5.objs.size (Obj.mapSeq (fun _ => (#[]:Array Value)))).get? b = some o:=fun b o hb e => (Heap.get?_update_other _ _ (Ne.symm hb)).trans e
 generalize h6.update h5.objs.size (Obj.mapSeq (fun _ => (#[]:Array Value))) = h7 at hS2 oth
 refine wpAny_bind (wpAny_letGo ?_)
 have lt5:∀ {b:Addr} {o:Obj},h5.get? b = some o→b≠h5.objs.size:=fun e => Nat.ne_of_lt (Heap.lt_size e)
 have k7:∀ b o,h5.get? b = some o→h7.get? b = some o:=fun b o e => oth b o (lt5 e) (k6 b o e)
 refine ext_zip (A:=X.A.in1) (s:={ s1 with heap:=h7 }) (TI:=n + 2) (TO:=n + 3) (by rw [z5]; show (n + 5:Nat)≠n + 4; grind) hS2 (k7 _ _ g5) fun h8 c8 k8 hS8 => ?_
 have k58:∀ b o,h5.get? b = some o→h8.get? b = some o:=fun b o e => k8 b o (lt5 e) (k7 b o e)
 have I8:L2.Inv X pins σ H1 { s1 with heap:=h8,toks:=s1.toks }:=I1.kept (t':=s1.toks) fun b o e => k58 b o (hk b o e)
 have fp:∀ b,n≤b→FpOk X pins H1 b:=fun b hb => I1.fpOk (b:=b) (H':=H1) (by rw [hn]; exact hb) (I1.hok.fresh (by rw [hn]; exact hb))
 refine zip_loop (X:=X) (pins:=pins) (σ:=σ) (A:=X.A.in1) (H0:=H1) (H3:=H3') (us:=its) (ws:=jts) (xs:=xs) (ys:=ys) (dx:=dx) (dy:=dy) (I1.ok.hd hc) D (Nat.ne_of_lt a1) (Nat.ne_of_lt (Nat.lt_of_lt_of_le a2 (Nat.le_succ n)))
  (by rw [z5]; simp only [List.mem_cons,List.not_mem_nil,or_false,not_or]; exact ⟨(show (n + 5:Nat)≠n + 4 from by grind),(show (n + 5:Nat)≠n + 2 from by grind),(show (n + 5:Nat)≠n + 3 from by grind),(show (n + 5:Nat)≠n from by grind),(show (n + 5:Nat)≠n + 1 from by grind)⟩)
  (by rw [z5]; exact Ne.symm (Nat.ne_of_lt (Nat.lt_of_lt_of_le a1 (Nat.le_add_right n 5)))) (by rw [z5]; exact Ne.symm (Nat.ne_of_lt (Nat.lt_of_lt_of_le a2 (Nat.le_add_right n 5)))) rx ry px py (by rw [← rx.length,← px.length]; exact hl)
  _ 0 _ H1 #[] c8 [] rfl (Nat.zero_le _) I8 TK.refl hr1 (fun b hb => fp b (by simp only [List.mem_cons,List.not_mem_nil,or_false] at hb; rcases hb with rfl | rfl | rfl | rfl | rfl <;> first | exact Nat.le_refl _ | exact Nat.le_add_right _ _)) (fp _ (by rw [z5]; exact Nat.le_add_right _ _))
  (.inl ⟨k58 _ _ g5,_,_,k58 _ _ g4⟩) (k58 _ _ g3) ⟨_,k58 _ _ gg1,rfl,rfl⟩ (pt'.at fun o e => k58 _ _ (hk _ _ e)) ⟨_,k58 _ _ gg2,rfl,rfl⟩ (pl.isList.at fun o e => k58 _ _ (hk _ _ e)) hS8 .nil .nil rfl ?_
 intro s' H' vs' acc' c' I' tk' hr' fS fz hS' hv' rp' hl'
 refine ⟨rfl,?_⟩
 have J:=Inv.adopt (D:=h5.objs.size) (kS:=n + 4) (xs:=vs') (its:=acc'.toList) (n:=c') (h':=s'.heap) I' fS fz (fun b o _ _ e => e) (by rw [Array.toArray_toList]; exact hS') hv' (le_line hl')
 refine ⟨.ref h5.objs.size,_,J,rfl,kk _ _ _ _ ((tk1.trans tk').trans (TK.fresh fS.1)) (hr'.setL (TK.fresh fS.1) (rp'.mono (TK.fresh fS.1))) (.ref _) (q _ (hr'.fresh fS.1))⟩
end
theorem vals_ints {us:List Value} {ns:List Int} (h:IntsAre us ns):Vals (ns.map V.int) us:=by
 induction h with
 | nil => exact .nil
 | cons n t _ ih => exact .cons ⟨t,rfl⟩ ih
section
variable {X:Cx}
theorem cb3_sortI:CallR X (.builtin "sorted") (liftC X.K r3sortI):=by
 intro pins s σ H xs us Q I rs h
 obtain ⟨ds,H3,Q3,hr,rd,t,k⟩:=h
 cases rd with
 | nil => exact t.elim
 | cons r1 r2 =>
  cases r2 with
  | cons _ _ => cases r1 <;> exact t.elim
  | nil =>
   cases r1 with
   | ref a =>
    (delta r3sortI at t; dsimp only at t)
    split at t
    ·rename_i ds ha
     split at t
     ·rename_i ns en
      obtain ⟨h64,t⟩:=t
      have e':=intsOf_inv en
      subst e'
      obtain ⟨vs,ga,ra⟩:=hr a _ ha
      have ev:=RepL.ints_inv ra
      subst ev
      obtain ⟨its,rv,pl,hz⟩:=I.list (SqL.of ga)
      obtain ⟨u,rfl,ru⟩:=Vals.one rs
      obtain rfl:u = Value.ref a:=ru
      have hl:its.length = ns.length:=by rw [← rv.length,List.length_map]
      refine PyProof.Rows.sorted_ints pl.isList (intsAre_of rv) (by grind) fun out ms hI hp hw => ?_
      obtain ⟨e,he⟩:=sortedAll_at s.heap its out
      have hml:ms.length = ns.length:=hp.length_eq
      have fr:H (s.heap.objs.size + 1) = none:=I.hok.fresh (Nat.le_succ _)
      refine ⟨.ref (s.heap.objs.size + 1),_,I.laid (t':=s.toks) (a:=s.heap.objs.size + 1) (o:=.lst (ms.map V.int)) (fun b o q => sortedAll_old q) (Nat.le_succ _) ⟨by rw [List.length_map,hml]; exact le_line (by grind),out.toList,e,vals_ints hI,?_⟩,rfl,?_⟩
      ·rw [Array.toArray_toList]; exact he
      ·exact k _ _ _ _ (TK.fresh fr) (hr.setL (TK.fresh fr) (RepL.ints ms)) (.ref _) (t ms _ hp hw (hr.fresh fr))
     ·exact t.elim
    ·exact t.elim
   | _ => exact t.elim
theorem sl3_tup:SlR X (liftSl X.K r3slT):=by
 intro pins s σ H x v vl vu lo hi sl Q I rx hs pl pu h
 obtain ⟨d,H3,Q3,hr,rd,t,k⟩:=h
 cases rd with
 | tup ha ra =>
  obtain ⟨hw,t⟩:=t
  refine sl_tup pins s σ H _ v vl vu lo hi sl Q I rx hs pl pu ⟨_,_,rfl,SqT.of ha,by rw [← ra.length]; exact hw,fun p n => k _ _ _ _ (TK.fresh n) (hr.tup n) (.tup upd_same ?_) t⟩
  exact (cut3_rep ra lo hi).mono (TK.fresh n)
 | _ => exact t.elim
end
end L3
namespace L3
end L3
namespace L3
open PySem PySem.Spec PySem.W PyProof.Rows
end L3
namespace L3
open PySem PySem.Spec PyProof.Rows L2
def rk (f:Nat→List Int) (n i:Nat):Int:=(((List.range n).countP fun k => HT.lexLt (f k) (f i)):Nat)
theorem eqv_ints:∀ ns:List Int,PyData.eqvAll (ns.map PyData.int) (ns.map PyData.int) = true
 | [] => by simp [PyData.eqvAll]
 | n::ns => by simp [PyData.eqvAll,PyData.eqv,eqv_ints ns]
abbrev Gc:=(Int×Int×Int)×Pt
def q5 (q:Gc):List Int:=[q.1.1,q.1.2.1,q.1.2.2,q.2.1,q.2.2]
section
variable {X:Cx}
def TI (K:PySem.W.Frag) (H:Hp) (ns:List Int) (b:Addr):Prop:=∃ v,Rep K H (.tup (ns.map D.int)) v∧RelV v (.ref b)
end
end L3
namespace L3
end L3
namespace L3.ST
open PySem PySem.SetTable
def adv (M:Nat) (p:Probe):Probe:=if p.more > 0 then { p with j:=p.j + 1,more:=p.more - 1 } else { p with j:=(leap M p.i p.perturb).1,more:=runEnd M (leap M p.i p.perturb).1 - (leap M p.i p.perturb).1,i:=(leap M p.i p.perturb).1,perturb:=(leap M p.i p.perturb).2 }
def itr (M:Nat) (p:Probe):Nat→Probe
 | 0 => p
 | n + 1 => itr M (adv M p) n
theorem itr_succ (M:Nat):∀ (n:Nat) (p:Probe),itr M p (n + 1) = adv M (itr M p n)
 | 0,_ => rfl
 | n + 1,p => itr_succ M n (adv M p)
theorem itr_add (M:Nat):∀ (m n:Nat) (p:Probe),itr M p (m + n) = itr M (itr M p m) n
 | 0,n,p => by rw [Nat.zero_add]; rfl
 | m + 1,n,p => by rw [show m + 1 + n = (m + n) + 1 from by grind]; exact itr_add M m n (adv M p)
def blk (M:Nat) (x:Nat×Nat) (d:Option Nat):Probe:={ j:=x.1,more:=runEnd M x.1 - x.1,i:=x.1,perturb:=x.2,dummy:=d }
theorem run_le (M i:Nat):i≤runEnd M i∧runEnd M i≤i + 9:=by unfold runEnd; split <;> grind
theorem itr_run (M:Nat):∀ (k:Nat) (p:Probe),k≤p.more→itr M p k = { p with j:=p.j + k,more:=p.more - k }
 | 0,p,_ => rfl
 | k + 1,p,h => by
  have e:adv M p = { p with j:=p.j + 1,more:=p.more - 1 }:=if_pos (by grind)
  show itr M (adv M p) k = _
  rw [e,itr_run M k _ (by show k≤p.more - 1; grind)]
  show Probe.mk (p.j + 1 + k) (p.more - 1 - k) p.i p.perturb p.dummy = Probe.mk (p.j + (k + 1)) (p.more - (k + 1)) p.i p.perturb p.dummy
  rw [show p.j + 1 + k = p.j + (k + 1) from by grind,show p.more - 1 - k = p.more - (k + 1) from by grind]
theorem itr_leap (M:Nat) (p:Probe):itr M p (p.more + 1) = blk M (leap M p.i p.perturb) p.dummy:=by
 rw [itr_succ,itr_run M p.more p (Nat.le_refl _)]
 exact if_neg (show ¬ p.more - p.more > 0 by grind)
def lpN (M:Nat):Nat→Nat×Nat→Nat×Nat
 | 0,x => x
 | n + 1,x => lpN M n (leap M x.1 x.2)
theorem itr_leaps (M:Nat) (d:Option Nat):∀ (L:Nat) (x:Nat×Nat),∃ n,n≤10 * L∧itr M (blk M x d) n = blk M (lpN M L x) d
 | 0,x => ⟨0,by grind,rfl⟩
 | L + 1,x => by
  obtain ⟨n,h1,h2⟩:=itr_leaps M d L (leap M x.1 x.2)
  have r:=run_le M x.1
  have e:=itr_leap M (blk M x d)
  refine ⟨(blk M x d).more + 1 + n,?_,?_⟩
  ·show runEnd M x.1 - x.1 + 1 + n≤_; grind
  ·rw [itr_add,e]; exact h2
theorem lpN_pt (M:Nat):∀ (L:Nat) (x:Nat×Nat),(lpN M L x).2 = x.2 / 32 ^ L
 | 0,x => by show x.2 = x.2 / 32 ^ 0; rw [Nat.pow_zero,Nat.div_one]
 | L + 1,x => by
  show (lpN M L (leap M x.1 x.2)).2 = _
  rw [lpN_pt M L]
  show x.2 / 32 / 32 ^ L = _
  rw [Nat.div_div_eq_div_mul,Nat.pow_succ,Nat.mul_comm]
theorem lpN_add (M:Nat):∀ (a b:Nat) (x:Nat×Nat),lpN M (a + b) x = lpN M b (lpN M a x)
 | 0,b,x => by rw [Nat.zero_add]; rfl
 | a + 1,b,x => by rw [show a + 1 + b = (a + b) + 1 from by grind]; exact lpN_add M a b _
def l0 (M i:Nat):Nat:=(i * 5 + 1) % (M + 1)
def l0N (M:Nat):Nat→Nat→Nat
 | 0,i => i
 | n + 1,i => l0N M n (l0 M i)
theorem l0N_add (M:Nat):∀ (a b:Nat) (x:Nat),l0N M (a + b) x = l0N M b (l0N M a x)
 | 0,b,x => by rw [Nat.zero_add]; rfl
 | a + 1,b,x => by rw [show a + 1 + b = (a + b) + 1 from by grind]; exact l0N_add M a b _
theorem lpN_zero (M:Nat):∀ (L i:Nat),lpN M L (i,0) = (l0N M L i,0)
 | 0,_ => rfl
 | L + 1,i => by
  show lpN M L (leap M i 0) = (l0N M L (l0 M i),0)
  have e:leap M i 0 = (l0 M i,0):=by unfold leap l0; rw [Nat.zero_div,Nat.add_zero]
  rw [e,lpN_zero M L]
def orb (M:Nat):Nat→Nat→List Nat
 | 0,_ => []
 | n + 1,i => i::orb M n (l0 M i)
theorem orb_mem (M:Nat):∀ (n i j:Nat),j∈orb M n i→∃ a,a < n∧l0N M a i = j
 | 0,_,_,h => by cases h
 | n + 1,i,j,h => by
  rcases List.mem_cons.mp h with e | h
  ·exact ⟨0,by grind,e.symm⟩
  ·obtain ⟨a,h1,h2⟩:=orb_mem M n (l0 M i) j h
   exact ⟨a + 1,by grind,h2⟩
def Msk (M:Nat):Prop:=M = 7∨M = 31∨M = 127
theorem orb_all {M:Nat} (h:Msk M):(∀ j,j≤M→j∈orb M (M + 1) 0)∧l0N M (M + 1) 0 = 0:=by
 have k7:((List.range 8).all fun j => (orb 7 8 0).contains j) = true:=by decide
 have k31:((List.range 32).all fun j => (orb 31 32 0).contains j) = true:=by decide +kernel
 have k127:((List.range 128).all fun j => (orb 127 128 0).contains j) = true:=by decide +kernel
 have key:∀ {m:Nat},((List.range (m + 1)).all fun j => (orb m (m + 1) 0).contains j) = true→∀ j,j≤m→j∈orb m (m + 1) 0:=fun {m} k j hj => by
  have:=List.all_eq_true.mp k j (List.mem_range.mpr (by grind))
  simpa using this
 rcases h with rfl | rfl | rfl
 ·exact ⟨key k7,by decide⟩
 ·exact ⟨key k31,by decide +kernel⟩
 ·exact ⟨key k127,by decide +kernel⟩
theorem l0_cycle {M:Nat} (h:Msk M) {i j:Nat} (hi:i≤M) (hj:j≤M):∃ L,L≤M∧l0N M L i = j:=by
 obtain ⟨h1,h2⟩:=orb_all h
 obtain ⟨a,ha,ea⟩:=orb_mem M _ _ _ (h1 i hi)
 obtain ⟨b,hb,eb⟩:=orb_mem M _ _ _ (h1 j hj)
 by_cases hab:a≤b
 ·refine ⟨b - a,by grind,?_⟩
  have e:=l0N_add M a (b - a) 0
  rw [show a + (b - a) = b from by grind,ea,eb] at e
  exact e.symm
 ·refine ⟨M + 1 - a + b,by grind,?_⟩
  have e:=l0N_add M a (M + 1 - a + b) 0
  rw [show a + (M + 1 - a + b) = (M + 1) + b from by grind,l0N_add,h2,eb,ea] at e
  exact e.symm
theorem lpN_lt (M:Nat):∀ (L:Nat) (x:Nat×Nat),1≤L→(lpN M L x).1≤M
 | 1,x,_ => by
  show (x.1 * 5 + 1 + x.2 / 32) % (M + 1)≤M
  have:=Nat.mod_lt (x.1 * 5 + 1 + x.2 / 32) (show 0 < M + 1 by grind); grind
 | L + 2,x,_ => lpN_lt M (L + 1) _ (by grind)
theorem cover {M:Nat} (h:Msk M) {p:Probe} (hm:p.more≤9) (hp:p.perturb < 2 ^ 64) {j:Nat} (hj:j≤M):∃ n,n < 10 * turns M∧(itr M p n).j = j:=by
 have e1:=itr_leap M p
 have c1:=itr_leaps M p.dummy 12 (leap M p.i p.perturb)
 obtain ⟨n1,h1,e2⟩:=c1
 have hpt:(lpN M 12 (leap M p.i p.perturb)).2 = 0:=by
  have:=lpN_pt M 13 (p.i,p.perturb)
  rw [show (lpN M 13 (p.i,p.perturb)) = lpN M 12 (leap M p.i p.perturb) from rfl] at this
  rw [this]
  exact Nat.div_eq_of_lt (Nat.lt_of_lt_of_le hp (by decide))
 have hlt:(lpN M 12 (leap M p.i p.perturb)).1≤M:=lpN_lt M 12 _ (by decide)
 generalize lpN M 12 (leap M p.i p.perturb) = x at e2 hpt hlt
 obtain ⟨i,pt⟩:=x
 dsimp only at hpt hlt
 subst hpt
 obtain ⟨L,hL,eL⟩:=l0_cycle h hlt hj
 obtain ⟨n2,h2,e3⟩:=itr_leaps M p.dummy L (i,0)
 rw [lpN_zero,eL] at e3
 refine ⟨p.more + 1 + n1 + n2,?_,?_⟩
 ·unfold turns; grind
 ·rw [itr_add,itr_add,e1,e2,e3]; rfl
def Rise (xs:Array Nat):Prop:=∀ a b,a < b→b < xs.size→xs.getD a 0 < xs.getD b 0
theorem getD_other (xs:Array Nat) {i:Nat} (h:i < xs.size) (a b:Nat):xs.getD i a = xs.getD i b:=by simp [Array.getD,h]
theorem below_go (xs:Array Nat) (j:Nat) (hr:Rise xs):∀ (f lo hi:Nat),lo≤hi→hi≤xs.size→hi - lo≤f→(∀ i,i < lo→xs.getD i 0 < j)→(∀ i,hi≤i→i < xs.size→j≤xs.getD i 0) →
  below.go xs j f lo hi≤xs.size∧(∀ i,i < below.go xs j f lo hi→xs.getD i 0 < j)∧∀ i,below.go xs j f lo hi≤i→i < xs.size→j≤xs.getD i 0
 | 0,lo,hi,h1,h2,h3,a,b => by
  have:lo = hi:=by grind
  subst this
  exact ⟨h2,a,b⟩
 | f + 1,lo,hi,h1,h2,h3,a,b => by
  unfold below.go
  by_cases hlt:lo < hi
  ·rw [if_pos hlt]
   dsimp only
   have hm1:lo≤(lo + hi) / 2:=by grind
   have hm2:(lo + hi) / 2 < hi:=by grind
   rw [getD_other xs (show (lo + hi) / 2 < xs.size by grind) j 0]
   by_cases hc:xs.getD ((lo + hi) / 2) 0 < j
   ·rw [if_pos hc]
    refine below_go xs j hr f _ hi (by grind) h2 (by grind) (fun i hi' => ?_) b
    by_cases e:i = (lo + hi) / 2
    ·rw [e]; exact hc
    ·exact Nat.lt_trans (hr i _ (by grind) (by grind)) hc
   ·rw [if_neg hc]
    refine below_go xs j hr f lo _ (by grind) (by grind) (by grind) a fun i hi' hs => ?_
    by_cases e:i = (lo + hi) / 2
    ·rw [e]; grind
    ·have:=hr _ i (show (lo + hi) / 2 < i by grind) hs; grind
  ·rw [if_neg hlt]
   have:lo = hi:=by grind
   subst this
   exact ⟨h2,a,b⟩
theorem below_is {xs:Array Nat} (hr:Rise xs) (j:Nat):below xs j≤xs.size∧(∀ i,i < below xs j→xs.getD i 0 < j)∧∀ i,below xs j≤i→i < xs.size→j≤xs.getD i 0 :=
 below_go xs j hr xs.size 0 xs.size (Nat.zero_le _) (Nat.le_refl _) (by grind) (fun i h => absurd h (by grind)) fun i h1 h2 => absurd h1 (by grind)
def Has (xs:Array Nat) (j:Nat):Prop:=∃ i,i < xs.size∧xs.getD i 0 = j
theorem get_getD {xs:Array Nat} {i:Nat} (h:i < xs.size):xs[i]? = some (xs.getD i 0):=by simp [Array.getD,h]
theorem slot_at {t:SetTable} (hr:Rise t.place) (i:Nat) (h:i < t.place.size):t.slot (t.place.getD i 0) = .live i:=by
 obtain ⟨b1,b2,b3⟩:=below_is hr (t.place.getD i 0)
 have e:below t.place (t.place.getD i 0) = i:=by
  rcases Nat.lt_trichotomy (below t.place (t.place.getD i 0)) i with z | z | z
  ·have h1:=b3 _ (Nat.le_refl _) (by omega)
   have h2:=hr _ i z h
   omega
  ·exact z
  ·have:=b2 i z; omega
 unfold slot
 dsimp only
 rw [e,get_getD h,if_pos (by simp)]
theorem slot_none {t:SetTable} (hr:Rise t.place) (hd:t.dummies = #[]) {j:Nat} (h:¬ Has t.place j):t.slot j = .empty:=by
 unfold slot
 dsimp only
 have e1:(t.place[below t.place j]? == some j) = false:=by
  by_cases hb:below t.place j < t.place.size
  ·rw [get_getD hb]
   simp only [Option.some_beq_some,beq_eq_false_iff_ne,ne_eq]
   exact fun z => h ⟨_,hb,z⟩
  ·rw [Array.getElem?_eq_none (by grind)]; rfl
 have e2:has t.dummies j = false:=by rw [hd]; rfl
 rw [if_neg (by rw [e1]; exact Bool.false_ne_true),if_neg (by rw [e2]; exact Bool.false_ne_true)]
theorem put_size (xs:Array Nat) (p x:Nat) (hp:p≤xs.size):(insertAt xs p x).size = xs.size + 1:=by
 unfold insertAt
 simp only [Array.size_append,Array.size_push,Array.size_extract]; grind
theorem put_get {α:Type} (xs:Array α) (p:Nat) (x d:α) (hp:p≤xs.size) (i:Nat):(insertAt xs p x).getD i d = if i < p then xs.getD i d else if i = p then x else xs.getD (i - 1) d:=by
 have key:(insertAt xs p x)[i]? = if i < p then xs[i]? else if i = p then some x else xs[i - 1]?:=by
  unfold insertAt
  rw [Array.getElem?_append,Array.size_push,Array.size_extract]
  rw [show min p xs.size - 0 + 1 = p + 1 from by grind]
  by_cases h1:i < p
  ·rw [if_pos (by grind),if_pos h1,Array.getElem?_push,if_neg (by rw [Array.size_extract]; grind),Array.getElem?_extract]
   rw [if_pos (by grind),Nat.zero_add]
  ·rw [if_neg h1]
   by_cases h2:i = p
   ·rw [if_pos (by grind),if_pos h2,Array.getElem?_push,if_pos (by rw [Array.size_extract]; grind)]
   ·rw [if_neg (by grind),if_neg h2,Array.getElem?_extract]
    by_cases h3:i - (p + 1) < xs.size - p
    ·rw [if_pos (by grind)]; congr 1; grind
    ·rw [if_neg (by grind),Array.getElem?_eq_none (by grind)]
 rw [Array.getD_eq_getD_getElem?,key,Array.getD_eq_getD_getElem?,Array.getD_eq_getD_getElem?]
 split
 ·rfl
 ·split <;> rfl
end L3.ST
namespace L3.ST
open PySem PySem.SetTable
def st0 (M:Nat) (h:Int):Probe:=blk M (bits h % (M + 1),bits h) none
theorem bits_lt (h:Int):bits h < 2 ^ 64:=by
 unfold bits
 have h1:=Int.emod_nonneg h (show (2 ^ 64:Int)≠0 by decide)
 have h2:=Int.emod_lt_of_pos h (show (0:Int) < 2 ^ 64 by decide)
 have e:((2:Nat) ^ 64:Nat) = ((2:Int) ^ 64).toNat:=by decide
 rw [e]
 exact (Int.toNat_lt_toNat (by decide)).mpr h2
theorem itr_dummy (M:Nat):∀ (n:Nat) (p:Probe),(itr M p n).dummy = p.dummy
 | 0,_ => rfl
 | n + 1,p => by
  show (itr M (adv M p) n).dummy = _
  rw [itr_dummy M n]
  unfold adv; split <;> rfl
def Rch (M:Nat) (occ:Nat→Prop) (h:Int) (j:Nat):Prop:=∃ n,(itr M (st0 M h) n).j = j∧∀ m,m < n→occ (itr M (st0 M h) m).j
theorem Rch.mono {M:Nat} {occ occ':Nat→Prop} {h:Int} {j:Nat} (r:Rch M occ h j) (k:∀ j,occ j→occ' j):Rch M occ' h j:=by
 obtain ⟨n,h1,h2⟩:=r
 exact ⟨n,h1,fun m hm => k _ (h2 m hm)⟩
structure Tb (t:SetTable) (hs:Nat→Int) (n:Nat):Prop where
 size:t.place.size = n
 rise:Rise t.place
 le:∀ i,i < n→t.place.getD i 0≤t.mask
 nod:t.dummies = #[]
 msk:Msk t.mask
 rch:∀ i,i < n→Rch t.mask (Has t.place) (hs i) (t.place.getD i 0)
theorem tb_free {t:SetTable} {hs:Nat→Int} {n:Nat} (T:Tb t hs n) (hn:n≤t.mask):∃ j,j≤t.mask∧¬ Has t.place j:=by
 apply Classical.byContradiction
 intro z
 have all:∀ j,j≤t.mask→Has t.place j:=fun j hj => Classical.byContradiction fun y => z ⟨j,hj,y⟩
 have key:∀ j,j≤t.mask→∃ i,i < t.place.size∧t.place.getD i 0 = j∧j≤i:=by
  intro j
  induction j with
  | zero => intro hj; obtain ⟨i,h1,h2⟩:=all 0 hj; exact ⟨i,h1,h2,Nat.zero_le _⟩
  | succ j ih =>
   intro hj
   obtain ⟨i,h1,h2,h3⟩:=ih (by grind)
   obtain ⟨i',g1,g2⟩:=all (j + 1) hj
   refine ⟨i',g1,g2,?_⟩
   apply Classical.byContradiction
   intro y
   by_cases e:i' = i
   ·rw [e] at g2; grind
   ·have:=T.rise i' i (by grind) h1; grind
 obtain ⟨i,h1,_,h3⟩:=key t.mask (Nat.le_refl _)
 rw [T.size] at h1
 grind
theorem tb_end {t:SetTable} {hs:Nat→Int} {n:Nat} (T:Tb t hs n) (hn:n≤t.mask) (h:Int):∃ e,e < 10 * turns t.mask∧¬ Has t.place (itr t.mask (st0 t.mask h) e).j∧∀ m,m < e→Has t.place (itr t.mask (st0 t.mask h) m).j:=by
 obtain ⟨j,h1,h2⟩:=tb_free T hn
 obtain ⟨k,k1,k2⟩:=cover T.msk (p:=st0 t.mask h) (by have:=run_le t.mask (bits h % (t.mask + 1)); show runEnd t.mask (bits h % (t.mask + 1)) - bits h % (t.mask + 1)≤9; grind) (bits_lt h) h1
 have:∀ k,k < 10 * turns t.mask→¬ Has t.place (itr t.mask (st0 t.mask h) k).j→∃ e,e < 10 * turns t.mask∧¬ Has t.place (itr t.mask (st0 t.mask h) e).j∧∀ m,m < e→Has t.place (itr t.mask (st0 t.mask h) m).j:=by
  intro k
  induction k using Nat.strongRecOn with
  | ind k ih =>
   intro hk hq
   by_cases z:∃ m,m < k∧¬ Has t.place (itr t.mask (st0 t.mask h) m).j
   ·obtain ⟨m,m1,m2⟩:=z
    exact ih m m1 (by grind) m2
   ·exact ⟨k,hk,hq,fun m hm => Classical.byContradiction fun y => z ⟨m,hm,y⟩⟩
 exact this k k1 (by rw [k2]; exact h2)
theorem go_run {t:SetTable} {hs hA:Nat→Int} {n:Nat} (T:Tb t hs n) (hA':∀ i,i < n→hA i = hs i) (h:Int):∀ (k f:Nat) (p:Probe),p.dummy = none→k < f→¬ Has t.place (itr t.mask p k).j→(∀ m,m < k→Has t.place (itr t.mask p m).j) →
  (probe.go t hA h f p = some (.empty (itr t.mask p k).j none)∧∀ m i,m < k→i < n→t.place.getD i 0 = (itr t.mask p m).j→hs i≠h) ∨
  ∃ m i,m < k∧i < n∧t.place.getD i 0 = (itr t.mask p m).j∧hs i = h∧probe.go t hA h f p = some (.candidate (itr t.mask p m).j i (itr t.mask p (m + 1)))∧∀ m' i',m' < m→i' < n→t.place.getD i' 0 = (itr t.mask p m').j→hs i'≠h
 | 0,f + 1,p,hd,hf,he,_ => by
  refine .inl ⟨?_,fun m i hm => absurd hm (Nat.not_lt_zero _)⟩
  unfold probe.go
  have:t.slot p.j = .empty:=slot_none T.rise T.nod he
  rw [this]
  show some (Met.empty p.j p.dummy) = _
  rw [hd]; rfl
 | k + 1,f + 1,p,hd,hf,he,hm => by
  obtain ⟨i,hi,ei⟩:=hm 0 (by grind)
  have es:t.slot p.j = .live i:=by
   have:=slot_at T.rise i hi
   rw [ei] at this
   exact this
  rw [T.size] at hi
  have own:∀ i',i' < n→t.place.getD i' 0 = p.j→i' = i:=by
   intro i' h1 h2
   rw [show p.j = t.place.getD i 0 from ei.symm] at h2
   rcases Nat.lt_trichotomy i' i with z | z | z
   ·have:=T.rise i' i z (by rw [T.size]; exact hi); grind
   ·exact z
   ·have:=T.rise i i' z (by rw [T.size]; exact h1); grind
  by_cases hc:hs i = h
  ·refine .inr ⟨0,i,by grind,hi,ei,hc,?_,fun m' _ z => absurd z (Nat.not_lt_zero _)⟩
   unfold probe.go
   rw [es]
   show (if (hA i == h) = true then some (Met.candidate p.j i (t.advance p)) else _) = _
   rw [if_pos (by rw [hA' i hi,hc]; exact beq_self_eq_true h)]
   rfl
  ·have step:probe.go t hA h (f + 1) p = probe.go t hA h f (adv t.mask p):=by
    conv => lhs; unfold probe.go
    rw [es]
    show (if (hA i == h) = true then some (Met.candidate p.j i (t.advance p)) else _) = _
    rw [if_neg (by rw [hA' i hi]; simpa using hc)]
    rfl
   have first:∀ m i',m = 0→i' < n→t.place.getD i' 0 = (itr t.mask p m).j→hs i'≠h:=fun m i' z h1 h2 => by
    subst z
    rw [own i' h1 h2]; exact hc
   rcases go_run T hA' h k f (adv t.mask p) (by rw [← hd]; exact itr_dummy t.mask 1 p) (by grind) he (fun m hm' => hm (m + 1) (by grind)) with ⟨g1,g2⟩ | ⟨m,i',g1,g2,g3,g4,g5,g6⟩
   ·refine .inl ⟨step.trans g1,fun m i' h1 h2 h3 => ?_⟩
    cases m with
    | zero => exact first 0 i' rfl h2 h3
    | succ m => exact g2 m i' (by grind) h2 h3
   ·refine .inr ⟨m + 1,i',by grind,g2,g3,g4,step.trans g5,fun m' i'' h1 h2 h3 => ?_⟩
    cases m' with
    | zero => exact first 0 i'' rfl h2 h3
    | succ m' => exact g6 m' i'' (by grind) h2 h3
theorem tb_put {t:SetTable} {hs:Nat→Int} {n:Nat} (T:Tb t hs n) {h:Int} {e:Nat} (he:¬ Has t.place (itr t.mask (st0 t.mask h) e).j) (hm:∀ m,m < e→Has t.place (itr t.mask (st0 t.mask h) m).j) (hj:(itr t.mask (st0 t.mask h) e).j≤t.mask) :
  Tb (t.put (itr t.mask (st0 t.mask h) e).j).1 (fun i => if i < (t.put (itr t.mask (st0 t.mask h) e).j).2 then hs i else if i = (t.put (itr t.mask (st0 t.mask h) e).j).2 then h else hs (i - 1)) (n + 1)∧(t.put (itr t.mask (st0 t.mask h) e).j).2≤n:=by
 generalize hjj:(itr t.mask (st0 t.mask h) e).j = j at he hj ⊢
 obtain ⟨b1,b2,b3⟩:=below_is T.rise j
 have hb:below t.place j≤n:=by rw [← T.size]; exact b1
 have b3':∀ i,below t.place j≤i→i < t.place.size→j < t.place.getD i 0:=fun i h1 h2 => by
  have:=b3 i h1 h2
  rcases Nat.lt_or_ge j (t.place.getD i 0) with z | z
  ·exact z
  ·exact absurd ⟨i,h2,by omega⟩ he
 have get:=put_get t.place (below t.place j) j 0 b1
 have sz:=put_size t.place (below t.place j) j b1
 have hasMono:∀ x,Has t.place x→Has (insertAt t.place (below t.place j) j) x:=by
  rintro x ⟨i,h1,h2⟩
  by_cases z:i < below t.place j
  ·exact ⟨i,by omega,by rw [get,if_pos z]; exact h2⟩
  ·exact ⟨i + 1,by omega,by rw [get,if_neg (by omega),if_neg (by omega)]; exact h2⟩
 have e2:(t.put j).2 = below t.place j:=rfl
 have e1:(t.put j).1.place = insertAt t.place (below t.place j) j:=rfl
 have e3:(t.put j).1.mask = t.mask:=rfl
 refine ⟨⟨?_,?_,?_,?_,?_,?_⟩,hb⟩
 ·rw [e1,sz,T.size]
 ·rw [e1]
  intro a b hab hbs
  rw [sz] at hbs
  rw [get,get]
  by_cases z1:a < below t.place j
  ·rw [if_pos z1]
   by_cases z2:b < below t.place j
   ·rw [if_pos z2]; exact T.rise a b hab (by omega)
   ·rw [if_neg z2]
    by_cases z3:b = below t.place j
    ·rw [if_pos z3]; exact b2 a z1
    ·rw [if_neg z3]; exact T.rise a (b - 1) (by omega) (by omega)
  ·rw [if_neg z1,if_neg (show ¬ b < below t.place j by omega),if_neg (show ¬ b = below t.place j by omega)]
   by_cases z3:a = below t.place j
   ·rw [if_pos z3]; exact b3' (b - 1) (by omega) (by omega)
   ·rw [if_neg z3]; exact T.rise (a - 1) (b - 1) (by omega) (by omega)
 ·intro i hi
  rw [e1,e3,get]
  split
  ·exact T.le i (by omega)
  ·split
   ·exact hj
   ·exact T.le (i - 1) (by omega)
 ·show (if has t.dummies j then eraseAt t.dummies (below t.dummies j) else t.dummies) = #[]
  rw [T.nod]; rfl
 ·exact T.msk
 ·intro i hi
  rw [e1,e2,e3,get]
  by_cases z1:i < below t.place j
  ·rw [if_pos z1,if_pos z1]; exact (T.rch i (by omega)).mono hasMono
  ·rw [if_neg z1,if_neg z1]
   by_cases z2:i = below t.place j
   ·rw [if_pos z2,if_pos z2]; exact ⟨e,hjj,fun m h => hasMono _ (hm m h)⟩
   ·rw [if_neg z2,if_neg z2]; exact (T.rch (i - 1) (by omega)).mono hasMono
end L3.ST
namespace L3.ST
open PySem PySem.SetTable
theorem run_in {M i:Nat} (h:i≤M):runEnd M i≤M:=by unfold runEnd; split <;> omega
theorem leap_le (M i p:Nat):(leap M i p).1≤M:=by
 show (i * 5 + 1 + p / 32) % (M + 1)≤M
 have:=Nat.mod_lt (i * 5 + 1 + p / 32) (show 0 < M + 1 by grind); grind
theorem itr_le (M:Nat):∀ (n:Nat) (p:Probe),p.j + p.more≤M→(itr M p n).j≤M
 | 0,p,h => by show p.j≤M; grind
 | n + 1,p,h => by
  refine itr_le M n (adv M p) ?_
  unfold adv
  split
  ·show p.j + 1 + (p.more - 1)≤M; grind
  ·show (leap M p.i p.perturb).1 + (runEnd M (leap M p.i p.perturb).1 - (leap M p.i p.perturb).1)≤M
   have h1:=leap_le M p.i p.perturb
   have h2:=run_in h1
   have h3:=run_le M (leap M p.i p.perturb).1
   grind
theorem st0_le (M:Nat) (h:Int) (n:Nat):(itr M (st0 M h) n).j≤M:=by
 refine itr_le M n _ ?_
 have h0:bits h % (M + 1)≤M:=by have:=Nat.mod_lt (bits h) (show 0 < M + 1 by grind); grind
 have h1:=run_in h0
 have h2:=run_le M (bits h % (M + 1))
 show bits h % (M + 1) + (runEnd M (bits h % (M + 1)) - bits h % (M + 1))≤M
 grind
theorem cover_rows {M:Nat} (hM:Msk M) (x:Nat×Nat) (hx:x.2 < 2 ^ 64) {j:Nat} (hj:j≤M):∃ L,L < turns M∧(lpN M L x).1 = j:=by
 have hpt:(lpN M 13 x).2 = 0:=by
  rw [lpN_pt]
  exact Nat.div_eq_of_lt (Nat.lt_of_lt_of_le hx (by decide))
 have hlt:(lpN M 13 x).1≤M:=lpN_lt M 13 _ (by decide)
 obtain ⟨L,hL,eL⟩:=l0_cycle hM hlt hj
 refine ⟨13 + L,by unfold turns; grind,?_⟩
 rw [lpN_add]
 generalize lpN M 13 x = y at hpt hlt eL
 obtain ⟨i,pt⟩:=y
 dsimp only at hpt eL
 subst hpt
 rw [lpN_zero]; exact eL
def Tkn (ow:Array (Option Nat)) (j:Nat):Prop:=(ow.getD j (some 0)).isNone = false
theorem free_run (M:Nat) (ow:Array (Option Nat)) (d:Option Nat):∀ (f:Nat) (x:Nat×Nat),(∃ L,L < f∧¬ Tkn ow (lpN M L x).1) →
  ∃ n,layClean.free M ow f x.1 x.2 = some (itr M (blk M x d) n).j∧¬ Tkn ow (itr M (blk M x d) n).j∧∀ m,m < n→Tkn ow (itr M (blk M x d) m).j
 | 0,x,h => by obtain ⟨L,hL,_⟩:=h; exact absurd hL (Nat.not_lt_zero _)
 | f + 1,x,h => by
  have inr:∀ k,k≤runEnd M x.1 - x.1→(itr M (blk M x d) k).j = x.1 + k:=fun k hk => by rw [itr_run M k _ hk]; rfl
  have rl:=run_le M x.1
  unfold layClean.free
  cases hf:(List.range (runEnd M x.1 + 1 - x.1)).find? fun k => (ow.getD (x.1 + k) (some 0)).isNone with
  | some k =>
   have h1:=List.find?_some hf
   have h2:=List.mem_of_find?_eq_some hf
   rw [List.mem_range] at h2
   refine ⟨k,?_,?_,?_⟩
   ·rw [inr k (by grind)]
   ·rw [inr k (by grind)]; unfold Tkn; rw [h1]; exact Bool.noConfusion
   ·intro m hm
    rw [inr m (by grind)]
    unfold Tkn
    have:=List.find?_eq_some_iff_getElem.mp hf
    obtain ⟨_,i,hi,ei,hb⟩:=this
    rw [List.getElem_range] at ei
    subst ei
    have:=hb m hm
    rw [List.getElem_range] at this
    simpa using this
  | none =>
   have hall:=List.find?_eq_none.mp hf
   have tk:∀ k,k≤runEnd M x.1 - x.1→Tkn ow (x.1 + k):=fun k hk => by
    have:=hall k (List.mem_range.mpr (by grind))
    unfold Tkn
    exact Bool.eq_false_iff.mpr this
   obtain ⟨n,g1,g2,g3⟩:=free_run M ow d f (leap M x.1 x.2) (by
    obtain ⟨L,hL,hq⟩:=h
    cases L with
    | zero =>
     have:=tk 0 (Nat.zero_le _)
     rw [Nat.add_zero] at this
     exact absurd this hq
    | succ L => exact ⟨L,by grind,hq⟩)
   have el:=itr_leap M (blk M x d)
   refine ⟨(blk M x d).more + 1 + n,?_,?_,?_⟩
   ·dsimp only
    rw [itr_add,el]; exact g1
   ·rw [itr_add,el]; exact g2
   ·intro m hm
    by_cases z:m≤runEnd M x.1 - x.1
    ·rw [inr m z]; exact tk m z
    ·have e:m = (blk M x d).more + 1 + (m - ((blk M x d).more + 1)):=by
      have:(blk M x d).more = runEnd M x.1 - x.1:=rfl
      grind
     rw [e,itr_add,el]
     exact g3 _ (by grind)
structure Own (M:Nat) (hs:Nat→Int) (ow:Array (Option Nat)) (k:Nat):Prop where
 size:ow.size = M + 1
 lt:∀ j k',ow.getD j none = some k'→k' < k
 has:∀ k',k' < k→∃ j,j≤M∧ow.getD j none = some k'∧Rch M (Tkn ow) (hs k') j
 one:∀ j j' k',ow.getD j none = some k'→ow.getD j' none = some k'→j = j'
theorem tkn_iff {ow:Array (Option Nat)} {j:Nat} (h:j < ow.size):Tkn ow j↔∃ k,ow.getD j none = some k:=by
 unfold Tkn
 have e:ow.getD j (some 0) = ow.getD j none:=by simp [Array.getD,h]
 rw [e]
 cases ow.getD j none with
 | none => simp
 | some k => simp
theorem sub_range:∀ {l:List Nat} {n:Nat},l.Nodup→(∀ x∈l,x < n)→l.length≤n:=by
 intro l n h1 h2
 have:∀ (l m:List Nat),l.Nodup→(∀ x∈l,x∈m)→l.length≤m.length:=by
  intro l
  induction l with
  | nil => intros; exact Nat.zero_le _
  | cons x l ih =>
   intro m hn hs
   rw [List.nodup_cons] at hn
   have hx:=hs x List.mem_cons_self
   have:=ih (m.erase x) hn.2 fun y hy => (List.mem_erase_of_ne (fun e => hn.1 (by rw [← e]; exact hy))).mpr (hs y (List.mem_cons_of_mem _ hy))
   rw [List.length_erase_of_mem hx] at this
   have:=List.length_pos_of_mem hx
   rw [List.length_cons]; omega
 have:=this l (List.range n) h1 fun x hx => List.mem_range.mpr (h2 x hx)
 rwa [List.length_range] at this
theorem own_free {M:Nat} {hs:Nat→Int} {ow:Array (Option Nat)} {k:Nat} (O:Own M hs ow k) (hk:k≤M):∃ j,j≤M∧¬ Tkn ow j:=by
 apply Classical.byContradiction
 intro z
 have all:∀ j,j≤M→∃ k',ow.getD j none = some k':=fun j hj => by
  apply Classical.byContradiction
  intro y
  exact z ⟨j,hj,fun w => y ((tkn_iff (by rw [O.size]; grind)).mp w)⟩
 have nd:((List.range (M + 1)).map fun j => (ow.getD j none).getD 0).Nodup:=by
  rw [List.nodup_iff_pairwise_ne,List.pairwise_map]
  have h0:=List.nodup_range (n:=M + 1)
  rw [List.nodup_iff_pairwise_ne] at h0
  refine h0.imp_of_mem fun {a b} ha hb ne e => ne ?_
  obtain ⟨ka,ea⟩:=all a (by rw [List.mem_range] at ha; grind)
  obtain ⟨kb,eb⟩:=all b (by rw [List.mem_range] at hb; grind)
  rw [ea,eb] at e
  have e':ka = kb:=e
  subst e'
  exact O.one a b ka ea eb
 have:=sub_range (n:=k) nd fun x hx => by
  obtain ⟨j,hj,rfl⟩:=List.mem_map.mp hx
  obtain ⟨kj,ej⟩:=all j (by rw [List.mem_range] at hj; grind)
  rw [ej]
  exact O.lt j kj ej
 rw [List.length_map,List.length_range] at this
 grind
theorem own_put {M:Nat} {hs:Nat→Int} {ow:Array (Option Nat)} {k:Nat} (hM:Msk M) (O:Own M hs ow k) (hk:k≤M) :
  ∃ j,layClean.free M ow (turns M) (bits (hs k) % (M + 1)) (bits (hs k)) = some j∧Own M hs (ow.setIfInBounds j (some k)) (k + 1):=by
 obtain ⟨j0,hj0,hf0⟩:=own_free O hk
 obtain ⟨L,hL,eL⟩:=cover_rows hM (bits (hs k) % (M + 1),bits (hs k)) (bits_lt _) hj0
 obtain ⟨n,g1,g2,g3⟩:=free_run M ow none (turns M) (bits (hs k) % (M + 1),bits (hs k)) ⟨L,hL,by rw [eL]; exact hf0⟩
 have hj:(itr M (blk M (bits (hs k) % (M + 1),bits (hs k)) none) n).j≤M:=st0_le M (hs k) n
 generalize hjj:(itr M (blk M (bits (hs k) % (M + 1),bits (hs k)) none) n).j = j at g1 g2 hj
 have js:j < ow.size:=by rw [O.size]; grind
 have jn:ow.getD j none = none:=by
  cases e:ow.getD j none with
  | none => rfl
  | some k' => exact absurd ((tkn_iff js).mpr ⟨k',e⟩) g2
 have get:∀ i,(ow.setIfInBounds j (some k)).getD i none = if i = j then some k else ow.getD i none:=by
  intro i
  rw [Array.getD_eq_getD_getElem?,Array.getElem?_setIfInBounds,Array.getD_eq_getD_getElem?]
  by_cases z:i = j
  ·rw [if_pos z.symm,if_pos z,if_pos js]; rfl
  ·rw [if_neg (fun y => z y.symm),if_neg z]
 have sz:(ow.setIfInBounds j (some k)).size = M + 1:=by rw [Array.size_setIfInBounds]; exact O.size
 have tmono:∀ i,Tkn ow i→Tkn (ow.setIfInBounds j (some k)) i:=by
  intro i hi
  by_cases hs:i < ow.size
  ·rw [tkn_iff (by rw [sz,← O.size]; exact hs),get]
   obtain ⟨k',e⟩:=(tkn_iff hs).mp hi
   by_cases z:i = j
   ·exact ⟨k,if_pos z⟩
   ·exact ⟨k',by rw [if_neg z]; exact e⟩
  ·unfold Tkn
   rw [show (ow.setIfInBounds j (some k)).getD i (some 0) = some 0 from by simp [Array.getD,Array.size_setIfInBounds,hs]]
   rfl
 refine ⟨j,g1,sz,?_,?_,?_⟩
 ·intro i k' h
  rw [get] at h
  by_cases z:i = j
  ·rw [if_pos z] at h; cases h; grind
  ·rw [if_neg z] at h; have:=O.lt i k' h; grind
 ·intro k' hk'
  by_cases z:k' = k
  ·subst z
   exact ⟨j,hj,by rw [get,if_pos rfl],n,hjj,fun m hm => tmono _ (g3 m hm)⟩
  ·obtain ⟨i,i1,i2,i3⟩:=O.has k' (by grind)
   refine ⟨i,i1,?_,i3.mono tmono⟩
   rw [get,if_neg (fun y => by rw [y,jn] at i2; cases i2)]
   exact i2
 ·intro i i' k' h h'
  rw [get] at h h'
  by_cases z:i = j
  ·by_cases z':i' = j
   ·rw [z,z']
   ·rw [if_pos z] at h
    rw [if_neg z'] at h'
    cases h
    exact absurd (O.lt i' k h') (Nat.lt_irrefl _)
  ·rw [if_neg z] at h
   by_cases z':i' = j
   ·rw [if_pos z'] at h'
    cases h'
    exact absurd (O.lt i k h) (Nat.lt_irrefl _)
   ·rw [if_neg z'] at h'
    exact O.one i i' k' h h'
def layStep (M:Nat) (acc:Option (Array (Option Nat)×Nat)) (h:Int):Option (Array (Option Nat)×Nat):=do
 let (owner,k) ← acc
 let j ← layClean.free M owner (turns M) (bits h % (M + 1)) (bits h)
 pure (owner.setIfInBounds j (some k),k + 1)
theorem lay_fold {M:Nat} (hM:Msk M) {hs:Nat→Int}:∀ (l:List Int) (ow:Array (Option Nat)) (k:Nat),Own M hs ow k→k + l.length≤M + 1→(∀ i,i < l.length→l.getD i 0 = hs (k + i)) →
  ∃ ow',l.foldl (layStep M) (some (ow,k)) = some (ow',k + l.length)∧Own M hs ow' (k + l.length)
 | [],ow,k,O,_,_ => ⟨ow,rfl,O⟩
 | h::l,ow,k,O,hk,hl => by
  have e0:h = hs k:=hl 0 (by rw [List.length_cons]; grind)
  rw [List.length_cons] at hk
  obtain ⟨j,g1,g2⟩:=own_put hM O (by grind)
  obtain ⟨ow',r1,r2⟩:=lay_fold hM l _ (k + 1) g2 (by grind) fun i hi => by
   have:=hl (i + 1) (by rw [List.length_cons]; grind)
   rw [show k + 1 + i = k + (i + 1) from by grind,← this]
   rfl
  have e1:layStep M (some (ow,k)) h = some (ow.setIfInBounds j (some k),k + 1):=by
   subst e0
   show (layClean.free M ow (turns M) (bits (hs k) % (M + 1)) (bits (hs k))).bind _ = _
   rw [g1]; rfl
  refine ⟨ow',?_,?_⟩
  ·rw [List.foldl_cons,e1,r1,List.length_cons,show k + 1 + l.length = k + (l.length + 1) from by grind]
  ·rw [List.length_cons,show k + (l.length + 1) = k + 1 + l.length from by grind]; exact r2
theorem own_none (M:Nat) (hs:Nat→Int):Own M hs (Array.replicate (M + 1) none) 0:=by
 have g:∀ j,(Array.replicate (M + 1) (none:Option Nat)).getD j none = none:=fun j => by
  rw [Array.getD_eq_getD_getElem?,Array.getElem?_replicate]; split <;> rfl
 refine ⟨Array.size_replicate,fun j k' h => ?_,fun k' h => absurd h (Nat.not_lt_zero _),fun j j' k' h => ?_⟩
 ·rw [g] at h; cases h
 ·rw [g] at h; cases h
theorem lay_clean {M:Nat} (hM:Msk M) {hs:Nat→Int} (H:Array Int) (hH:∀ i,i < H.size→H.getD i 0 = hs i) (hn:H.size≤M + 1):∃ ow,layClean M H = some ow∧Own M hs ow H.size:=by
 obtain ⟨ow,h1,h2⟩:=lay_fold hM H.toList _ 0 (own_none M hs) (by rw [Array.length_toList]; grind) fun i hi => by
  rw [Array.length_toList] at hi
  rw [Nat.zero_add,← hH i hi]
  simp [Array.getD,hi,List.getD_eq_getElem?_getD]
 rw [Array.length_toList,Nat.zero_add] at h1 h2
 refine ⟨ow,?_,h2⟩
 unfold layClean
 rw [← Array.foldl_toList]
 have:(H.toList.foldl (layStep M) (some (Array.replicate (M + 1) none,0))).map (·.1) = some ow:=by rw [h1]; rfl
 exact this
def lvs (M:Nat) (ow:Array (Option Nat)):List (Nat×Nat):=(List.range (M + 1)).filterMap fun j => (ow.getD j none).map (j,·)
theorem lvs_mem {M:Nat} {ow:Array (Option Nat)} {x:Nat×Nat}:x∈lvs M ow↔x.1≤M∧ow.getD x.1 none = some x.2:=by
 unfold lvs
 rw [List.mem_filterMap]
 constructor
 ·rintro ⟨j,hj,e⟩
  rw [Option.map_eq_some_iff] at e
  obtain ⟨k,e1,rfl⟩:=e
  rw [List.mem_range] at hj
  exact ⟨by show j≤M; grind,e1⟩
 ·rintro ⟨h1,h2⟩
  exact ⟨x.1,List.mem_range.mpr (by grind),by rw [h2]; rfl⟩
theorem lvs_rise (M:Nat) (ow:Array (Option Nat)):(lvs M ow).Pairwise fun a b => a.1 < b.1:=by
 unfold lvs
 rw [List.pairwise_filterMap]
 refine List.pairwise_lt_range.imp fun {a b} hab x hx y hy => ?_
 rw [Option.map_eq_some_iff] at hx hy
 obtain ⟨_,_,rfl⟩:=hx
 obtain ⟨_,_,rfl⟩:=hy
 exact hab
theorem lvs_perm {M:Nat} {hs:Nat→Int} {ow:Array (Option Nat)} {n:Nat} (O:Own M hs ow n):((lvs M ow).map Prod.snd).Perm (List.range n):=by
 refine (List.perm_ext_iff_of_nodup ?_ List.nodup_range).mpr fun k => ?_
 ·rw [List.nodup_iff_pairwise_ne,List.pairwise_map]
  refine (lvs_rise M ow).imp_of_mem fun {a b} ha hb hlt e => ?_
  have h1:=(lvs_mem.mp ha).2
  have h2:=(lvs_mem.mp hb).2
  rw [e] at h1
  have:=O.one _ _ _ h1 h2
  grind
 ·rw [List.mem_map,List.mem_range]
  constructor
  ·rintro ⟨x,hx,rfl⟩
   exact O.lt _ _ (lvs_mem.mp hx).2
  ·intro hk
   obtain ⟨j,h1,h2,_⟩:=O.has k hk
   exact ⟨(j,k),lvs_mem.mpr ⟨h1,h2⟩,rfl⟩
theorem lvs_len {M:Nat} {hs:Nat→Int} {ow:Array (Option Nat)} {n:Nat} (O:Own M hs ow n):(lvs M ow).length = n:=by
 have:=(lvs_perm O).length_eq
 rwa [List.length_map,List.length_range] at this
theorem tb_laid {M:Nat} (hM:Msk M) {hs:Nat→Int} (H:Array Int) (hH:∀ i,i < H.size→H.getD i 0 = hs i) (hn:H.size≤M + 1) (fi mo:Nat) (le pl:Bool) :
  ∃ t ord,laid M fi mo le pl H = some (t,ord)∧t.mask = M∧t.led = le∧t.plain = pl∧t.moves = mo∧ord.toList.Perm (List.range H.size)∧Tb t (fun r => hs (ord.getD r 0)) H.size:=by
 obtain ⟨ow,h1,O⟩:=lay_clean hM H hH hn
 have len:=lvs_len O
 have hmem:∀ {x:Nat×Nat},x∈lvs M ow↔x.1≤M∧ow.getD x.1 none = some x.2:=lvs_mem
 have hris:=lvs_rise M ow
 have hper:=lvs_perm O
 have hlaid:laid M fi mo le pl H = some ({ mask:=M,place:=((lvs M ow).map (·.1)).toArray,dummies:=#[],finger:=fi,led:=le,moves:=mo,plain:=pl },((lvs M ow).map (·.2)).toArray):=by
  unfold laid
  rw [h1]; rfl
 rw [hlaid]
 generalize lvs M ow = ls at len hmem hris hper
 refine ⟨{ mask:=M,place:=(ls.map (·.1)).toArray,dummies:=#[],finger:=fi,led:=le,moves:=mo,plain:=pl },(ls.map (·.2)).toArray,rfl,rfl,rfl,rfl,rfl,hper,?_⟩
 have sz:(ls.map (·.1)).toArray.size = H.size:=by rw [List.size_toArray,List.length_map,len]
 have at1:∀ i,(hi:i < H.size)→(ls.map (·.1)).toArray.getD i 0 = (ls[i]'(by rw [len]; exact hi)).1:=fun i hi => by
  have:i < ls.length:=by rw [len]; exact hi
  simp [Array.getD,this]
 have at2:∀ i,(hi:i < H.size)→(ls.map (·.2)).toArray.getD i 0 = (ls[i]'(by rw [len]; exact hi)).2:=fun i hi => by
  have:i < ls.length:=by rw [len]; exact hi
  simp [Array.getD,this]
 have mem:∀ i,(hi:i < H.size)→ls[i]'(by rw [len]; exact hi)∈ls:=fun i hi => List.getElem_mem _
 refine ⟨sz,?_,?_,rfl,hM,?_⟩
 ·intro a b hab hb
  have hb:b < (ls.map (·.1)).toArray.size:=hb
  rw [sz] at hb
  show (ls.map (·.1)).toArray.getD a 0 < (ls.map (·.1)).toArray.getD b 0
  rw [at1 a (by grind),at1 b hb]
  exact List.pairwise_iff_getElem.mp hris a b (by rw [len]; grind) (by rw [len]; exact hb) hab
 ·intro i hi
  show (ls.map (·.1)).toArray.getD i 0≤M
  rw [at1 i hi]
  exact (hmem.mp (mem i hi)).1
 ·intro i hi
  show Rch M (Has (ls.map (·.1)).toArray) (hs ((ls.map (·.2)).toArray.getD i 0)) ((ls.map (·.1)).toArray.getD i 0)
  rw [at1 i hi,at2 i hi]
  have hx:=hmem.mp (mem i hi)
  generalize ls[i]'(by rw [len]; exact hi) = x at hx
  obtain ⟨j,j1,j2,j3⟩:=O.has x.2 (O.lt _ _ hx.2)
  have e:=O.one _ _ _ hx.2 j2
  rw [e]
  refine Rch.mono (occ:=fun y => y≤M∧Tkn ow y) ?_ ?_
  ·obtain ⟨n,n1,n2⟩:=j3
   exact ⟨n,n1,fun m hm => ⟨st0_le M _ m,n2 m hm⟩⟩
  ·rintro y ⟨y1,y2⟩
   obtain ⟨k,ek⟩:=(tkn_iff (by rw [O.size]; grind)).mp y2
   obtain ⟨r,hr,er⟩:=List.getElem_of_mem (hmem.mpr ⟨y1,ek⟩:(y,k)∈ls)
   rw [len] at hr
   exact ⟨r,by rw [sz]; exact hr,by rw [at1 r hr,er]⟩
end L3.ST
namespace L3.ST
open PySem PySem.SetTable PySem.Spec PyProof.Rows
section
variable {prog:Program} {w:World} {A:Around} {E:Value→Shared→Prop} {s:Shared}
theorem items_ints {ks:List Int} {vs:List Value} (h:ItemsAre (intKind prog w) ks vs):∀ v∈vs,∃ i t,v = .int i t:=by
 induction h with
 | nil => intro v hv; cases hv
 | @cons k u ks vs h1 _ ih =>
  intro v hv
  rcases List.mem_cons.mp hv with rfl | hv
  ·cases v with
   | int i t => exact ⟨i,t,rfl⟩
   | _ => exact absurd h1 (by simp [intKind,Value.isInt])
  ·exact ih v hv
theorem tup_plain {ks:List Int} {a:Addr} {Q:Bool→Shared→Prop} (hk:IsTupleKey (intKind prog w) s.heap ks a) (h:Q false s):wpAny (model prog w) A (ofAClassStatement 8 (.ref a)) Q E s:=by
 have hT:=hk.typeIs
 obtain ⟨o,items,n,ho,hc,hd,hi⟩:=hk
 have hall:=items_ints hi
 unfold ofAClassStatement
 refine wpAny_bind (wpAny_typeOf hT ?_)
 dsimp only
 refine wpAny_bind ?_
 refine wpAny_pure ?_
 simp only [Bool.not_true,Bool.false_eq_true,if_false]
 refine wpAny_bind (wpAny_seqItems ho hd ?_)
 dsimp only
 refine wpAny_bind ?_
 rw [← Array.forIn_toList]
 refine wpAny_forIn_list _ (fun rest r s' => r.1 = none∧s' = s∧∀ v∈rest,∃ i t,v = Value.int i t) _ ?_ ?_ _ _ ⟨rfl,rfl,hall⟩
 ·rintro v rest r s' ⟨hr,rfl,ha⟩
  obtain ⟨i,t,rfl⟩:=ha v List.mem_cons_self
  refine wpAny_bind ?_
  show wpAny _ _ (pure false) _ _ _
  refine wpAny_pure ?_
  simp only [Bool.false_eq_true,if_false]
  exact wpAny_pure ⟨rfl,rfl,fun u hu' => ha u (List.mem_cons_of_mem _ hu')⟩
 ·rintro ⟨r1,r2⟩ s' ⟨hr,rfl,_⟩
  simp only at hr
  subst hr
  exact wpAny_pure h
theorem tup_unseen {ks:List Int} {a:Addr} {Q:Bool→Shared→Prop} (hk:IsTupleKey (intKind prog w) s.heap ks a) (l:List Value) (hl:∀ y∈l,∃ b ls,y = .ref b∧IsTupleKey (intKind prog w) s.heap ls b) (h:Q false s):wpAny (model prog w) A (searchCouldBeSeen (.ref a) l) Q E s:=by
 unfold searchCouldBeSeen
 refine wpAny_bind ?_
 refine wpAny_forIn_list _ (fun rest r s' => r.1 = none∧s' = s∧∀ y∈rest,∃ b ls,y = .ref b∧IsTupleKey (intKind prog w) s.heap ls b) _ ?_ ?_ _ _ ⟨rfl,rfl,hl⟩
 ·rintro v rest r s' ⟨hr,rfl,ha⟩
  obtain ⟨b,ls,rfl,hb⟩:=ha v List.mem_cons_self
  have tail:∀ y∈rest,∃ b ls,y = .ref b∧IsTupleKey (intKind prog w) s'.heap ls b:=fun u hu' => ha u (List.mem_cons_of_mem _ hu')
  dsimp only
  by_cases hab:(a == b) = true
  ·rw [hab]
   simp only [Bool.true_or,if_true]
   exact wpAny_pure ⟨rfl,rfl,tail⟩
  ·rw [Bool.not_eq_true] at hab
   rw [hab]
   simp only [carriedByValue,Bool.false_or,Bool.and_self,Bool.false_eq_true,if_false]
   refine wpAny_bind (wpAny_eqIsQuiet_tuple hk ?_)
   simp only [Bool.not_true,Bool.false_eq_true,if_false]
   refine wpAny_bind (wpAny_eqIsQuiet_tuple hb ?_)
   simp only [Bool.not_true,Bool.false_eq_true,if_false]
   refine wpAny_bind (tup_plain hk ?_)
   simp only [Bool.false_eq_true,if_false]
   refine wpAny_bind (tup_plain hb ?_)
   simp only [Bool.false_eq_true,if_false]
   exact wpAny_pure ⟨rfl,rfl,tail⟩
 ·rintro ⟨r1,r2⟩ s' ⟨hr,rfl,_⟩
  simp only at hr
  subst hr
  exact wpAny_pure h
theorem tup_byValue {ks:List Int} {a:Addr} {Q:Bool→Shared→Prop} (hk:IsTupleKey (intKind prog w) s.heap ks a) (h:Q true s):wpAny (model prog w) A (hashByValue 8 (.ref a)) Q E s:=by
 have hT:=hk.typeIs
 obtain ⟨o,items,n,ho,hc,hd,hi⟩:=hk
 have hall:=items_ints hi
 unfold hashByValue
 refine wpAny_bind (wpAny_specialOf hT F.slot_tuple_hash.lookup ?_)
 dsimp only
 refine wpAny_bind (wpAny_seqItems ho hd ?_)
 refine wpAny_bind ?_
 show wpAny _ _ (forIn items _ _) _ _ s
 rw [← Array.forIn_toList]
 refine wpAny_forIn_list _ (fun rest r s' => r.1 = none∧s' = s∧∀ v∈rest,∃ i t,v = Value.int i t) _ ?_ ?_ _ _ ⟨rfl,rfl,hall⟩
 ·rintro v rest r s' ⟨hr,rfl,ha⟩
  obtain ⟨i,t,rfl⟩:=ha v List.mem_cons_self
  refine wpAny_bind ?_
  show wpAny _ _ (pure true) _ _ _
  refine wpAny_pure ?_
  simp only [Bool.not_true,Bool.false_eq_true,if_false]
  exact wpAny_pure ⟨rfl,rfl,fun u hu' => ha u (List.mem_cons_of_mem _ hu')⟩
 ·rintro ⟨r1,r2⟩ s' ⟨hr,rfl,_⟩
  simp only at hr
  subst hr
  exact wpAny_pure h
def Els (prog:Program) (w:World) (h:Heap) (es:Array (Int×Value)) (ks:List (List Int)):Prop :=
 es.size = ks.length∧∀ i,i < ks.length→∃ a,es[i]? = some (tupleKeyHash (intKind prog w) (ks.getD i []),.ref a)∧IsTupleKey (intKind prog w) h (ks.getD i []) a
def hsh (prog:Program) (w:World) (ks:List (List Int)) (i:Nat):Int:=tupleKeyHash (intKind prog w) (ks.getD i [])
theorem Els.mem {h:Heap} {es:Array (Int×Value)} {ks:List (List Int)} (x:Els prog w h es ks):∀ y∈es.toList,∃ b ls,y.2 = .ref b∧IsTupleKey (intKind prog w) h ls b:=by
 intro y hy
 obtain ⟨i,hi,rfl⟩:=List.getElem_of_mem hy
 rw [Array.length_toList] at hi
 obtain ⟨a,h1,h2⟩:=x.2 i (by rw [← x.1]; exact hi)
 rw [Array.getElem?_eq_getElem hi,Option.some.injEq] at h1
 rw [Array.getElem_toList,h1]
 exact ⟨a,_,rfl,h2⟩
theorem fits_of {t:SetTable} {hs:Nat→Int} {n:Nat} (T:Tb t hs n) (hn:n≤t.mask):t.fits n = true:=by
 unfold SetTable.fits SetTable.fill
 rw [T.nod,T.size]
 simp only [beq_self_eq_true,Bool.true_and,decide_eq_true_eq]
 show n + 0≤t.mask; omega
theorem odd_of {t:SetTable} (h:Msk t.mask):t.gaveWay = false:=by
 unfold SetTable.gaveWay
 rcases h with e | e | e <;> rw [e] <;> rfl
theorem led_case {M:Model} {α:Type} {c:Bool} {m1:Sem Bool} {bad r:Sem α} {Q:α→Shared→Prop} (h1:∀ Q':Bool→Shared→Prop,Q' false s→wpAny M A m1 Q' E s) (h:wpAny M A r Q E s):wpAny M A (if (!c) = true then do let b ← m1; if b = true then bad else r else r) Q E s:=by
 cases c with
 | true => exact h
 | false =>
  show wpAny M A (m1 >>= fun b => if b = true then bad else r) Q E s
  refine wpAny_bind (h1 _ ?_)
  rw [if_neg Bool.false_ne_true]; exact h
theorem probe_run {t:SetTable} {hs hA:Nat→Int} {n:Nat} (T:Tb t hs n) {h:Int} {p:Probe} {P:Option Met} (hP:t.probe hA h p = P) (hA':∀ i,i < n→hA i = hs i) {k:Nat} (hd:p.dummy = none) (hk:k < 10 * turns t.mask) (h1:¬ Has t.place (itr t.mask p k).j) (h2:∀ m,m < k→Has t.place (itr t.mask p m).j) :
  (P = some (.empty (itr t.mask p k).j none)∧∀ m i,m < k→i < n→t.place.getD i 0 = (itr t.mask p m).j→hs i≠h) ∨
  ∃ m i,m < k∧i < n∧t.place.getD i 0 = (itr t.mask p m).j∧hs i = h∧P = some (.candidate (itr t.mask p m).j i (itr t.mask p (m + 1)))∧∀ m' i',m' < m→i' < n→t.place.getD i' 0 = (itr t.mask p m').j→hs i'≠h:=by
 subst hP
 exact go_run T hA' h k _ p hd hk h1 h2
theorem search_run {S a:Addr} {o:Obj} {es:Array (Int×Value)} {ep:Nat} {t:SetTable} {ks:List (List Int)} {kx:List Int} {Q:SetFound→Shared→Prop} (hu:A.units < cLine)
  (ho:s.heap.get? S = some o) (hd:o.data = .set es ep t) (el:Els prog w s.heap es ks) (T:Tb t (hsh prog w ks) ks.length) (hn:ks.length≤t.mask) (hx:IsTupleKey (intKind prog w) s.heap kx a)
  {e:Nat} (he1:e < 10 * turns t.mask) (he2:¬ Has t.place (itr t.mask (st0 t.mask (tupleKeyHash (intKind prog w) kx)) e).j) (he3:∀ m,m < e→Has t.place (itr t.mask (st0 t.mask (tupleKeyHash (intKind prog w) kx)) m).j)
  (q1:kx∈ks→Q (.there none) s) (q2:kx∉ks→Q (.free (itr t.mask (st0 t.mask (tupleKeyHash (intKind prog w) kx)) e).j false) s) :
  ∀ (d f m:Nat) (stand:Option Probe),e - m = d→m≤e→d < f→stand.getD (t.probeStart (tupleKeyHash (intKind prog w) kx)) = itr t.mask (st0 t.mask (tupleKeyHash (intKind prog w) kx)) m →
   (∀ m' i,m' < m→i < ks.length→t.place.getD i 0 = (itr t.mask (st0 t.mask (tupleKeyHash (intKind prog w) kx)) m').j→ks.getD i []≠kx) →
   wpAny (model prog w) A (setSearchFrom S (.ref a) (tupleKeyHash (intKind prog w) kx) true f stand) Q E s:=by
 have hf:t.fits es.size = true:=by rw [el.1]; exact fits_of T hn
 intro d
 induction d using Nat.strongRecOn with
 | ind d ih =>
  intro f m stand hd' hm hdf hst inv
  cases f with
  | zero => exact absurd hdf (Nat.not_lt_zero _)
  | succ f =>
   unfold setSearchFrom
   refine wpAny_bind (wpAny_setState_of ho hd hf ?_)
   dsimp only
   rw [odd_of T.msk]
   simp only [Bool.false_eq_true,if_false]
   rw [hst]
   generalize hh:tupleKeyHash (intKind prog w) kx = hv at *
   generalize hP:t.probe _ hv (itr t.mask (st0 t.mask hv) m) = P
   have hdum:(itr t.mask (st0 t.mask hv) m).dummy = none:=itr_dummy t.mask m _
   have sh:∀ i,itr t.mask (itr t.mask (st0 t.mask hv) m) i = itr t.mask (st0 t.mask hv) (m + i):=fun i => (itr_add t.mask m i _).symm
   have hme:m + (e - m) = e:=Nat.add_sub_cancel' hm
   rcases probe_run T hP (fun i hi => by
    obtain ⟨b,g1,_⟩:=el.2 i hi
    show (Option.map (·.1) es[i]?).getD 0 = _
    rw [g1]; rfl) (k:=e - m) hdum (Nat.lt_of_le_of_lt (Nat.sub_le e m) he1) (by rw [sh,hme]; exact he2) (fun i hi => by rw [sh]; exact he3 _ (Nat.add_lt_of_lt_sub' hi)) with ⟨rfl,g2⟩ | ⟨m',i,g1,g2,g3,g4,rfl,g6⟩
   ·dsimp only
    rw [sh,hme]
    refine wpAny_pure (q2 fun hmem => ?_)
    obtain ⟨i,hi,ei⟩:=List.getElem_of_mem hmem
    have ek:ks.getD i [] = kx:=by rw [List.getD_eq_getElem?_getD,List.getElem?_eq_getElem hi,ei]; rfl
    have eh:hsh prog w ks i = hv:=by unfold hsh; rw [ek]; exact hh
    obtain ⟨n0,r1,r2⟩:=T.rch i hi
    rw [eh] at r1 r2
    have hlt:n0 < e:=by
     rcases Nat.lt_trichotomy n0 e with z | z | z
     ·exact z
     ·subst z
      exact absurd ⟨i,by rw [T.size]; exact hi,r1.symm⟩ he2
     ·exact absurd (r2 e z) he2
    by_cases z:n0 < m
    ·exact inv n0 i z hi r1.symm ek
    ·refine g2 (n0 - m) i (Nat.sub_lt_sub_right (Nat.not_lt.mp z) hlt) hi ?_ eh
     rw [sh,Nat.add_sub_cancel' (Nat.not_lt.mp z)]; exact r1.symm
   ·dsimp only
    rw [sh]
    obtain ⟨b,b1,b2⟩:=el.2 i g2
    refine led_case (fun Q' hq => tup_unseen hx _ (fun y hy => ?_) hq) ?_
    ·obtain ⟨z,hz,rfl⟩:=List.mem_map.mp hy
     have hz':z∈es.toList:=by
      have:=Array.mem_filter.mp (Array.mem_toList_iff.mp hz)
      exact Array.mem_toList_iff.mpr this.1
     exact el.mem z hz'
    rw [b1]
    dsimp only
    refine wpAny_bind (wpAny_holding (wpAny_eqBool_tuple hu b2 hx ?_))
    refine wpAny_bind (wpAny_setState_of ho hd hf ?_)
    dsimp only
    by_cases hk:ks.getD i [] = kx
    ·rw [decide_eq_true hk]
     simp only [Bool.and_self,if_true]
     refine wpAny_pure (q1 ?_)
     rw [← hk,List.getD_eq_getElem?_getD,List.getElem?_eq_getElem g2]
     exact List.getElem_mem g2
    ·rw [decide_eq_false hk]
     simp only [Bool.and_false,Bool.false_eq_true,if_false]
     have e1:t.sameMemory t.moves t.mask = some true:=by unfold SetTable.sameMemory; rw [if_pos (beq_self_eq_true _)]
     rw [e1]
     dsimp only
     rw [if_pos rfl]
     have e2:t.slot (itr t.mask (st0 t.mask hv) (m + m')).j = .live i:=by
      rw [← sh,← g3]; exact slot_at T.rise i (by rw [T.size]; exact g2)
     rw [e2]
     dsimp only
     rw [b1]
     dsimp only
     refine wpAny_bind (wpAny_isSame_ref_self ?_)
     refine wpAny_bind (wpAny_pure ?_)
     rw [if_pos rfl]
     dsimp only
     have c1:m + m' < e:=Nat.add_lt_of_lt_sub' g1
     have c2:e - (m + m' + 1) < d:=hd'▸Nat.sub_lt_sub_left (Nat.lt_of_le_of_lt (Nat.le_add_right m m') c1) (Nat.lt_succ_of_le (Nat.le_add_right m m'))
     refine ih (e - (m + m' + 1)) c2 f (m + m' + 1) _ rfl c1 (Nat.lt_of_lt_of_le c2 (Nat.lt_succ_iff.mp hdf)) ?_ ?_
     ·rw [sh]; rfl
     ·intro m2 i2 h1 h2 h3 h4
      by_cases z:m2 < m
      ·exact inv m2 i2 z h2 h3 h4
      ·have eh:hsh prog w ks i2 = hv:=by unfold hsh; rw [h4]; exact hh
       by_cases z2:m2 = m + m'
       ·subst z2
        rw [← sh,← g3] at h3
        have:i2 = i:=by
         rcases Nat.lt_trichotomy i2 i with y | y | y
         ·have:=T.rise i2 i y (by rw [T.size]; exact g2); exact absurd h3 (Nat.ne_of_lt this)
         ·exact y
         ·have:=T.rise i i2 y (by rw [T.size]; exact h2); exact absurd h3.symm (Nat.ne_of_lt this)
        subst this
        exact hk h4
       ·refine g6 (m2 - m) i2 (Nat.sub_lt_left_of_lt_add (Nat.not_lt.mp z) (Nat.lt_of_le_of_ne (Nat.lt_succ_iff.mp h1) z2)) h2 ?_ eh
        rw [sh,Nat.add_sub_cancel' (Nat.not_lt.mp z)]; exact h3
end
theorem put_at {α:Type} (xs:Array α) (p:Nat) (x:α) (hp:p≤xs.size) (i:Nat):(insertAt xs p x)[i]? = if i < p then xs[i]? else if i = p then some x else xs[i - 1]?:=by
 unfold insertAt
 rw [Array.getElem?_append,Array.size_push,Array.size_extract]
 rw [show min p xs.size - 0 + 1 = p + 1 from by grind]
 by_cases h1:i < p
 ·rw [if_pos (by grind),if_pos h1,Array.getElem?_push,if_neg (by rw [Array.size_extract]; grind),Array.getElem?_extract]
  rw [if_pos (by grind),Nat.zero_add]
 ·rw [if_neg h1]
  by_cases h2:i = p
  ·rw [if_pos (by grind),if_pos h2,Array.getElem?_push,if_pos (by rw [Array.size_extract]; grind)]
  ·rw [if_neg (by grind),if_neg h2,Array.getElem?_extract]
   by_cases h3:i - (p + 1) < xs.size - p
   ·rw [if_pos (by grind)]; congr 1; grind
   ·rw [if_neg (by grind),Array.getElem?_eq_none (by grind)]
theorem put_sz {α:Type} (xs:Array α) (p:Nat) (x:α) (hp:p≤xs.size):(insertAt xs p x).size = xs.size + 1:=by
 unfold insertAt
 simp only [Array.size_append,Array.size_push,Array.size_extract]; grind
def insK (ks:List (List Int)) (p:Nat) (k:List Int):List (List Int):=ks.take p++k::ks.drop p
theorem insK_len (ks:List (List Int)) (p:Nat) (k:List Int) (hp:p≤ks.length):(insK ks p k).length = ks.length + 1:=by
 unfold insK
 rw [List.length_append,List.length_cons,List.length_take,List.length_drop]; grind
theorem insK_get (ks:List (List Int)) (p:Nat) (k:List Int) (hp:p≤ks.length) (i:Nat):(insK ks p k).getD i [] = if i < p then ks.getD i [] else if i = p then k else ks.getD (i - 1) []:=by
 unfold insK
 rw [List.getD_eq_getElem?_getD,List.getD_eq_getElem?_getD,List.getD_eq_getElem?_getD,List.getElem?_append,List.length_take,show min p ks.length = p from by grind]
 by_cases h1:i < p
 ·rw [if_pos h1,if_pos h1,List.getElem?_take,if_pos h1]
 ·rw [if_neg h1,if_neg h1]
  by_cases h2:i = p
  ·rw [if_pos h2,h2,Nat.sub_self]; rfl
  ·rw [if_neg h2,show i - p = (i - 1 - p) + 1 from by grind,List.getElem?_cons_succ,List.getElem?_drop,show p + (i - 1 - p) = i - 1 from by grind]
theorem insK_perm (ks:List (List Int)) (p:Nat) (k:List Int):(insK ks p k).Perm (k::ks):=by
 unfold insK
 refine List.perm_middle.trans ?_
 rw [List.take_append_drop]
section
variable {prog:Program} {w:World} {A:Around} {E:Value→Shared→Prop} {s:Shared}
theorem key_keeps {h h':Heap} {ks:List Int} {a d:Addr} {o:Obj} {es:Array (Int×Value)} {ep:Nat} {t:SetTable} (x:IsTupleKey (intKind prog w) h ks a) (ho:h.get? d = some o) (hd:o.data = .set es ep t) (hs:Heap.SameBut d h h'):IsTupleKey (intKind prog w) h' ks a:=by
 obtain ⟨o',items,n,ho',hc,hd',hi⟩:=x
 have hne:a≠d:=by
  rintro rfl
  obtain rfl:o' = o:=Option.some.inj (ho'.symm.trans ho)
  rw [hd] at hd'; exact nomatch hd'
 exact ⟨o',items,n,(hs.2 a hne).trans ho',hc,hd',hi⟩
theorem Els.keeps {h h':Heap} {es':Array (Int×Value)} {ks:List (List Int)} {d:Addr} {o:Obj} {es:Array (Int×Value)} {ep:Nat} {t:SetTable} (x:Els prog w h es' ks) (ho:h.get? d = some o) (hd:o.data = .set es ep t) (hs:Heap.SameBut d h h'):Els prog w h' es' ks :=
 ⟨x.1,fun i hi => let ⟨a,h1,h2⟩:=x.2 i hi; ⟨a,h1,key_keeps h2 ho hd hs⟩⟩
def SetT (prog:Program) (w:World) (h:Heap) (S:Addr) (ks:List (List Int)):Prop :=
 ∃ o es ep t,h.get? S = some o∧o.ExactSet∧o.data = .set es ep t∧Els prog w h es ks∧Tb t (hsh prog w ks) ks.length∧t.plain = true∧ks.length * 5 < t.mask * 3∧ks.Nodup
theorem store_at {h:Heap} {a:Addr} {o:Obj} {es:Array (Int×Value)} {ep:Nat} {t:SetTable} (ho:h.get? a = some o) (hd:o.data = .set es ep t) (es':Array (Int×Value)) (t':SetTable) :
  (h.update a (Obj.putSet es' t')).get? a = some { o with data:=.set es' (ep + 1) t' }:=by
 have:=Heap.get?_update_self (Obj.putSet es' t') ho (by rw [putSet_of es' t' hd]; rfl)
 rw [putSet_of es' t' hd] at this; exact this
theorem els_put {h:Heap} {es:Array (Int×Value)} {ks:List (List Int)} {a p:Nat} {kx:List Int} (x:Els prog w h es ks) (hp:p≤ks.length) (hx:IsTupleKey (intKind prog w) h kx a) :
  Els prog w h (insertAt es p (tupleKeyHash (intKind prog w) kx,.ref a)) (insK ks p kx):=by
 have hp':p≤es.size:=by rw [x.1]; exact hp
 refine ⟨by rw [put_sz es p _ hp',insK_len ks p kx hp,x.1],fun i hi => ?_⟩
 rw [insK_len ks p kx hp] at hi
 rw [put_at es p _ hp',insK_get ks p kx hp]
 by_cases h1:i < p
 ·rw [if_pos h1,if_pos h1]; exact x.2 i (by grind)
 ·rw [if_neg h1,if_neg h1]
  by_cases h2:i = p
  ·rw [if_pos h2,if_pos h2]; exact ⟨a,rfl,hx⟩
  ·rw [if_neg h2,if_neg h2]; exact x.2 (i - 1) (by grind)
theorem tb_same {t:SetTable} {hs hs':Nat→Int} {n:Nat} (T:Tb t hs n) (h:∀ i,i < n→hs i = hs' i):Tb t hs' n :=
 ⟨T.size,T.rise,T.le,T.nod,T.msk,fun i hi => by rw [← h i hi]; exact T.rch i hi⟩
def picK (ord:Array Nat) (ks:List (List Int)):List (List Int):=ord.toList.map fun r => ks.getD r []
theorem els_pick {h:Heap} {es:Array (Int×Value)} {ks:List (List Int)} {ord:Array Nat} (x:Els prog w h es ks) (hp:ord.toList.Perm (List.range ks.length)):Els prog w h (ord.filterMap (es[·]?)) (picK ord ks)∧(picK ord ks).Perm ks:=by
 have hlt:∀ r∈ord.toList,r < ks.length:=fun r hr => List.mem_range.mp (hp.mem_iff.mp hr)
 have hlen:ord.toList.length = ks.length:=by rw [hp.length_eq,List.length_range]
 have hfm:∀ l:List Nat,(∀ r∈l,r < ks.length)→l.filterMap (es[·]?) = l.map fun r => es.getD r (0,.none):=by
  intro l
  induction l with
  | nil => intro _; rfl
  | cons r l ih =>
   intro hl
   have hr:r < es.size:=by rw [x.1]; exact hl r List.mem_cons_self
   rw [List.filterMap_cons,Array.getElem?_eq_getElem hr,List.map_cons,ih fun r' hr' => hl r' (List.mem_cons_of_mem _ hr')]
   simp [Array.getD,hr]
 have e1:(ord.filterMap (es[·]?)).toList = ord.toList.map fun r => es.getD r (0,.none):=by
  rw [Array.toList_filterMap]; exact hfm _ hlt
 refine ⟨⟨?_,fun i hi => ?_⟩,?_⟩
 ·rw [← Array.length_toList,e1,List.length_map]; unfold picK; rw [List.length_map]
 ·unfold picK at hi ⊢
  rw [List.length_map] at hi
  have hr:=hlt _ (List.getElem_mem hi)
  obtain ⟨a,h1,h2⟩:=x.2 _ hr
  have e2:(ord.toList.map fun r => ks.getD r []).getD i [] = ks.getD (ord.toList[i]) []:=by
   rw [List.getD_eq_getElem?_getD,List.getElem?_map,List.getElem?_eq_getElem hi]; rfl
  rw [e2]
  refine ⟨a,?_,h2⟩
  rw [← Array.getElem?_toList,e1,List.getElem?_map,List.getElem?_eq_getElem hi,← h1]
  have hr':ord.toList[i] < es.size:=by rw [x.1]; exact hr
  show some (es.getD (ord.toList[i]) (0,.none)) = _
  rw [Array.getD_eq_getD_getElem?,Array.getElem?_eq_getElem hr']; rfl
 ·unfold picK
  have:=hp.map fun r => ks.getD r []
  refine this.trans ?_
  have e3:(List.range ks.length).map (fun r => ks.getD r []) = ks:=by
   apply List.ext_getElem?
   intro i
   rw [List.getElem?_map]
   by_cases hi:i < ks.length
   ·rw [List.getElem?_range hi,List.getElem?_eq_getElem hi]; simp [hi]
   ·rw [List.getElem?_eq_none (by simpa using hi),List.getElem?_eq_none (by simpa using hi)]; rfl
  rw [e3]
end
section
variable {prog:Program} {w:World} {A:Around} {E:Value→Shared→Prop} {s:Shared}
theorem relay_run {S:Addr} {o:Obj} {es:Array (Int×Value)} {ep:Nat} {t:SetTable} {ks:List (List Int)} {Q:Unit→Shared→Prop} (ho:s.heap.get? S = some o) (hex:o.ExactSet) (hd:o.data = .set es ep t) (el:Els prog w s.heap es ks) (T:Tb t (hsh prog w ks) ks.length) (hpl:t.plain = true) (hn:ks.length≤t.mask) (hnd:ks.Nodup)
  {M:Nat} (hM:Msk M) (hsz:sizeAbove (grown ks.length) = M + 1) (hfew:ks.length * 5 < M * 3)
  (h:∀ h' ks',Heap.SameBut S s.heap h'→SetT prog w h' S ks'→ks'.Perm ks→Q () { s with heap:=h' }):wpAny (model prog w) A (setRelay S (grown ks.length)) Q E s:=by
 have hf:t.fits es.size = true:=by rw [el.1]; exact fits_of T hn
 obtain ⟨t2,ord,l1,l2,l3,l4,l5,l6,l7⟩:=tb_laid hM (hs:=hsh prog w ks) (es.map (·.1)) (by
  intro i hi
  rw [Array.size_map] at hi
  obtain ⟨a,h1,_⟩:=el.2 i (by rw [← el.1]; exact hi)
  rw [Array.getD_eq_getD_getElem?,Array.getElem?_map,h1]; rfl) (by rw [Array.size_map,el.1]; grind) t.finger (t.movedTo M) t.led t.plain
 rw [Array.size_map,el.1] at l6 l7
 obtain ⟨x2,p2⟩:=els_pick el l6
 have hrel:t.relaid (es.map (·.1)) (grown ks.length) = some (t2,ord):=by
  unfold relaid
  rw [hsz]; exact l1
 unfold setRelay
 refine wpAny_bind (wpAny_setState_of ho hd hf ?_)
 dsimp only
 rw [if_neg (by rw [hsz,sizeLine_eq]; rcases hM with e | e | e <;> rw [e] <;> decide)]
 rw [hrel]
 have hsame:((ord.filterMap (es[·]?)).size != es.size) = false:=by
  rw [x2.1,p2.length_eq,el.1]; exact bne_self_eq_false _
 refine wpAny_bind (Q:=_) (show wpAny (model prog w) A (do
   if ((ord.filterMap (es[·]?)).size != es.size) = true then unsupported "internal:set-table-lost-an-element"
   pure (ord.filterMap (es[·]?),t2)) _ E s from ?_)
 rw [hsame]
 simp only [Bool.false_eq_true,if_false]
 refine wpAny_pure ?_
 dsimp only
 have hz2:(ord.filterMap (es[·]?)).size≤sizeLine:=by
  rw [x2.1,p2.length_eq,sizeLine_eq]
  have:t.mask≤127:=by rcases T.msk with e | e | e <;> grind
  grind
 refine wpAny_storeSet_of ho hd ?_ hz2
 have hsb:=Heap.SameBut.update s.heap S (Obj.putSet (ord.filterMap (es[·]?)) t2)
 refine h _ (picK ord ks) hsb ⟨_,_,_,_,store_at ho hd _ _,hex,rfl,x2.keeps ho hd hsb,?_,by rw [l4]; exact hpl,by rw [p2.length_eq,l2]; exact hfew,p2.nodup_iff.mpr hnd⟩ p2
 rw [p2.length_eq]
 refine tb_same l7 fun i hi => ?_
 unfold hsh picK
 have hi':i < ord.toList.length:=by rw [l6.length_eq,List.length_range]; exact hi
 congr 1
 rw [List.getD_eq_getElem?_getD (l:=ord.toList.map _),List.getElem?_map,List.getElem?_eq_getElem hi']
 have hi2:i < ord.size:=by rw [← Array.length_toList]; exact hi'
 rw [Array.getD_eq_getD_getElem?,Array.getElem?_eq_getElem hi2,Array.getElem_toList]; rfl
theorem same_self (s:Shared):s = { s with heap:=s.heap }:=by cases s; rfl
theorem add_run {S a:Addr} {ks:List (List Int)} {kx:List Int} {Q:Bool→Shared→Prop} (hu:A.units < cLine) (hS:SetT prog w s.heap S ks) (hx:IsTupleKey (intKind prog w) s.heap kx a) (hb:ks.length < 76)
  (h:∀ b h' ks',Heap.SameBut S s.heap h'→SetT prog w h' S ks'→(∀ k,k∈ks'↔k∈ks∨k = kx)→ks'.length≤ks.length + 1→Q b { s with heap:=h' }) :
  wpAny (model prog w) A (setAddHashed S (.ref a) (tupleKeyHash (intKind prog w) kx)) Q E s:=by
 obtain ⟨o,es,ep,t,ho,hex,hd,el,T,hpl,hfew,hnd⟩:=id hS
 have hn:ks.length≤t.mask:=by grind
 have hf:t.fits es.size = true:=by rw [el.1]; exact fits_of T hn
 obtain ⟨e,he1,he2,he3⟩:=tb_end T hn (tupleKeyHash (intKind prog w) kx)
 have hM:t.mask≤127:=by rcases T.msk with e | e | e <;> grind
 unfold setAddHashed setAddHashedIn
 refine wpAny_holding (wpAny_bind (wpAny_setState_of ho hd hf ?_))
 dsimp only
 have hbs:byScan (.ref a) es = false:=rfl
 rw [hbs]
 simp only [Bool.false_eq_true,if_false]
 unfold setSearch
 refine wpAny_bind (search_run hu ho hd el T hn hx he1 he2 he3 (fun hm => ?_) (fun hm => ?_) e 100000 0 none (by grind) (Nat.zero_le _) (by unfold turns at he1; grind) rfl (fun m' i z => absurd z (Nat.not_lt_zero _)))
 ·dsimp only
  refine wpAny_pure ?_
  rw [same_self s]
  exact h _ s.heap ks (Heap.SameBut.refl S s.heap) hS (fun k => ⟨.inl,fun z => z.elim id fun e => e▸hm⟩) (Nat.le_succ _)
 ·dsimp only
  refine wpAny_bind (wpAny_setState_of ho hd hf ?_)
  dsimp only
  have hj:=st0_le t.mask (tupleKeyHash (intKind prog w) kx) e
  obtain ⟨T1,hp⟩:=tb_put T he2 he3 hj
  have m1:(t.put (itr t.mask (st0 t.mask (tupleKeyHash (intKind prog w) kx)) e).j).1.mask = t.mask:=rfl
  have p1:(t.put (itr t.mask (st0 t.mask (tupleKeyHash (intKind prog w) kx)) e).j).1.plain = t.plain:=rfl
  generalize t.put (itr t.mask (st0 t.mask (tupleKeyHash (intKind prog w) kx)) e).j = tp at T1 hp m1 p1
  obtain ⟨t1,p⟩:=tp
  dsimp only at T1 hp m1 p1 ⊢
  have T2:Tb t1 (hsh prog w (insK ks p kx)) (insK ks p kx).length:=by
   rw [insK_len ks p kx hp]
   refine tb_same T1 fun i _ => ?_
   unfold hsh
   rw [insK_get ks p kx hp]
   split
   ·rfl
   ·split <;> rfl
  have hil:=insK_len ks p kx hp
  have hper:=insK_perm ks p kx
  have hnd2:(insK ks p kx).Nodup:=hper.nodup_iff.mpr (List.nodup_cons.mpr ⟨hm,hnd⟩)
  have el2:=els_put (p:=p) el hp hx
  have hmem:∀ k,k∈insK ks p kx↔k∈ks∨k = kx:=fun k => by
   rw [hper.mem_iff,List.mem_cons]
   exact ⟨fun z => z.symm,fun z => z.symm⟩
  have hle:(insK ks p kx).length≤ks.length + 1:=by grind
  have hes:es.size + 1 = (insK ks p kx).length:=by rw [hil,el.1]
  rw [hes]
  generalize insK ks p kx = kk at T2 hil hper hnd2 el2 hmem hle
  rw [p1,hpl]
  refine wpAny_bind ?_
  refine tup_byValue hx ?_
  rw [if_pos rfl]
  have hz1:(insertAt es p (tupleKeyHash (intKind prog w) kx,Value.ref a)).size≤sizeLine:=by rw [el2.1,hil,sizeLine_eq]; grind
  refine wpAny_bind (wpAny_storeSet_of ho hd ?_ hz1)
  have hsb:=Heap.SameBut.update s.heap S (Obj.putSet (insertAt es p (tupleKeyHash (intKind prog w) kx,Value.ref a)) t1)
  have ho1:=store_at ho hd (insertAt es p (tupleKeyHash (intKind prog w) kx,Value.ref a)) t1
  have el3:=el2.keeps ho hd hsb
  generalize insertAt es p (tupleKeyHash (intKind prog w) kx,Value.ref a) = es1 at hz1 hsb ho1 el2 el3
  have hfill:t1.fill = kk.length:=by
   unfold SetTable.fill
   rw [T2.nod,T2.size]; rfl
  by_cases hfull:t1.tooFull = true
  ·rw [hfull]
   simp only [Bool.not_false,Bool.and_self,if_true]
   unfold SetTable.tooFull at hfull
   rw [hfill] at hfull
   have hfull':=of_decide_eq_true hfull
   rw [m1] at hfull'
   have hMM:∃ M,Msk M∧sizeAbove (grown kk.length) = M + 1∧kk.length * 5 < M * 3:=by
    rcases T.msk with z | z | z
    ·rw [z] at hfull' hfew
     have e5:kk.length = 5:=by grind
     rw [e5]
     exact ⟨31,.inr (.inl rfl),by decide,by decide⟩
    ·rw [z] at hfull' hfew
     have e19:kk.length = 19:=by grind
     rw [e19]
     exact ⟨127,.inr (.inr rfl),by decide,by decide⟩
    ·rw [z] at hfull'; grind
   obtain ⟨M,hM1,hM2,hM3⟩:=hMM
   refine wpAny_bind (relay_run (s:={ s with heap:=s.heap.update S (Obj.putSet es1 t1) }) ho1 hex rfl el3 T2 (p1.trans hpl) (by rw [m1]; grind) hnd2 hM1 hM2 hM3 fun h' ks' s1 s2 s3 => ?_)
   refine wpAny_pure (h _ h' ks' (hsb.trans s1) s2 (fun k => by rw [s3.mem_iff]; exact hmem k) (by rw [s3.length_eq]; exact hle))
  ·rw [Bool.not_eq_true] at hfull
   rw [hfull]
   simp only [Bool.and_false,Bool.false_eq_true,if_false]
   unfold SetTable.tooFull at hfull
   rw [hfill] at hfull
   have hfull':=of_decide_eq_false hfull
   exact wpAny_pure (h _ _ kk hsb ⟨_,_,_,_,ho1,hex,rfl,el3,T2,p1.trans hpl,by grind,hnd2⟩ hmem hle)
end
section
variable {prog:Program} {w:World} {A:Around} {E:Value→Shared→Prop} {s:Shared}
theorem key_off {h h':Heap} {ks:List Int} {a d:Addr} {o:Obj} (x:IsTupleKey (intKind prog w) h ks a) (ho:h.get? d = some o) (hc:o.cls≠.type "tuple") (hs:∀ b u,b≠d→h.get? b = some u→h'.get? b = some u):IsTupleKey (intKind prog w) h' ks a:=by
 obtain ⟨o',items,n,ho',hc',hd',hi⟩:=x
 have hne:a≠d:=by
  rintro rfl
  obtain rfl:o' = o:=Option.some.inj (ho'.symm.trans ho)
  exact hc hc'
 exact ⟨o',items,n,hs a o' hne ho',hc',hd',hi⟩
theorem SetT.off {h h':Heap} {S d:Addr} {ks:List (List Int)} {o:Obj} (x:SetT prog w h S ks) (hS:S≠d) (ho:h.get? d = some o) (hc:o.cls≠.type "tuple") (hs:∀ b u,b≠d→h.get? b = some u→h'.get? b = some u):SetT prog w h' S ks:=by
 obtain ⟨u,es,ep,t,h1,h2,h3,h4,h5⟩:=x
 exact ⟨u,es,ep,t,hs S u hS h1,h2,h3,⟨h4.1,fun i hi => let ⟨a,g1,g2⟩:=h4.2 i hi; ⟨a,g1,key_off g2 ho hc hs⟩⟩,h5⟩
theorem loop_run {R:Result→Shared→Prop} {S I l:Addr} {items:Array Value} {kk:List (List Int)} {ad:Nat→Addr} (hh:A.handled = none) (hu:A.units + 1 < cLine) (hSI:S≠I) (hSl:S≠l) (hlI:l≠I) (hsz:items.size = kk.length) (h76:kk.length≤76) (hit:∀ j,j < kk.length→items[j]? = some (.ref (ad j))) :
  ∀ (d i:Nat) (s:Shared) (ks:List (List Int)),kk.length - i = d→i≤kk.length→s.heap.IsListIter I l i→s.heap.IsList l items→SetT prog w s.heap S ks→(∀ x,x∈ks↔x∈kk.take i)→ks.length≤i→(∀ j,j < kk.length→IsTupleKey (intKind prog w) s.heap (kk.getD j []) (ad j)) →
   (∀ h' tk ks',(∀ b o,b≠S→b≠I→s.heap.get? b = some o→h'.get? b = some o)→SetT prog w h' S ks'→(∀ x,x∈ks'↔x∈kk)→ks'.length≤kk.length→R (.ok (.ret .none)) { s with heap:=h',toks:=tk }) →
   codeAny (model prog w) A (.builtin "set.update.loop" ⟨[.ref S,.ref I],[]⟩) R s:=by
 intro d
 induction d with
 | zero =>
  intro i s ks hd hi it li st mem le keys hR
  have e:i = kk.length:=by grind
  subst e
  refine codeAny_builtin F.entry_set_update_loop ?_
  rw [Around.under_plainId F.plain_set_update_loop _]
  show wpAny _ A.in1 (pyNext (.ref I) >>= _) _ _ s
  refine wpAny_bind (wpAny_pyNext_list_end (by simp [hh]) it li (by simp [hsz]) fun h' he => ?_)
  show wpAny _ A.in1 (ret Value.none) _ _ _
  obtain ⟨o,io,ic,_⟩:=id it
  rw [List.take_of_length_le (Nat.le_refl _)] at mem
  exact wpAny_pure (hR h' s.toks ks (fun b o _ hb q => he b o hb q) (st.off hSI io (by rw [ic]; decide) he) mem le)
 | succ d ih =>
  intro i s ks hd hi it li st mem le keys hR
  have hlt:i < kk.length:=by grind
  refine codeAny_builtin F.entry_set_update_loop ?_
  rw [Around.under_plainId F.plain_set_update_loop _]
  show wpAny _ A.in1 (pyNext (.ref I) >>= _) _ _ s
  refine wpAny_bind (wpAny_pyNext_list_item it li (hit i hlt) fun h1 it1 hs1 => ?_)
  obtain ⟨o,io,ic,_⟩:=id it
  have keep1:∀ b u,b≠I→s.heap.get? b = some u→h1.get? b = some u:=fun b u hb q => hs1.extBut b u hb q
  have st1:=st.off hSI io (by rw [ic]; decide) keep1
  have keys1:∀ j,j < kk.length→IsTupleKey (intKind prog w) h1 (kk.getD j []) (ad j):=fun j hj => key_off (keys j hj) io (by rw [ic]; decide) keep1
  have li1:h1.IsList l items:=li.extBut hs1.extBut hlI
  show wpAny _ A.in1 (holding [Value.ref (ad i)] (setAdd S (.ref (ad i))) >>= _) _ _ _
  refine wpAny_bind (wpAny_holding ?_)
  unfold setAdd
  refine wpAny_holding (wpAny_bind (wpAny_pyHash_tuple (knd:=intKind prog w) (by show A.units + 1 < cLine; exact hu) (keys1 i hlt) ?_))
  refine add_run (s:={ s with heap:=h1,toks:=s.toks + ((kk.getD i []).length + 1) }) (by show A.units + 1 < cLine; exact hu) st1 (keys1 i hlt) (by grind) fun b h2 ks2 sb st2 m2 le2 => ?_
  obtain ⟨o2,_,_,_,so,sx,sd,_⟩:=id st1
  have keep2:∀ b u,b≠S→h1.get? b = some u→h2.get? b = some u:=fun b u hb q => (sb.2 b hb).trans q
  have hc2:o2.cls≠.type "tuple":=by rw [sx.1]; decide
  refine wpAny_pure ⟨plainId_quiet F.plain_set_update_loop _,ih (i + 1) _ ks2 (by grind) (by grind) (it1.at fun u q => keep2 I u (fun z => hSI z.symm) q) (li1.at fun u q => keep2 l u (fun z => hSl z.symm) q) st2 (fun x => ?_) (by grind) (fun j hj => key_off (keys1 j hj) so hc2 keep2) fun h' tk ks' k1 k2 k3 k4 => ?_⟩
  ·rw [m2,mem,List.take_add_one,List.getElem?_eq_getElem hlt,List.mem_append]
   rw [show kk.getD i [] = kk[i] from by rw [List.getD_eq_getElem?_getD,List.getElem?_eq_getElem hlt]; rfl]
   simp
  ·exact hR h' tk ks' (fun b u hb1 hb2 q => k1 b u hb1 hb2 (keep2 b u hb1 (keep1 b u hb2 q))) k2 k3 k4
end
section
variable {prog:Program} {w:World} {A:Around} {E:Value→Shared→Prop} {s:Shared}
def setNew (led:Bool):Obj:={ cls:=.type "set",dict:=none,data:=.set #[] 0 (.fresh 0 0 led) }
theorem setT_new {h:Heap} {S:Addr} {led:Bool} (ho:h.get? S = some (setNew led)):SetT prog w h S [] :=
 ⟨_,_,_,_,ho,⟨rfl,rfl,rfl⟩,rfl,⟨rfl,fun _ z => absurd z (Nat.not_lt_zero _)⟩,⟨rfl,fun _ _ _ z => absurd z (Nat.not_lt_zero _),fun _ z => absurd z (Nat.not_lt_zero _),rfl,.inl rfl,fun _ z => absurd z (Nat.not_lt_zero _)⟩,rfl,(by show 0 * 5 < 7 * 3; decide),List.nodup_nil⟩
set_option maxHeartbeats 3200000 in
theorem set_call {l:Addr} {items:Array Value} {kk:List (List Int)} {ad:Nat→Addr} {Q:Value→Shared→Prop} (hh:A.handled = none) (hu:A.units + 16 < cLine) (hl:s.heap.IsList l items) (hsz:items.size = kk.length) (h76:kk.length≤76) (hit:∀ j,j < kk.length→items[j]? = some (.ref (ad j)))
  (keys:∀ j,j < kk.length→IsTupleKey (intKind prog w) s.heap (kk.getD j []) (ad j))
  (h:∀ h' tk ks,SetT prog w h' s.heap.objs.size ks→(∀ x,x∈ks↔x∈kk)→ks.length≤kk.length→(∀ b o,s.heap.get? b = some o→h'.get? b = some o)→Q (.ref s.heap.objs.size) { s with heap:=h',toks:=tk }) :
  wpAny (model prog w) A (call (.type "set") [.ref l]) Q E s:=by
 obtain ⟨c,tl,hmro⟩:=F.called_set.mro; have hmade:=F.called_set.made; have hsub:=F.called_set.sub
 refine wpAny_call (codeAny_of_tree ?_); show wpAny _ _ (callAny (.type "set") _) _ _ _
 refine wpAny_pure ⟨Code.quiet_builtin _ (by decide +kernel),codeAny_builtin F.entry_type_call ?_⟩; rw [Around.under_plain (weight_type_call_type "set" [.ref l] []) rfl]
 have h1:=F.called_set.notType; have h2:=F.called_set.canCreate; have hct:=F.typeCall_set_1 (.ref l)
 (repeat (any_goals (first | assumption | wp_step)))
 refine codeAny_mono (code_set_new_1 (.ref l) (E:=E) (Q₁:=fun obj s₁ => ∃ led:Bool,obj = .ref s.heap.objs.size∧s₁ = { s with heap:=s.heap.push (setNew led) }) fun led => ⟨led,rfl,rfl⟩) fun r s₁ hr => ?_
 cases r with
 | error e => exact hr
 | ok fl =>
  cases fl with
  | ret obj =>
   obtain ⟨led,rfl,rfl⟩:=hr
   have hS:(s.heap.push (setNew led)).get? s.heap.objs.size = some (setNew led):=Heap.get?_push_size _ rfl
   have hT:Shared.TypeIs { s with heap:=s.heap.push (setNew led) } (.ref s.heap.objs.size) "set":=⟨_,hS,rfl⟩
   have hli:=F.called_set.init.lookup; have hbi:=F.called_set.init.bind (.ref s.heap.objs.size)
   (repeat (any_goals (first | assumption | wp_step)))
   refine codeAny_mono (codeAny_call_builtin (R:=wants (fun r s₂ => r = .none∧∃ h' tk ks,s₂ = { s with heap:=h',toks:=tk }∧SetT prog w h' s.heap.objs.size ks∧(∀ x,x∈ks↔x∈kk)∧ks.length≤kk.length∧∀ b o,s.heap.get? b = some o→h'.get? b = some o) E) F.called_set.init.plain F.entry_set_init (check_set_init_1 hT ?_)) fun r₂ s₂ hr₂ => ?_
   ·have hl1:(s.heap.push (setNew led)).IsList l items:=hl.push _
    obtain ⟨⟨ocls,odict,odata,oslots⟩,hol,hcl,nl,hdl⟩:=hl
    simp only at hcl hdl; subst hcl; subst hdl
    have hol':=Heap.get?_push_of_some (setNew led) hol
    have hsls:=F.sub_list_set; have hslf:=F.sub_list_frozenset
    have hne:(Value.type "list" == Value.type "dict") = false:=by decide
    unfold Builtin.«set.__init__» noKeywords Builtin.Frozenset.updateFrom; generalize hPI:pyIter = PI
    wp_walk
    subst hPI
    refine wpAny_pyIter_list hl1 (wpAny_bind (wpAny_runValue ?_))
    have hlS:l < s.heap.objs.size:=Heap.lt_size hol
    have hz:(s.heap.push (setNew led)).objs.size = s.heap.objs.size + 1:=Heap.size_push ..
    have up:∀ (X:Obj) b o,s.heap.get? b = some o→((s.heap.push (setNew led)).push X).get? b = some o:=fun X b o q => Heap.get?_push_of_some _ (Heap.get?_push_of_some _ q)
    refine loop_run (I:=(s.heap.push (setNew led)).objs.size) (l:=l) (items:=items) (kk:=kk) (ad:=ad) (by simp [hh]) (by show A.units + 2 + 1 < cLine; omega) (by rw [hz]; exact Nat.ne_of_lt (Nat.lt_succ_self _)) (Nat.ne_of_gt hlS) (by rw [hz]; exact Nat.ne_of_lt (Nat.lt_succ_of_lt hlS)) hsz h76 hit kk.length 0 _ [] (by omega) (Nat.zero_le _) ⟨_,Heap.get?_push_size _ rfl,rfl,rfl⟩ (hl1.push _) (setT_new (Heap.get?_push_of_some _ hS)) (by simp) (Nat.zero_le _) (fun j hj => let ⟨o,its,n,q,r⟩:=keys j hj; ⟨o,its,n,up _ _ _ q,r⟩) fun h' tk ks' k1 k2 k3 k4 => ?_
    show wpAny _ _ _ _ _ _
    refine wpAny_pure ?_
    show wpAny _ _ (ret Value.none) _ _ _
    refine wpAny_pure ⟨rfl,h',tk,ks',rfl,k2,k3,k4,fun b o q => k1 b o (Nat.ne_of_lt (Heap.lt_size q)) (by rw [hz]; exact Nat.ne_of_lt (Nat.lt_succ_of_lt (Heap.lt_size q))) (up _ b o q)⟩
   ·cases r₂ with
    | error e => exact hr₂
    | ok fl₂ =>
     cases fl₂ with
     | ret r =>
      obtain ⟨rfl,h',tk,ks,rfl,k1,k2,k3,k4⟩:=hr₂
      (repeat (any_goals (first | assumption | wp_step)))
      exact h _ _ ks k1 k2 k3 k4
     | _ => exact hr₂.elim
  | _ => exact hr.elim
end
end L3.ST
namespace L3
open PySem PySem.Spec PyProof.Rows L2
def tpI (ns:List Int):D:=.tup (ns.map D.int)
def r3lenSet:List D→Hp3→VK3→Prop:=fun ds H Q => ∃ (a:Addr) (kk:List (List Int)),ds = [.ref a]∧H a = some (.lst (kk.map tpI))∧kk.length≤76∧∀ ks:List (List Int),ks.Nodup→(∀ x,x∈ks↔x∈kk)→Q (.int ks.length) H
theorem few_sub {α:Type} [DecidableEq α]:∀ {l m:List α},l.Nodup→(∀ x∈l,x∈m)→l.length≤m.length
 | [],_,_,_ => Nat.zero_le _
 | x::l,m,hn,hs => by
  rw [List.nodup_cons] at hn
  have hx:=hs x List.mem_cons_self
  have:=few_sub (m:=m.erase x) hn.2 fun y hy => (List.mem_erase_of_ne (fun e => hn.1 (by rw [← e]; exact hy))).mpr (hs y (List.mem_cons_of_mem _ hy))
  rw [List.length_erase_of_mem hx] at this
  have:=List.length_pos_of_mem hx
  rw [List.length_cons]; grind
theorem nodup_full {α:Type} [DecidableEq α]:∀ {l m:List α},l.Nodup→(∀ x∈l,x∈m)→m.length≤l.length→m.Nodup
 | [],m,_,_,h => by rw [List.length_eq_zero_iff.mp (Nat.le_zero.mp h)]; exact List.nodup_nil
 | x::l,m,hn,hs,h => by
  have hn':=List.nodup_cons.mp hn
  have hx:=hs x List.mem_cons_self
  have hl:(m.erase x).length = m.length - 1:=List.length_erase_of_mem hx
  have hp:=List.length_pos_of_mem hx
  rw [List.length_cons] at h
  have hs':∀ y∈l,y∈m.erase x:=fun y hy => (List.mem_erase_of_ne (fun e => hn'.1 (by rw [← e]; exact hy))).mpr (hs y (List.mem_cons_of_mem _ hy))
  have ih:=nodup_full hn'.2 hs' (by grind)
  refine (List.perm_cons_erase hx).nodup_iff.mpr (List.nodup_cons.mpr ⟨fun z => ?_,ih⟩)
  have:=few_sub hn fun y hy => by
   rcases List.mem_cons.mp hy with e | hy
   ·rw [e]; exact z
   ·exact hs' y hy
  rw [List.length_cons] at this
  grind
def p2l (p:Pt):List Int:=[p.1,p.2]
theorem p2l_inj {p q:Pt} (h:p2l p = p2l q):p = q:=by
 simp only [p2l,List.cons.injEq,and_true] at h
 exact Prod.ext h.1 h.2
theorem g_lenSet {ps:List Pt} {a:Addr} {H:Hp3} {Q:VK3} (ha:H a = some (.lst (ps.map prP))) (hl:ps.length≤76) (q:∀ n:Nat,(n = ps.length↔ps.Nodup)→n≤ps.length→Q (.int n) H):r3lenSet [.ref a] H Q:=by
 have e:(ps.map p2l).map tpI = ps.map prP:=by rw [List.map_map]; rfl
 have nd:(ps.map p2l).Nodup↔ps.Nodup:=by
  rw [List.nodup_iff_pairwise_ne,List.nodup_iff_pairwise_ne,List.pairwise_map]
  exact ⟨fun h => h.imp fun {x y} z w => z (by rw [w]),fun h => h.imp fun {x y} z w => z (p2l_inj w)⟩
 refine ⟨a,ps.map p2l,rfl,by rw [e]; exact ha,by rw [List.length_map]; exact hl,fun ks h1 h2 => q ks.length ?_ ?_⟩
 ·rw [← nd]
  constructor
  ·intro z
   exact nodup_full h1 (fun x hx => (h2 x).mp hx) (by rw [List.length_map]; grind)
  ·intro z
   have:=((List.perm_ext_iff_of_nodup h1 z).mpr h2).length_eq
   rwa [List.length_map] at this
 ·have:=few_sub h1 fun x hx => (h2 x).mp hx
  rwa [List.length_map] at this
section
variable {X:Cx}
theorem ints_items {prog:Program} {w:World}:∀ {ns:List Int} {vs:List Value},Vals (ns.map V.int) vs→ItemsAre (intKind prog w) ns vs
 | [],_,.nil => .nil
 | _::_,_,.cons r t => by
  obtain ⟨t',rfl⟩:=r
  exact .cons (intKind_is _ _ _ _) (ints_items t)
theorem tups_keys {pins:List (Addr×Obj)} {σ:St} {H:Hp} {s:Shared} (I:Inv X pins σ H s):∀ {kk:List (List Int)} {vs:List V} {its:List Value},RepL X.K H (kk.map tpI) vs→Vals vs its →
  ∀ j,j < kk.length→∃ a,its[j]? = some (.ref a)∧IsTupleKey (intKind X.prog X.w) s.heap (kk.getD j []) a
 | [],_,_,_,_,j,hj => absurd hj (Nat.not_lt_zero _)
 | ns::kk,_,_,.cons r t,.cons q qs,j,hj => by
  cases j with
  | zero =>
   cases r with
   | tup ha rl =>
    cases q
    have ex:=RepL.ints_inv rl
    subst ex
    obtain ⟨its,rv,⟨o,ho,hc,m,hd⟩,_⟩:=I.tuple (SqT.of ha)
    exact ⟨_,rfl,o,_,m,ho,hc,hd,by simpa using ints_items rv⟩
  | succ j =>
   obtain ⟨a,h1,h2⟩:=tups_keys I t qs j (by rw [List.length_cons] at hj; grind)
   exact ⟨a,by simpa using h1,by simpa using h2⟩
theorem p3_lenSet {p1 p2 pos1 pos2:Pos} {e:Expr} {t:TA3} (hc:X.calm = true) (hu:X.A.units + 64 < cLine) (hgl:Gl X "len") (hml:X.mg "len" = none) (hgs:Gl X "set") (hms:X.mg "set" = none) (hvl:bootBuiltins "len" = some (.builtin "len")) (hvs:bootBuiltins "set" = some (.type "set")) (ha:PA3 X [e] t)
  (he1:starEach [Expr.Call (.Name "set" p2) [e] [] pos2] X.env = (false,eval (.Call (.Name "set" p2) [e] [] pos2) X.env)::starEach [] X.env:=by rfl) (he2:starEach [e] X.env = (false,eval e X.env)::starEach [] X.env:=by rfl)
  (hq1:(backTo pos1 (starEach [] X.env)).any (·.1) = false:=by rfl) (hq2:(backTo pos2 (starEach [] X.env)).any (·.1) = false:=by rfl) :
  PE3 X (.Call (.Name "len" p1) [.Call (.Name "set" p2) [e] [] pos2] [] pos1) (cb3 r3lenSet t):=by
 intro pins s σ H Q I h
 have h':=lift_cb h
 refine wpAny_Call_Name_kw (ld_blt I hgl hml hvl ?_ (by decide) (by decide))
 refine PyProof.Rows.callWith_builtin1 ?_ he1 hq1
 rw [he1]
 show wpAny _ _ (spliced ((false,eval (.Call (.Name "set" p2) [e] [] pos2) X.env)::backTo pos1 (starEach [] X.env))) _ _ s
 refine Calls.spliced_cons ?_
 refine wpAny_Call_Name_kw (ld_blt I hgs hms hvs ?_ (by decide) (by decide))
 refine PyProof.Rows.callWith_type1 (thn (ha pos2 pins s σ H _ I h') fun us s1 zz => ?_) he2 hq2
 obtain ⟨vs,H1,I1,r1,q1⟩:=zz
 obtain ⟨ds,H3,Q3,hr,rd,⟨a,kk,rfl,ka,k76,tq⟩,kk3⟩:=q1
 cases rd with
 | cons r1' r2' =>
  cases r2'
  cases r1'
  obtain ⟨u,rfl,ru⟩:=Vals.one r1
  obtain rfl:u = Value.ref a:=ru
  obtain ⟨xs,ga,ra⟩:=hr a _ ka
  obtain ⟨its,rv,pl,hz⟩:=I1.list (SqL.of ga)
  have keys:=tups_keys I1 ra rv
  have hlen:its.length = kk.length:=by rw [← rv.length,← ra.length,List.length_map]
  have hch:∃ ad:Nat→Addr,∀ j,j < kk.length→its[j]? = some (.ref (ad j))∧IsTupleKey (intKind X.prog X.w) s1.heap (kk.getD j []) (ad j):=by
   refine ⟨fun j => if hj:j < kk.length then Classical.choose (keys j hj) else 0,fun j hj => ?_⟩
   dsimp only
   rw [dif_pos hj]
   exact Classical.choose_spec (keys j hj)
  obtain ⟨ad,had⟩:=hch
  refine ST.set_call (items:=its.toArray) (kk:=kk) (ad:=ad) (I1.ok.hd hc) (by grind) pl.isList (by rw [List.size_toArray,hlen]) k76 (fun j hj => by simpa using (had j hj).1) (fun j hj => (had j hj).2) fun h2 tk ks k1 k2 k3 k4 => ?_
  have I2:=I1.kept (t':=tk) k4
  obtain ⟨o,es,ep,tb,ho,hex,hd,el,T,_,hfew,hnd⟩:=id k1
  refine Calls.spliced_nil ?_
  have hfit:tb.fits es.size = true:=by rw [el.1]; exact ST.fits_of T (by grind)
  refine call_len_set (s:={ s1 with heap:=h2,toks:=tk }) ho hex hd hfit (by rw [el.1]; have:((ks.length:Nat):Int) < 100:=(by grind); exact Int.lt_trans this (by decide)) ?_
  refine ⟨.int ks.length,H1,I2.tok (tk + 1 + 1),⟨tk + 1,by rw [el.1]⟩,?_⟩
  exact kk3 _ _ _ _ TK.refl hr (.int _) (tq ks hnd k2)
end
def ezk (x:D) (H:Hp3) (R:List D→(Hp3→Prop)→Hp3→Prop):Prop:=match x with
 | .str z => z.cps.all (· < 128) = true∧R (zipD (rng 0 (lets z).length) (lets z)) (fun _ => True) H
 | _ => False
def iez (te:TE3):TI3:=fun σ H R => te σ H fun x H1 => ezk x H1 R
theorem g_iez {te:TE3} {σ:St3} {H:Hp3} {R:List D→(Hp3→Prop)→Hp3→Prop} (h:te σ H fun x H1 => ezk x H1 R):iez te σ H R:=h
theorem g_ezk {z:Str} {H:Hp3} {R:List D→(Hp3→Prop)→Hp3→Prop} (ha:z.cps.all (· < 128) = true) (q:R (zipD (rng 0 (lets z).length) (lets z)) (fun _ => True) H):ezk (.str z) H R:=⟨ha,q⟩
def Itez (x:Str):It :=
 ⟨fun i _ => ∃ c,x.cps[i]? = some c,
   fun i H v H' => ∃ T c,v = .ref T∧H T = none∧H' = upd H T (.tup [.int i,.str ⟨#[c]⟩])∧x.cps[i]? = some c,
   fun i _ => x.cps.size≤i⟩
theorem turn_enumZ {x:Str} {t:Tok} {P:Program} {w:World} {K:PySem.W.Frag} {elts:List Expr} {kt:Nat} {pt:Pos} (e it:Addr) (hne:e≠it) :
  Turn P w K (.Tuple elts kt pt) (Itez x) [e,it] e (fun i h => i≤x.cps.size∧(∃ old,IsEnum h e it i old)∧h.IsStrIter it "str_ascii_iterator" x t i) where
 mem:=by simp
 obj:=by
  rintro i h ⟨_,⟨old,h1⟩,⟨o4,h4,c4,d4⟩⟩ c hc
  simp only [List.mem_cons,List.not_mem_nil,or_false] at hc
  rcases hc with rfl | rfl
  ·exact ⟨_,h1,fun v z => nomatch z⟩
  ·exact ⟨_,h4,fun v z => by rw [d4] at z; cases z⟩
 keep:=by
  rintro i h h' ⟨hi,⟨old,h1⟩,⟨o4,h4,r4⟩⟩ k
  exact ⟨hi,⟨old,k e (by simp) _ h1⟩,o4,k it (by simp) o4 h4,r4⟩
 item:=by
  intro X hP hw hK hc i pins s σ H E I hf st hg
  subst hP hw hK
  obtain ⟨c,hx⟩:=hg
  obtain ⟨_,⟨old,h1⟩,h4⟩:=st
  have hT:H s.heap.objs.size = none:=I.hok.fresh (Nat.le_refl _)
  have hlt:i < x.cps.size:=(Array.getElem?_eq_some_iff.mp hx).1
  refine wpAny_pyNext_enum_itemD (Draws.strAscii (prog:=X.prog) (w:=X.w) (A:=X.A.in1) (I.ok.hd hc) it x t) h1 h4 hlt hne (by simp [hne]) fun u h' tk p a1 a2 a3 a4 a5 => ?_
  obtain ⟨c',u',hc',rfl⟩:=p
  have ec:c' = c:=Option.some.inj (hc'.symm.trans hx)
  subst ec
  refine ⟨_,rfl,?_⟩
  refine wpAny_letOwnedTupleGo_enum (s:={ s with heap:=h',toks:=tk + 1 }) a1 fun h'' b1 b2 => ?_
  have lt:∀ {c o},s.heap.get? c = some o→s.heap.objs.size≠c:=fun q => Nat.ne_of_gt (Heap.lt_size q)
  have new:h''.get? s.heap.objs.size = some { cls:=.type "tuple",data:=.seq #[.int i tk,.str ⟨#[c']⟩ u'] }:=(b2.2 _ (lt h1)).trans a3
  have I1:L2.Inv X pins σ (upd H s.heap.objs.size (.tup [.int i,.str ⟨#[c']⟩])) { s with heap:=h'',toks:=tk + 1 }:=by
   refine turnedNew (ch:=[e,it]) I (fun c o hcn q => ?_) hf (Nat.le_refl _) ⟨?_,[.int i tk,.str ⟨#[c']⟩ u'],.cons ⟨_,rfl⟩ (.cons ⟨_,rfl⟩ .nil),⟨_,new,rfl,_,rfl,rfl⟩⟩
   ·have n1:c≠e:=fun w => hcn (by simp [w])
    exact (b2.2 c n1).trans (a5 c o n1 (fun w => hcn (by simp [w])) q)
   ·show 2≤sizeLine; decide
  refine ⟨.ref s.heap.objs.size,_,I1,rfl,⟨_,c',rfl,hT,rfl,hx⟩,⟨hlt,⟨_,b1⟩,?_⟩,fun d hcm => ?_⟩
  ·obtain ⟨o,q,r⟩:=a2
   exact ⟨o,(b2.2 it (Ne.symm hne)).trans q,r⟩
  have hcn:H d = none:=(hf d hcm).1
  have:d≠s.heap.objs.size:=by
   obtain ⟨o,q,_⟩:∃ o,s.heap.get? d = some o∧True:=by
    simp only [List.mem_cons,List.not_mem_nil,or_false] at hcm
    rcases hcm with rfl | rfl
    ·exact ⟨_,h1,trivial⟩
    ·obtain ⟨o,q,_⟩:=h4; exact ⟨o,q,trivial⟩
   exact (lt q).symm
  rw [upd_ne this]; exact hcn
 done:=by
  intro X hP hw hK hc i pins s σ H E I hf st hg
  subst hP hw hK
  obtain ⟨hi,⟨old,h1⟩,h4⟩:=st
  have e0:i = x.cps.size:=Nat.le_antisymm hi hg
  subst e0
  refine wpAny_pyNext_enum_endD (Draws.strAscii (prog:=X.prog) (w:=X.w) (A:=X.A.in1) (I.ok.hd hc) it x t) h1 h4 fun h' k => ⟨rfl,?_⟩
  exact turnedL (t':=s.toks) (ch:=[e,it]) I (fun c o hcn q => k c o (fun w => hcn (by simp [w])) q) hf
 self:=fun A i s Q E st h => by
  obtain ⟨old,h1⟩:=st.2.1
  exact wpAny_pyIter_enum h1 h
section
variable {X:Cx} {tg:Expr}
theorem ascii_it {x:Str} (ha:x.cps.all (· < 128) = true):strIterType x = "str_ascii_iterator":=by unfold strIterType; rw [if_pos ha]
def jEnumZ (te:TA):L2.TI:=fun σ H R => te σ H fun vs H1 => ∃ z:Str,vs = [.str z]∧z.cps.all (· < 128) = true∧R (Itez z) H1
theorem pj_enumZ {a:Expr} {ta:TA} {p pos pt:Pos} {elts:List Expr} {kt:Nat} (hg:Gl X "enumerate") (hm:X.mg "enumerate" = none) (ha:PA X [a] ta) (hs:starEach [a] X.env = [(false,eval a X.env)]:=by rfl) :
  PI X (.Tuple elts kt pt) (.Call (.Name "enumerate" p) [a] [] pos) (jEnumZ ta):=by
 intro pins s σ H R I h
 refine Call_ (ld_blt I hg hm boot_enum (PyProof.Rows.callWith_type1 (thn (ha pos pins s σ H _ I h) fun us s1 ⟨vs,H1,I1,r1,z,e,hz,q⟩ => ?_) (by rw [hs]; rfl) (by rfl)))
 subst e
 obtain ⟨u,rfl,e1⟩:=vals1 r1
 obtain ⟨t,rfl⟩:=e1
 refine call_enumerate_str fun h' he hit hsz hk => ?_
 rw [ascii_it hz] at hit
 refine wpAny_pyIter_enum (s:={ s1 with heap:=h' }) he ?_
 have I2:L2.Inv X pins σ H1 { s1 with heap:=h',toks:=s1.toks }:=I1.kept (t':=s1.toks) hk
 refine ⟨_,_,_,_,H1,rfl,I2,turn_enumZ (t:=t) _ _ (Nat.ne_of_gt (Nat.lt_succ_self _)),⟨Nat.zero_le _,⟨_,he⟩,hit⟩,fun b hb => ?_,q⟩
 simp only [List.mem_cons,List.not_mem_nil,or_false] at hb
 have hge:s1.heap.objs.size≤b:=by rcases hb with rfl | rfl <;> grind
 exact I1.fpOk (b:=b) (H':=H1) hge (I1.hok.fresh hge)
theorem itOk_enumZ {K:PySem.W.Frag} {H:Hp} {z:Str}:ItOk K H (zipD (rng 0 (lets z).length) (lets z)) (fun _ => True) (Itez z):=fun H3 H' _ hr _ => by
 have hz:(lets z).length = z.cps.size:=by unfold lets; rw [List.length_map,Array.length_toList]
 refine ⟨fun i hi => ?_,?_⟩
 ·rw [en_len,hz] at hi
  refine ⟨⟨z.cps[i],by simp [hi]⟩,fun v H'' y => ?_⟩
  obtain ⟨T,c,rfl,hT,rfl,hc⟩:=y
  have hc2:(lets z)[i]? = some (.str ⟨#[c]⟩):=by unfold lets; rw [List.getElem?_map,Array.getElem?_toList,hc]; rfl
  refine ⟨TK.fresh hT,hr.tup hT,.tup [.int i,.str ⟨#[c]⟩],?_,.tup upd_same (.cons (.int i) (.cons (.str _) .nil))⟩
  unfold zipD
  rw [List.getElem?_zipWith,hc2,rng_get (by rw [hz]; exact hi)]
  simp only [Int.zero_add]
 ·rw [en_len,hz]; exact Nat.le_refl _
theorem i3_enumZ {a:Expr} {ta:TE3} {p pos pt:Pos} {elts:List Expr} {kt:Nat} (hm:X.mg "enumerate" = none) (ha:PE3 X a ta) (hg:Gl X "enumerate":=by rfl) (hs:starEach [a] X.env = [(false,eval a X.env)]:=by rfl)
  (hs1:starEach [a] X.env = (false,eval a X.env)::starEach [] X.env:=by rfl):PI3 X (.Tuple elts kt pt) (.Call (.Name "enumerate" p) [a] [] pos) (iez ta) :=
 pi_imp (pj_enumZ hg hm (a3_cons ha a3_nil hs1) hs) fun _ _ _ ⟨σ3,H3,R3,sr,hr,t,k⟩ => by
  refine ⟨σ3,H3,fun ds H1 => (match ds with | [x] => ezk x H1 R3 | _ => False),sr,hr,t,fun ds vs H3a Ha tka hra rs qa => ?_⟩
  cases rs with
  | nil => exact qa.elim
  | cons r1 r2 =>
   cases r2 with
   | cons _ _ => exact qa.elim
   | nil =>
    cases r1 with
    | str z => exact ⟨z,rfl,qa.1,k _ _ _ _ _ tka hra itOk_enumZ qa.2⟩
    | _ => exact qa.elim
end
end L3
namespace L3
open PySem L2
def chk (r':R3) (tc:TE3) (σ:St3) (y z:D) (H:Hp3) (Q:VK3):Prop:=match z with
 | .bl k => if k = true then tc σ H fun w H4 => r' y w H4 Q else Q (.bl false) H
 | _ => False
def ch3 (r r':R3) (ta tb tc:TE3):TE3:=fun σ H Q => ta σ H fun x H1 => tb σ H1 fun y H2 => r x y H2 fun z H3 => chk r' tc σ y z H3 Q
theorem g_ch3 {r r':R3} {ta tb tc:TE3} {σ:St3} {H:Hp3} {Q:VK3} (h:ta σ H fun x H1 => tb σ H1 fun y H2 => r x y H2 fun z H3 => chk r' tc σ y z H3 Q):ch3 r r' ta tb tc σ H Q:=h
theorem g_chk {r':R3} {tc:TE3} {σ:St3} {y:D} {k:Bool} {H:Hp3} {Q:VK3} (h:if k = true then tc σ H fun w H4 => r' y w H4 Q else Q (.bl false) H):chk r' tc σ y (.bl k) H Q:=h
end L3
namespace L3
open PySem PySem.Spec PyProof.Rows L2
section
variable {X:Cx} {a b c:Expr} {ta tb tc:TE3} {pos:Pos}
theorem lift_ch {K:PySem.W.Frag} {r r':R3} {σ:St} {H:Hp} {Q:VK} (h:liftE K (ch3 r r' ta tb tc) σ H Q):tChain (lift2 K r) (lift2 K r') (liftE K ta) (liftE K tb) (liftE K tc) σ H Q:=by
 obtain ⟨σ3,H3,Q3,sr,hr,t,k⟩:=h
 refine ⟨σ3,H3,_,sr,hr,t,fun x v H3a Ha tka hra rx qa => ⟨σ3,H3a,_,sr.mono tka,hra,qa,fun y u H3b Hb tkb hrb ry qb =>
  ⟨x,y,H3b,fun z H4 => chk r' tc σ3 y z H4 Q3,hrb,rx.mono tkb,ry,qb,fun z w H3c Hc tkc hrc rz qc => ?_⟩⟩⟩
 have tk:=tka.trans (tkb.trans tkc)
 cases rz with
 | bl d =>
  refine ⟨d,rfl,?_⟩
  cases d with
  | false => rw [if_neg Bool.false_ne_true]; exact k _ _ _ _ tk hrc (.bl false) qc
  | true =>
   rw [if_pos rfl]
   exact ⟨σ3,H3c,_,sr.mono tk,hrc,qc,fun w' v' H3d Hd tkd hrd rw' qd => ⟨y,w',H3d,Q3,hrd,ry.mono (tkc.trans tkd),rw',qd,k.mono (tk.trans tkd)⟩⟩
 | _ => exact qc.elim
theorem p3_chain {op op':CmpOp} {r r':R3} (ho:OpR X (compareOp op) (lift2 X.K r)) (ho':OpR X (compareOp op') (lift2 X.K r')) (ha:PE3 X a ta) (hb:PE3 X b tb) (hc:PE3 X c tc)
  (hm:lastMarks [op,op'] [b,c] = false:=by with_unfolding_all rfl):PE3 X (.Compare a [op,op'] [b,c] pos) (ch3 r r' ta tb tc) :=
 pe_imp (pe_chain ho ho' ha hb hc hm) fun _ _ _ h => lift_ch h
end
end L3
namespace L3
open PySem L2
end L3
namespace L3
open PySem PySem.Spec PyProof.Rows L2
end L3
namespace L3
open PySem L2
end L3
namespace L3
open PySem PySem.Spec PyProof.Rows L2
end L3
namespace L3
open PySem L2
end L3
namespace L3
open PySem PySem.Spec PyProof.Rows L2
end L3
namespace L3
open PySem L2
end L3
namespace L3
open PySem PySem.Spec PyProof.Rows L2
end L3
namespace L3
open PySem L2
theorem mapO_pr:∀ ps:List Pt,mapO (pyN 4) (ps.map prP) = some (ps.map fun c => PyData.tuple [.int c.1,.int c.2])
 | [] => rfl
 | c::ps => by
  have e:pyN 4 (prP c) = some (PyData.tuple [.int c.1,.int c.2]):=rfl
  rw [List.map_cons]
  unfold mapO
  rw [e,mapO_pr ps]
  rfl
theorem eqv_pr (a b:Pt):PyData.eqv (.tuple [.int a.1,.int a.2]) (.tuple [.int b.1,.int b.2]) = decide (a = b):=by
 obtain ⟨a1,a2⟩:=a
 obtain ⟨b1,b2⟩:=b
 simp only [PyData.eqv,PyData.eqvAll,Prod.mk.injEq,Bool.and_true,Bool.decide_and]
 rfl
end L3
namespace L3
open PySem PySem.Spec PyProof.Rows L2
end L3
namespace L3
open PySem L2
end L3
namespace L3
open PySem PySem.Spec PyProof.Rows L2
end L3
namespace L3
open PySem L2
end L3
namespace L3
open PySem PySem.Spec PyProof.Rows L2
end L3
namespace L3
open PySem L2
end L3
namespace L3
open PySem PySem.Spec PyProof.Rows L2
def Own (x0:Value):Prop:=x0 = .none∨∃ a:Nat,x0 = rawInt a
end L3
namespace L3
open PySem L2
end L3
namespace L3
open PySem PySem.Spec PyProof.Rows L2
def Vec:Nat→(List Value→Prop)→Prop
 | 0,P => P []
 | n + 1,P => ∀ u,Vec n fun us => P (u::us)
theorem Vec.row {P:List Value→Prop}:∀ {us:List Value},Vec us.length P→P us
 | [],h => h
 | u::_,h => Vec.row (P:=fun us => P (u::us)) (h u)
def Bnd (x qual:Str) (st:Stmt) (ps:List Str):Prop:=∀ (kV doc pm:Value) (an:Option Addr) (cdv ct:Value),
 Vec ps.length fun us => bindArgs (PySem.W.fnOf x qual (defArgs st) (defBody st) (defScope st) .none kV doc pm an cdv ct) ⟨us,[]⟩ = pure (ps.zip us)
theorem Bnd.of {K:PySem.W.Frag} {x qual:Str} {st:Stmt} {f:Addr} {fd:FuncData} {ps:List Str} (b:Bnd x qual st ps) (F:Fun K x qual st f fd):Binds K fd ps [] :=
 F.binds fun kV doc pm an cdv ct _ e => Vec.row (e▸b kV doc pm an cdv ct)
inductive FnIn (K:PySem.W.Frag) (mg:Str→Option Value) (x:Str) (st:Stmt) (ps:List Str):Prop
 | mk {f:Addr} {fd:FuncData} (F:Fun K x x st f fd) (hm:mg x = some (.ref f)) (hb:Binds K fd ps [])
section
variable {P:Program} {w:World} {K:PySem.W.Frag} {mg:Str→Option Value} {base h:Heap} {x qual c m:Str} {st:Stmt} {f C:Addr} {fd:FuncData} {N ps:List Str} {k:Nat} {sp:Sp3} {se:SpE} {t:TS3} {te:EK3→TS3}
theorem fn_in {oc:Value} {od an:Option Addr} {osl:Array (Option Value)} {kV doc pm cdv ct:Value} (X:K.In h) (G:h.Ns mainGlobals mg) (a:PySem.W.nsIn K mainGlobals x = some (some (.ref f)))
  (l:K.lookup f = some ⟨oc,od,.func (PySem.W.fnOf x x (defArgs st) (defBody st) (defScope st) .none kV doc pm an cdv ct),osl⟩) (d:PySem.W.codeIn K cdv x = true) (q:PySem.W.keepIn K (.ref f) = true) (b:Bnd x x st ps):FnIn K mg x st ps :=
 ⟨fun_mk l d q,PySem.W.mg_of X G a,b.of (fun_mk l d q)⟩
theorem fn3i (q:FnIn K mg x st ps) (S:FnScope N ps (defScope st)) (len:∀ ds H Q,sp ds H Q→ds.length = ps.length)
  (hbody:∀ (f:Addr) (cdv:Value) (A:Around) (outer:List Env) (s:Shared) (H:Hp) (E:XK),Room k (A.deeper (envOfC x (defScope st) s.heap.objs.size f cdv))→PSs3 (cxOf CX0 P w K mg base N x (defScope st) f cdv A outer s H E).nox (defBody st) t)
  (rd:∀ ds H3 Q3,sp ds H3 Q3→t (fin3 Q3) (start3 N ds) H3):Fn P w K mg base (k + 1) x ps sp:=by
 cases q with
 | mk F hm hb => exact fn3 F S hm hb len fun cdv A outer s H E hr => ⟨t,hbody _ cdv A outer s H E hr,rd⟩
end
end L3
namespace L3
open PySem PySem.W PySem.Spec PyProof.Rows
end L3
namespace L3
open PySem PySem.Spec PyProof.Rows L2
end L3
namespace L3
open PySem L2
end L3
namespace L3
open PySem PySem.Spec PyProof.Rows L2
end L3
namespace L3
open PySem L2
end L3
namespace L3
open PySem PySem.Spec PyProof.Rows L2
end L3
namespace L3
open PySem L2
end L3
namespace L3.ST
open PySem PySem.SetTable PySem.Spec PyProof.Rows
end L3.ST
namespace L3
open PySem PySem.Spec PyProof.Rows L2
end L3
namespace L3
open PySem L2
def r3rem:D→List D→Hp3→VK3→Prop:=fun x xs H Q => ∃ a y ds ps p,∃ j:Nat,(x = .ref a∧xs = [y]∧H a = some (.lst ds)∧pyN 4 y = some p∧mapO (pyN 4) ds = some ps∧ps.findIdx? (fun q => PyData.eqv q p) = some j)∧Q .non (upd3 H a (.lst (ds.eraseIdx j)))
theorem g_rem {a:Addr} {ps:List Pt} {x y:Int} {H:Hp3} {Q:VK3} (ha:H a = some (.lst (ps.map prP))) (hm:(x,y)∈ps) (q:∀ qs:List Pt,ps.Perm ((x,y)::qs)→Q .non (upd3 H a (.lst (qs.map prP)))):r3rem (.ref a) [.tup [.int x,.int y]] H Q:=by
 have e:((fun q => PyData.eqv q (PyData.tuple [.int x,.int y]))∘fun c:Pt => PyData.tuple [.int c.1,.int c.2]) = fun c:Pt => decide (c = (x,y)):=funext fun c => eqv_pr c (x,y)
 have ei:∃ j,ps.findIdx? (fun c:Pt => decide (c = (x,y))) = some j:=by
  cases h:ps.findIdx? (fun c:Pt => decide (c = (x,y))) with
  | some j => exact ⟨j,rfl⟩
  | none => rw [List.findIdx?_eq_none_iff] at h; exact absurd (h _ hm) (by simp)
 obtain ⟨j,hj⟩:=ei
 obtain ⟨h1,h2,_⟩:=List.findIdx?_eq_some_iff_getElem.mp hj
 have h3:ps[j] = (x,y):=of_decide_eq_true h2
 refine ⟨a,_,_,_,PyData.tuple [.int x,.int y],j,⟨rfl,rfl,ha,rfl,mapO_pr ps,by rw [List.findIdx?_map,e]; exact hj⟩,?_⟩
 have em:(ps.map prP).eraseIdx j = (ps.eraseIdx j).map prP:=by rw [List.eraseIdx_eq_take_drop_succ,List.eraseIdx_eq_take_drop_succ,List.map_append,List.map_take,List.map_drop]
 rw [em]
 refine q _ ?_
 rw [List.eraseIdx_eq_take_drop_succ,← h3]
 have e2:ps = ps.take j++ps[j]::ps.drop (j + 1):=by rw [← List.drop_eq_getElem_cons h1,List.take_append_drop]
 refine List.Perm.trans (List.Perm.of_eq e2) ?_
 exact List.perm_middle (l₁:=ps.take j)
end L3
namespace L3
open PySem PySem.Spec PyProof.Rows L2
theorem rem_loop (l:Addr) (items:Array Value) (n:Nat) (x:Value) (e:Value→Bool) (j:Nat) (hj:j < items.size) (hit:e items[j] = true) (hz:items.size≤sizeLine) (k:Nat) :
  ∀ i:Nat,j - i = k→i≤j→(∀ m (hm:m < items.size),i≤m→m < j→e items[m] = false)→Meets (Builtin.«list.remove.loop» ⟨[.ref l,x,rawInt i],[]⟩)
   (fun A R s => s.heap.get? l = some { cls:=.type "list",dict:=none,data:=.seq items n,slots:=#[] }∧(∀ y,y∈items→SeqAt.EqAt A.in1 s y x (e y))∧R (.ok (.ret .none)) { s with heap:=s.heap.update l (Obj.mapSeq fun xs => xs.eraseIdxIfInBounds j) }):=by
 induction k with
 | zero =>
  intro i hk hij hno prog w A R s h
  obtain ⟨hp,g,d,tk,os⟩:=s
  obtain ⟨hl,he,h⟩:=h
  obtain rfl:i = j:=by omega
  wp_walk using wpAny_loadPart' hl
  rw [show items[((i:Nat):Int).toNat]? = some items[i] from by simp [hj]]
  refine wpAny_bind (he _ (Array.getElem_mem hj) prog w _ _ ?_)
  rw [hit]
  have hz':(items.eraseIdxIfInBounds i).size≤sizeLine + 1:=Nat.le_trans (MeetsSeq.size_erased items _) (Nat.le_succ_of_le hz)
  wp_walk using (wpAny_updateSeq hl rfl (hz:=hz) (_hz':=hz')),wpAny_loadPart' hl
  simpa using h
 | succ k ih =>
  intro i hk hij hno prog w A R s h
  obtain ⟨hp,g,d,tk,os⟩:=s
  obtain ⟨hl,he,h⟩:=h
  have hlt:i < items.size:=by omega
  wp_walk using wpAny_loadPart' hl
  rw [show items[((i:Nat):Int).toNat]? = some items[i] from by simp [hlt]]
  refine wpAny_bind (he _ (Array.getElem_mem hlt) prog w _ _ ?_)
  rw [hno i hlt (Nat.le_refl _) (by omega)]
  wp_walk
  rw [show ((i:Int) + 1) = ((i + 1:Nat):Int) from by omega]
  refine ⟨plainId_quiet MeetsSeq.plain_remove_loop _,codeAny_builtin MeetsSeq.entry_remove_loop ?_⟩
  rw [Around.under_plainId MeetsSeq.plain_remove_loop _]
  exact ih (i + 1) (by omega) (by omega) (fun m hm h1 h2 => hno m hm (by omega) h2) prog w A R _ ⟨hl,he,h⟩
theorem list_rem (l:Addr) (items:Array Value) (n:Nat) (x:Value) (e:Value→Bool) (j:Nat) (hj:j < items.size) (hit:e items[j] = true) (hno:∀ m (hm:m < items.size),m < j→e items[m] = false) (hz:items.size≤sizeLine) :
  Meets (Builtin.«list.remove» ⟨[.ref l,x],[]⟩) (fun A R s => s.heap.get? l = some { cls:=.type "list",dict:=none,data:=.seq items n,slots:=#[] }∧(∀ y,y∈items→SeqAt.EqAt A.in1 s y x (e y))∧R (.ok (.ret .none)) { s with heap:=s.heap.update l (Obj.mapSeq fun xs => xs.eraseIdxIfInBounds j) }):=by
 intro prog w A R s h
 obtain ⟨hp,g,d,tk,os⟩:=s
 obtain ⟨hl,he,h⟩:=h
 wp_walk using wpAny_loadPart' hl
 refine ⟨plainId_quiet MeetsSeq.plain_remove_loop _,codeAny_builtin MeetsSeq.entry_remove_loop ?_⟩
 rw [Around.under_plainId MeetsSeq.plain_remove_loop _]
 exact rem_loop l items n x e j hj hit hz _ 0 rfl (Nat.zero_le _) (fun m hm _ h2 => hno m hm h2) prog w A R _ ⟨hl,he,h⟩
section
variable {X:Cx} {pins:List (Addr×Obj)} {σ:St} {H:Hp} {s:Shared}
theorem inE_map (I:Inv X pins σ H s) (p:PyData):∀ {ds:List D} {vs:List V} {us:List Value} {ps:List PyData},RepL X.K H ds vs→Vals vs us→mapO (pyN 4) ds = some ps→us.map (inE s.heap p) = ps.map fun q => PyData.eqv q p:=by
 intro ds vs us ps hr hv h
 induction hv generalizing ds ps with
 | nil =>
  cases hr
  cases h
  rfl
 | cons q qs ih =>
  cases hr with
  | cons r rs =>
   obtain ⟨p',ps',e1,e2,rfl⟩:=mapO_cons h
   obtain ⟨⟨as,h1⟩,h2,h3⟩:=rep_reads I 4 r q e1
   rw [List.map_cons,List.map_cons,inE_eq h1 h2,ih rs e2]
theorem RepL.erase {K:PySem.W.Frag} {H:Hp}:∀ {ds:List D} {vs:List V},RepL K H ds vs→∀ j:Nat,RepL K H (ds.eraseIdx j) (vs.eraseIdx j)
 | _,_,.nil,_ => .nil
 | _,_,.cons r t,0 => t
 | _,_,.cons r t,j + 1 => .cons r (RepL.erase t j)
theorem mt3_rem (hu:X.A.units + 64 < cLine):MtR X "list.remove" (liftM X.K r3rem):=by
 intro pins s σ H x xs v us Q I rx rs h
 obtain ⟨d,es,H3,Q3,hr,rd,rds,⟨a,y,ds,ps,p,j,⟨rfl,rfl,ha,ey,eds,hj⟩,t⟩,k⟩:=h
 cases rds with
 | cons r1 r2 =>
  cases r2
  cases rd
  obtain ⟨u,rfl,ru⟩:=Vals.one rs
  cases rx
  obtain ⟨vs,ga,ra⟩:=hr a _ ha
  obtain ⟨z,its,n,rv,hl,e⟩:=I.lstM ga
  obtain ⟨_,g2⟩:=in_items I p ra rv eds
  have hmap:=inE_map I p ra rv eds
  have at':∀ (m:Nat) (hm:m < its.length),∃ hp:m < ps.length,inE s.heap p its[m] = PyData.eqv ps[m] p:=fun m hm => by
   have e1:=congrArg (fun l:List Bool => l[m]?) hmap
   rw [List.getElem?_map,List.getElem?_eq_getElem hm,List.getElem?_map] at e1
   by_cases hp:m < ps.length
   ·rw [List.getElem?_eq_getElem hp] at e1
    exact ⟨hp,Option.some.inj e1⟩
   ·rw [List.getElem?_eq_none (by omega)] at e1
    cases e1
  have hlen:its.length = ps.length:=by have:=congrArg List.length hmap; rwa [List.length_map,List.length_map] at this
  obtain ⟨j1,j2,j3⟩:=List.findIdx?_eq_some_iff_getElem.mp hj
  have jl:j < its.length:=by omega
  refine call_meets PySem.F.slot_list_remove ⟨_,e,rfl⟩ PySem.F.entry_list_remove (PySem.F.args_list_remove_2 _ _) (list_rem a its.toArray n u (inE s.heap p) j (by rw [List.size_toArray]; exact jl) ?_ ?_ (by rw [List.size_toArray]; omega)) ⟨e,in_at I (in1_units hu) r1 ru ey g2,?_⟩
  ·show inE s.heap p its[j] = true
   obtain ⟨_,e1⟩:=at' j jl
   rw [e1]; exact j2
  ·intro m hm hmj
   rw [List.size_toArray] at hm
   show inE s.heap p its[m] = false
   obtain ⟨_,e1⟩:=at' m hm
   rw [e1]
   have:=j3 m hmj
   simpa using this
  ·refine ⟨.non,_,I.lset (its':=its.eraseIdx j) ga e ?_ (rv.eraseIdx j) ?_,rfl,?_⟩
   ·show its.toArray.eraseIdxIfInBounds j = (its.eraseIdx j).toArray
    rw [List.eraseIdxIfInBounds_toArray]
   ·have:=len_erase vs j
    omega
   ·exact k _ _ _ _ (TK.lst ga) (hr.setL (TK.lst ga) ((ra.erase j).mono (TK.lst ga))) .non t
end
end L3
namespace L3
open PySem L2
def rlk (x:D) (H:Hp3) (R:List D→(Hp3→Prop)→Hp3→Prop):Prop:=∃ a ds,x = .ref a∧H a = some (.lst ds)∧R ds.reverse (fun H' => H' a = some (.lst ds)) H
def irl (te:TE3):TI3:=fun σ H R => te σ H fun x H1 => rlk x H1 R
theorem g_irl {te:TE3} {σ:St3} {H:Hp3} {R:List D→(Hp3→Prop)→Hp3→Prop} (h:te σ H fun x H1 => rlk x H1 R):irl te σ H R:=h
theorem g_rlk {H:Hp3} {a:Addr} {ds:List D} {R:List D→(Hp3→Prop)→Hp3→Prop} (h:H a = some (.lst ds)) (q:R ds.reverse (fun H' => H' a = some (.lst ds)) H):rlk (.ref a) H R:=⟨a,ds,rfl,h,q⟩
end L3
namespace L3
open PySem PySem.Spec PyProof.Rows L2
def Irl (K:PySem.W.Frag) (a:Addr) (n:Nat):It :=
 ⟨fun i H => ∃ xs x,SqL K H a xs∧xs.length = n∧i < n∧xs[n - 1 - i]? = some x,
   fun i H v H' => H' = H∧∀ xs,SqL K H a xs→xs[n - 1 - i]? = some v,
   fun i H => ∃ xs,SqL K H a xs∧xs.length = n∧n≤i⟩
theorem turn_revL {P:Program} {w:World} {K:PySem.W.Frag} {tg:Expr} {n:Nat} (it a:Addr) (hai:a≠it) :
  Turn P w K tg (Irl K a n) [it] it (fun i h => i≤n∧h.IsRevIter it a ((n:Int) - 1 - (i:Int))) where
 mem:=List.mem_singleton.mpr rfl
 obj:=by
  rintro i h ⟨_,⟨o,h4,c4,d4⟩⟩ b hb
  rw [List.mem_singleton.mp hb]
  exact ⟨_,h4,fun v z => by rw [d4] at z; cases z⟩
 keep:=by
  rintro i h h' ⟨l,e⟩ k
  exact ⟨l,e.at fun o q => k it (List.mem_singleton.mpr rfl) o q⟩
 item:=by
  intro X hP hw hK hc i pins s σ H E I hf st hg
  subst hP hw hK
  obtain ⟨f0,f1,f2,f3,f4,f5⟩:=hf it (List.mem_singleton.mpr rfl)
  obtain ⟨xs,x,hq,hn,hin,hx⟩:=hg
  obtain ⟨_,h4⟩:=st
  obtain ⟨its,rv,p,hz⟩:=I.list hq
  obtain ⟨u,hu,ru⟩:=rv.get hx
  have hsz:its.toArray.size = n:=by rw [List.size_toArray,← rv.length]; exact hn
  refine (Walks.listRev (prog:=X.prog) (w:=X.w) (A:=X.A) (I.ok.hd hc) it a hai its.toArray).item i s _ _ (by rw [hsz]; exact hin) ⟨by rw [hsz]; exact Nat.le_of_lt hin,by rw [hsz]; exact h4,p.isList⟩ fun v h' tk pv st' kp => ?_
  have eu:v = u:=by
   rw [hsz,List.getElem?_toArray,hu] at pv
   exact (Option.some.inj pv).symm
  subst eu
  have I1:L2.Inv X pins σ H { s with heap:=h',toks:=tk }:=I.turned (fun b o hb q => kp b o (by simpa using hb) q) f0 f1 f3 f4 f5
  have e':=st'.2.1
  rw [hsz] at e'
  obtain ⟨o,ho,oc,od⟩:=id e'
  exact ⟨_,rfl,go_of (s:={ s with heap:=h',toks:=tk }) ho oc od (by decide) ⟨x,H,I1,ru,⟨rfl,fun xs' q1 => by rw [I.list_inj q1 hq]; exact hx⟩,⟨hin,e'⟩,fun b hb => (hf b hb).1⟩⟩
 done:=by
  intro X hP hw hK hc i pins s σ H E I hf st hg
  subst hP hw hK
  obtain ⟨f0,f1,f2,f3,f4,f5⟩:=hf it (List.mem_singleton.mpr rfl)
  obtain ⟨xs,hq,hn,hx⟩:=hg
  obtain ⟨hi,h4⟩:=st
  obtain ⟨its,rv,p,hz⟩:=I.list hq
  have e0:i = n:=Nat.le_antisymm hi hx
  subst e0
  have hsz:its.toArray.size = i:=by rw [List.size_toArray,← rv.length]; exact hn
  refine (Walks.listRev (prog:=X.prog) (w:=X.w) (A:=X.A) (I.ok.hd hc) it a hai its.toArray).done s _ _ ⟨Nat.le_refl _,by rw [hsz]; exact h4,p.isList⟩ fun h' tk kp => ?_
  exact ⟨rfl,I.turned (t':=tk) (fun b o hb q => kp b o (by simpa using hb) q) f0 f1 f3 f4 f5⟩
 self:=fun A i s Q E st h => wpAny_pyIter_revIter st.2 h
section
variable {X:Cx} {tg:Expr}
def jRevL (K:PySem.W.Frag) (te:TE):L2.TI:=fun σ H R => te σ H fun x H1 => ∃ a xs,x = .ref a∧SqL K H1 a xs∧R (Irl K a xs.length) H1
theorem pj_revL {e:Expr} {te:TE} {p pos:Pos} (hg:Gl X "reversed") (hm:X.mg "reversed" = none) (he:PE X e te) (hs:starEach [e] X.env = [(false,eval e X.env)]:=by rfl):PI X tg (.Call (.Name "reversed" p) [e] [] pos) (jRevL X.K te):=by
 intro pins s σ H R I h
 refine Call_ (ld_blt I hg hm boot_reversed (PyProof.Rows.callWith_type1 ?_ hs rfl))
 rw [hs]
 refine Calls.spliced_cons (thn (he pins s σ H _ I h) fun v s1 zz => ?_)
 obtain ⟨x,H1,I1,r1,a,xs,ex,hq,q⟩:=zz
 subst ex
 cases r1
 obtain ⟨its,rv,pl,hz⟩:=I1.list hq
 refine Calls.spliced_nil ?_
 have hsz:its.toArray.size = xs.length:=by rw [List.size_toArray,← rv.length]
 have hI:(s1.heap.push (revObj a ((its.toArray.size:Int) - 1))).IsRevIter s1.heap.objs.size a ((its.toArray.size:Int) - 1):=⟨_,Heap.get?_push_size _ rfl,rfl,rfl⟩
 have la:a < s1.heap.objs.size:=by obtain ⟨_,e,_⟩:=pl.isList; exact Heap.lt_size e
 refine call_reversed_list pl.isList ?_
 have I2:L2.Inv X pins σ H1 { s1 with heap:=s1.heap.push (revObj a ((its.toArray.size:Int) - 1)),toks:=s1.toks }:=I1.kept (t':=s1.toks) fun b o z => Heap.get?_push_of_some _ z
 refine wpAny_pyIter_revIter (s:={ s1 with heap:=s1.heap.push (revObj a ((its.toArray.size:Int) - 1)) }) hI ?_
 refine ⟨s1.heap.objs.size,[s1.heap.objs.size],_,_,H1,rfl,I2,turn_revL (n:=xs.length) s1.heap.objs.size a (Nat.ne_of_lt la),⟨Nat.zero_le _,?_⟩,fun b hb => ?_,q⟩
 ·rw [hsz] at hI ⊢
  show Heap.IsRevIter _ _ _ ((xs.length:Int) - 1 - ((0:Nat):Int))
  rw [show ((xs.length:Int) - 1 - ((0:Nat):Int)) = (xs.length:Int) - 1 from Int.sub_zero _]
  exact hI
 ·rw [List.mem_singleton.mp hb]
  exact I1.fpOk (Nat.le_refl _) (I1.hok.fresh (Nat.le_refl _))
theorem itOk_revL {K:PySem.W.Frag} {H:Hp} {a:Addr} {ds:List D}:ItOk K H ds.reverse (fun H' => H' a = some (.lst ds)) (Irl K a ds.length):=fun H3 H' _ hr hk => by
 obtain ⟨vs,ga,ra⟩:=hr a _ hk
 have hl:=ra.length
 refine ⟨fun i hi => ?_,?_⟩
 ·rw [List.length_reverse] at hi
  have h1:ds.length - 1 - i < vs.length:=by omega
  refine ⟨⟨vs,vs[ds.length - 1 - i],SqL.of ga,hl.symm,hi,by simp⟩,fun v H'' y => ?_⟩
  obtain ⟨e,hx⟩:=y
  subst e
  obtain ⟨d,hd,rd⟩:=ra.getV (hx vs (SqL.of ga))
  exact ⟨TK.refl,hr,d,by rw [List.getElem?_reverse hi]; exact hd,rd⟩
 ·rw [List.length_reverse]
  exact ⟨vs,SqL.of ga,hl.symm,Nat.le_refl _⟩
theorem i3_revL {e:Expr} {te:TE3} {p pos:Pos} (hm:X.mg "reversed" = none) (he:PE3 X e te) (hg:Gl X "reversed":=by rfl) (hs:starEach [e] X.env = [(false,eval e X.env)]:=by rfl):PI3 X tg (.Call (.Name "reversed" p) [e] [] pos) (irl te) :=
 pi_imp (pj_revL hg hm he hs) fun _ _ _ ⟨σ3,H3,R3,sr,hr,t,k⟩ => by
  refine ⟨σ3,H3,_,sr,hr,t,fun x v H3a Ha tka hra rx qa => ?_⟩
  obtain ⟨a,ds,rfl,ha,q⟩:=qa
  cases rx
  obtain ⟨vs,ga,ra⟩:=hra a _ ha
  refine ⟨a,vs,rfl,SqL.of ga,?_⟩
  rw [← ra.length]
  exact k _ _ _ _ _ tka hra itOk_revL q
end
end L3
namespace Law
open PySem PySem.Spec PyProof.Rows L2 L3
set_option maxHeartbeats 8000000
abbrev N_added:List Str:=["one", "other"]
abbrev P_added:List Str:=["one", "other"]
abbrev N_taken:List Str:=["one", "other"]
abbrev P_taken:List Str:=["one", "other"]
abbrev N_common_measure:List Str:=["one", "other", "rest"]
abbrev P_common_measure:List Str:=["one", "other"]
abbrev N_levelled:List Str:=["one", "other", "times", "rest"]
abbrev P_levelled:List Str:=["one", "other"]
abbrev N_grid_of:List Str:=["shifts", "east", "north", "shift", "pair"]
abbrev P_grid_of:List Str:=["shifts"]
abbrev N_corners_of:List Str:=["corner", "word", "corners", "letter"]
abbrev P_corners_of:List Str:=["corner", "word"]
abbrev N_backwards:List Str:=["word"]
abbrev P_backwards:List Str:=["word"]
abbrev N_spans_of:List Str:=["word", "cuts", "ends"]
abbrev P_spans_of:List Str:=["word", "cuts"]
abbrev N_is_parting:List Str:=["word", "cuts", "half", "twice", "span", "stretch", "fellow"]
abbrev P_is_parting:List Str:=["word", "cuts"]
abbrev N_cuts_of_two:List Str:=["half", "cuts", "one"]
abbrev P_cuts_of_two:List Str:=["half"]
abbrev N_cuts_of_three:List Str:=["half", "cuts", "pair"]
abbrev P_cuts_of_three:List Str:=["half"]
abbrev N_partings_of:List Str:=["word", "half"]
abbrev P_partings_of:List Str:=["word"]
abbrev N_shifts_by:List Str:=["word", "cuts", "corners", "half", "shifts", "span", "fellow_end"]
abbrev P_shifts_by:List Str:=["word", "cuts"]
abbrev N_grid_by:List Str:=["word", "cuts"]
abbrev P_grid_by:List Str:=["word", "cuts"]
abbrev N_l_cell_at:List Str:=["_law_script", "_law_k"]
abbrev P_l_cell_at:List Str:=["_law_script", "_law_k"]
abbrev N_l_step:List Str:=["_law_letter"]
abbrev P_l_step:List Str:=["_law_letter"]
abbrev N_l_whole:List Str:=["_law_found"]
abbrev P_l_whole:List Str:=["_law_found"]
abbrev N_l_path:List Str:=["_law_corner", "_law_word", "_law_path_here", "_law_letter", "_law_step_here"]
abbrev P_l_path:List Str:=["_law_corner", "_law_word"]
abbrev N_l_back:List Str:=["_law_word", "_law_made", "_law_letter"]
abbrev P_l_back:List Str:=["_law_word"]
abbrev N_l_letters:List Str:=["_law_script", "_law_at", "_law_size", "_law_menu", "_law_word", "_law_k", "_law_letter"]
abbrev P_l_letters:List Str:=["_law_script", "_law_at", "_law_size", "_law_menu"]
abbrev N_l_stretches:List Str:=["_law_script", "_law_at", "_law_cell", "_law_some", "_law_k", "_law_menu"]
abbrev P_l_stretches:List Str:=["_law_script", "_law_at"]
abbrev N_l_free:List Str:=["_law_script", "_law_at", "_law_cell", "_law_half", "_law_cuts", "_law_some"]
abbrev P_l_free:List Str:=["_law_script", "_law_at"]
abbrev N_l_built:List Str:=["_law_some", "_law_begin", "_law_half", "_law_word", "_law_cuts", "_law_at", "_law_one"]
abbrev P_l_built:List Str:=["_law_some", "_law_begin"]
abbrev N_l_is_grid:List Str:=["_law_grid", "_law_many"]
abbrev P_l_is_grid:List Str:=["_law_grid", "_law_many"]
abbrev N_l_rest:List Str:=["_law_grid", "_law_cell", "_law_j"]
abbrev P_l_rest:List Str:=["_law_grid", "_law_cell"]
abbrev N_l_area:List Str:=["_law_word", "_law_area_here", "_law_letter", "_law_corner"]
abbrev P_l_area:List Str:=["_law_word"]
abbrev N_l_cells:List Str:=["_law_word", "_law_cells_here", "_law_path_here", "_law_k", "_law_letter", "_law_x"]
abbrev P_l_cells:List Str:=["_law_word"]
abbrev N_l_shifts:List Str:=["_law_word", "_law_cuts", "_law_half", "_law_path_here", "_law_some", "_law_k", "_law_past", "_law_one", "_law_other"]
abbrev P_l_shifts:List Str:=["_law_word", "_law_cuts"]
abbrev N_law:List Str:=["_law_script", "_law_some", "_law_word", "_law_cuts", "_law_area_here", "_law_path_here", "_law_grid", "_law_cells_here"]
abbrev P_law:List Str:=["_law_script"]
def c_STEPS:List (Str×D):=[("e",.ktup (([1,0]:List Int).map D.int)),("n",.ktup (([0,1]:List Int).map D.int)),("w",.ktup (([-1,0]:List Int).map D.int)),("s",.ktup (([0,-1]:List Int).map D.int))]
def c_OPPOSITES:List (Str×D):=[("e",.str "w"),("n",.str "s"),("w",.str "e"),("s",.str "n")]
local macro_rules | `(tactic| walk_at "l3h") => `(tactic| first
 | with_reducible exact upd3_same
 | assumption
 | exact upd3_old (by walk_at "l3h") (by assumption))
local macro_rules | `(tactic| walk_at "l3a") => `(tactic| first
 | with_reducible assumption
 | decide
 | omega
 | exact ⟨by decide,by decide⟩
 | exact Or.inl ⟨by decide,by decide⟩
 | exact Or.inr ⟨by decide,by decide⟩
 | exact ⟨by decide,by decide,by decide⟩
 | exact Or.inl ⟨by omega,by omega⟩
 | exact Or.inr ⟨by omega,by omega⟩
 | exact ⟨by omega,by omega⟩)
local macro_rules | `(tactic| walk_at "l3b") => `(tactic| first
 | with_reducible assumption
 | ((with_reducible show Bt _ (_ + _)); exact Bt.add (by walk_at "l3b") (by walk_at "l3b"))
 | ((with_reducible show Bt _ (_ - _)); exact Bt.sub (by walk_at "l3b") (by walk_at "l3b"))
 | ((with_reducible show Bt _ (_ * _)); exact Bt.mul (by walk_at "l3b") (by walk_at "l3b"))
 | ((with_reducible show Bt _ (-_)); exact Bt.neg (by walk_at "l3b"))
 | ((with_reducible show Bt _ (_ / _)); exact Bt.div (by walk_at "l3b"))
 | exact Bt.lit (n:=64) (by decide)
 | exact Bt.lit (n:=256) (by decide))
local macro_rules | `(tactic| walk_at "l3w") => `(tactic| first
 | ((with_reducible show CDivW _ _); exact And.intro (by walk_at "l3a") (Bt.mono (by walk_at "l3b") (by decide)))
 | exact Or.inl (by walk_at "l3a")
 | exact CMulW.of (by walk_at "l3b") (by walk_at "l3b") (by decide))
local macro_rules | `(tactic| walk_at "l3s") => `(tactic| first
 | with_reducible refine g_sq ?_
 | ((with_reducible show v3 _ _ _ _); refine g_v3 rfl ?_)
 | (with_reducible first | refine g_c3 ?_ | refine g_o3 ?_ | refine g_st ?_)
 | ((fail_if_success (with_reducible show Ends3.nx (fin3 _) _ _)); (with_reducible refine g_nx ?_); (try dsimp only [List.set_cons_zero,List.set_cons_succ]))
 | (with_reducible first | refine g_cb ?_ | refine g_cons ?_ | refine g_nil ?_ | refine g_is ?_ | refine g_ts ?_ | refine g_bt ?_ | refine g_rt3 ?_)
 | with_reducible refine g_tp ?_
 | ((with_reducible show List.length _≤1000∧_); refine g_and rfl ?_)
 | (with_reducible first | refine g_add ?_ | refine g_sub ?_ | refine g_eqI ?_ | refine g_neI ?_ | refine g_eqP ?_ | refine g_le ?_ | refine g_lt ?_ | refine g_gt ?_ | refine g_neg ?_ | refine g_u3 ?_)
 | ((with_reducible show i3mulW _ _ _ _); refine g_mulW (by walk_at "l3w") ?_)
 | ((with_reducible show i3divW _ _ _ _); refine g_divW (by walk_at "l3w") ?_)
 | ((with_reducible show i3mod _ _ _ _); refine g_mod (by walk_at "l3a") ?_)
 | ((with_reducible show r3ix (D.tup _) (D.int _) _ _); refine g_ixT rfl ?_)
 | (with_reducible first | refine g_an ?_ | refine g_or ?_ | refine g_no ?_ | refine g_av ?_ | refine g_avk ?_ | refine g_nv ?_ | refine g_nvk ?_ | refine g_ls ?_ | refine g_lenT ?_ | refine g_lenF ?_)
 | ((with_reducible show r3len [D.ref _] _ _); refine g_lenL (by walk_at "l3h") ?_)
 | ((with_reducible show r3tuple [D.ref _] _ _); refine g_tupL (by walk_at "l3h") ?_)
 | with_reducible refine g_listT ?_
 | (with_reducible first | refine g_sl ?_ | refine g_np ?_ | refine g_pt ?_ | refine g_ptk ?_)
 | (with_reducible first | refine g_nx3 ?_ | refine g_dr ?_ | refine g_as ?_)
 | ((with_reducible refine g_gn ?_); (try dsimp only [List.set_cons_zero,List.set_cons_succ]))
 | ((with_reducible refine g_g2 ?_); (try dsimp only [List.set_cons_zero,List.set_cons_succ]))
 | (with_reducible first | refine g_fo ?_ | refine g_ir1 ?_ | refine g_ir2 ?_ | refine g_irl ?_ | refine g_iez ?_ | refine g_rg1 ?_ | refine g_rg2 ?_ | refine g_il ?_)
 | ((with_reducible show ilk (D.ref _) _ _); refine g_ilR (by walk_at "l3h") ?_)
 | (with_reducible first | refine g_it ?_ | refine g_itT ?_)
 | (with_reducible first | refine g_irv ?_ | refine g_kd ?_ | refine g_ch3 ?_ | refine g_chk ?_)
 | ((with_reducible show r3ix (D.ktup _) (D.int _) _ _); refine g_ixK rfl ?_)
 | with_reducible refine g_ien ?_
 | ((with_reducible show enk (D.ref _) _ _); refine g_enk (by walk_at "l3h") ?_)
 | ((with_reducible show rlk (D.ref _) _ _); refine g_rlk (by walk_at "l3h") ?_)
 | (with_reducible first | refine g_itz ?_ | refine g_mz ?_ | refine g_mzk ?_ | refine g_iz ?_ | refine g_izS ?_ | refine g_m3 ?_)
 | ((with_reducible show mtk _ _ _ (D.ref _) _ _); refine g_mtk (by walk_at "l3h") ?_)
 | (with_reducible first | refine g_lz ?_ | refine g_cp ?_)
 | ((with_reducible show r3isi [_,D.ty _] _ _); refine g_isi rfl (by simp [kinds]) ?_)
 | walk_at "l3c")
local macro_rules | `(tactic| walk_at "l3") => `(tactic| repeat walk_at "l3s")
abbrev Lt:=Fin 4
def cp (l:Lt):Nat:=match l with
 | 0 => 101
 | 1 => 110
 | 2 => 119
 | 3 => 115
def step (l:Lt):Pt:=match l with
 | 0 => (1,0)
 | 1 => (0,1)
 | 2 => (-1,0)
 | 3 => (0,-1)
def lt1 (l:Lt):Str:=⟨#[cp l]⟩
def wStr (ls:List Lt):Str:=⟨(ls.map cp).toArray⟩
theorem lets_w (ls:List Lt):lets (wStr ls) = ls.map fun l => D.str (lt1 l):=by
 unfold lets wStr lt1; rw [List.toList_toArray,List.map_map]; rfl
theorem wStr_len (ls:List Lt):(wStr ls).length = ls.length:=by
 show (ls.map cp).toArray.size = _; rw [List.size_toArray,List.length_map]
theorem cp_inj:∀ {a b:Lt},cp a = cp b→a = b:=by decide
theorem wStr_inj {as bs:List Lt} (h:wStr as = wStr bs):as = bs:=by
 have e:as.map cp = bs.map cp:=by
  have:=congrArg (fun z:Str => z.cps.toList) h
  simpa [wStr] using this
 exact (List.map_inj_right fun a b hab => cp_inj hab).mp e
def adp (s p:Pt):Pt:=(p.1 + s.1,p.2 + s.2)
def endp (c:Pt) (ls:List Lt):Pt:=ls.foldl (fun p l => adp (step l) p) c
def path (c:Pt) (ls:List Lt):List Pt:=(List.range (ls.length + 1)).map fun i => endp c (ls.take i)
theorem endp_snoc (c:Pt) (ls:List Lt) (l:Lt):endp c (ls++[l]) = adp (step l) (endp c ls):=by unfold endp; rw [List.foldl_append]; rfl
theorem endp_app (c:Pt) (as bs:List Lt):endp c (as++bs) = endp (endp c as) bs:=by unfold endp; rw [List.foldl_append]
theorem path_len (c:Pt) (ls:List Lt):(path c ls).length = ls.length + 1:=by unfold path; simp
theorem path_snoc (c:Pt) (ls:List Lt) (l:Lt):path c (ls++[l]) = path c ls++[adp (step l) (endp c ls)]:=by
 unfold path
 rw [List.length_append,List.length_singleton,List.range_succ (n:=ls.length + 1),List.map_append]
 congr 1
 ·refine List.map_congr_left fun i hi => ?_
  rw [List.mem_range] at hi
  rw [List.take_append_of_le_length (by omega)]
 ·rw [List.map_singleton,List.take_of_length_le (by simp),endp_snoc]
theorem path_get (c:Pt) (ls:List Lt) (i:Nat):(path c ls)[i]? = if i≤ls.length then some (endp c (ls.take i)) else none:=by
 unfold path
 rw [List.getElem?_map]
 split
 ·rw [List.getElem?_range (by omega)]; rfl
 ·rw [List.getElem?_eq_none (by rw [List.length_range]; omega)]; rfl
theorem path_last (c:Pt) (ls:List Lt):atI ((path c ls).map prP) (-1) = some (.tup [.int (endp c ls).1,.int (endp c ls).2]):=by
 unfold atI ixN
 rw [List.length_map,path_len,if_neg (by omega),if_pos (by omega),Option.bind_some,List.getElem?_map,show (-1 + ((ls.length + 1:Nat):Int)).toNat = ls.length from by omega,path_get,if_pos (Nat.le_refl _),List.take_length]
 rfl
theorem wStr_app (as bs:List Lt):wStr as++wStr bs = wStr (as++bs):=by
 show (⟨(as.map cp).toArray++(bs.map cp).toArray⟩:Str) = ⟨_⟩
 congr 1
 rw [List.map_append]; simp
theorem g_addZ {y z:Str} {H:Hp3} {Q:VK3} (hl:y.length + z.length≤sizeLine) (q:Q (.str (y++z)) H):r3add (.str y) (.str z) H Q:=⟨hl,q⟩
theorem g_ixZ {z:Str} {i:Int} {c:Nat} {H:Hp3} {Q:VK3} (hz:z.length≤sizeLine) (h:atI z.cps.toList i = some c) (q:Q (.str ⟨#[c]⟩) H):r3ix (.str z) (.int i) H Q:=by
 simp only [r3ix,h]; exact ⟨hz,q⟩
theorem cp_small (l:Lt):cp l < 0x110000:=by revert l; decide
theorem strOk_w (ls:List Lt):PyData.strOk (wStr ls) = true:=by
 show (ls.map cp).toArray.all (· < 0x110000) = true
 rw [List.all_toArray,List.all_map,List.all_eq_true]
 intro l _
 exact decide_eq_true (cp_small l)
theorem pyH_w (H:Hp3) (ls:List Lt):pyH H (.str (wStr ls)) = some (.str (wStr ls)):=by
 show (if PyData.strOk (wStr ls) = true then some (PyData.str (wStr ls)) else none) = _
 rw [if_pos (strOk_w ls)]
theorem eqv_w (as bs:List Lt):PyData.eqv (.str (wStr as)) (.str (wStr bs)) = decide (as = bs):=by
 simp only [PyData.eqv]
 by_cases h:as = bs
 ·subst h; simp
 ·rw [decide_eq_false h]
  exact beq_eq_false_iff_ne.mpr fun z => h (wStr_inj z)
theorem g_eqW {as bs:List Lt} {H:Hp3} {Q:VK3} (q:Q (.bl (decide (as = bs))) H):r3eq (.str (wStr as)) (.str (wStr bs)) H Q:=by
 simp only [r3eq,pyH_w,eqv_w]; exact q
theorem g_neW {as bs:List Lt} {H:Hp3} {Q:VK3} (q:Q (.bl (!decide (as = bs))) H):r3ne (.str (wStr as)) (.str (wStr bs)) H Q:=by
 simp only [r3ne,pyH_w,eqv_w]; exact q
def opp (l:Lt):Lt:=match l with
 | 0 => 2
 | 1 => 3
 | 2 => 0
 | 3 => 1
def bk (ls:List Lt):List Lt:=(ls.map opp).reverse
theorem opp_opp (l:Lt):opp (opp l) = l:=by revert l; decide
theorem bk_app (as bs:List Lt):bk (as++bs) = bk bs++bk as:=by unfold bk; rw [List.map_append,List.reverse_append]
theorem bk_len (ls:List Lt):(bk ls).length = ls.length:=by unfold bk; rw [List.length_reverse,List.length_map]
theorem step_opp (l:Lt) (p:Pt):adp (step (opp l)) (adp (step l) p) = p:=by
 obtain ⟨x,y⟩:=p
 match l with
 | 0 => exact Prod.ext (by show x + 1 + -1 = x; omega) (by show y + 0 + 0 = y; omega)
 | 1 => exact Prod.ext (by show x + 0 + 0 = x; omega) (by show y + 1 + -1 = y; omega)
 | 2 => exact Prod.ext (by show x + -1 + 1 = x; omega) (by show y + 0 + 0 = y; omega)
 | 3 => exact Prod.ext (by show x + 0 + 0 = x; omega) (by show y + -1 + 1 = y; omega)
theorem join_w {ls:List Lt} {a:Addr} {H:Hp3} {Q:VK3} (ha:H a = some (.lst (ls.map fun l => D.str (lt1 l)))) (hl:ls.length≤1000) (q:Q (.str (wStr ls)) H):r3join (.str (Str.ofString "")) [.ref a] H Q:=by
 have ej:joinZ (Str.ofString "") (ls.map lt1) = wStr ls:=by
  have:=joinZ_lets (z:=Str.ofString "") rfl (ls.map cp)
  rw [List.map_map] at this
  exact this
 refine g_join (ys:=ls.map lt1) (by rw [ha,List.map_map]; rfl) ?_ (by rw [ej]; exact q)
 rw [List.map_map,List.length_map]
 have:(ls.map ((fun y:Str => y.cps.size)∘lt1)).sum = ls.length:=by
  rw [show ((fun y:Str => y.cps.size)∘lt1) = fun _ => 1 from rfl,List.map_const',List.sum_replicate_nat]; omega
 rw [this,show (Str.ofString "").cps.size = 0 from rfl]
 omega
theorem wStr_le (ls:List Lt) (h:ls.length≤1000):(wStr ls).length≤sizeLine:=by rw [wStr_len,sizeLine_n]; omega
theorem cut3_mapN {α β:Type} (xs:List α) (f:α→β) (lo hi:Option Int):cut3 (xs.map f) lo hi = (cut3 xs lo hi).map f:=by
 unfold cut3
 rw [List.length_map,← List.map_drop,← List.map_take]
theorem cut_take (ls:List Lt) (n:Nat):cutZ (wStr ls) none (some (n:Int)) = wStr (ls.take n):=by
 unfold cutZ wStr
 rw [List.toList_toArray,cut3_mapN]
 congr 2
 unfold cut3 HT.sIx
 simp only []
 rw [if_neg (by omega),Int.toNat_natCast,List.drop_zero,Nat.sub_zero]
 by_cases h:n≤ls.length
 ·rw [Nat.min_eq_left h]
 ·rw [Nat.min_eq_right (by omega),List.take_length,List.take_of_length_le (by omega)]
theorem cut_drop (ls:List Lt) (n:Nat):cutZ (wStr ls) (some (n:Int)) none = wStr (ls.drop n):=by
 unfold cutZ wStr
 rw [List.toList_toArray,cut3_mapN]
 congr 2
 unfold cut3 HT.sIx
 simp only []
 rw [if_neg (by omega),Int.toNat_natCast]
 by_cases h:n≤ls.length
 ·rw [Nat.min_eq_left h,List.take_of_length_le (by rw [List.length_drop]; exact Nat.le_refl _)]
 ·rw [Nat.min_eq_right (by omega),List.drop_length,List.drop_of_length_le (by omega)]; simp
def rot (q:Nat) (l:Lt):Lt:=match q with
 | 0 => l
 | 1 => l + 1
 | 2 => l + 2
 | _ => l + 3
def mir (l:Lt):Lt:=match l with
 | 0 => 2
 | 1 => 1
 | 2 => 0
 | 3 => 3
def tl (k:Int) (l:Lt):Lt:=rot (k % 4).toNat (if 4≤k then mir l else l)
theorem k8 {k:Int} (h0:0≤k) (h1:k < 8):k = 0∨k = 1∨k = 2∨k = 3∨k = 4∨k = 5∨k = 6∨k = 7:=by
 obtain ⟨n,rfl⟩:=Int.eq_ofNat_of_zero_le h0
 have:∀ n:Fin 8,((n.val:Nat):Int) = 0∨((n.val:Nat):Int) = 1∨((n.val:Nat):Int) = 2∨((n.val:Nat):Int) = 3∨((n.val:Nat):Int) = 4∨((n.val:Nat):Int) = 5∨((n.val:Nat):Int) = 6∨((n.val:Nat):Int) = 7:=by decide
 exact this ⟨n,Int.ofNat_lt.mp h1⟩
theorem endp_way (c:Pt) (ls:List Lt):endp c ls = adp (endp (0,0) ls) c:=by
 induction ls generalizing c with
 | nil => exact Prod.ext (by show c.1 = c.1 + 0; omega) (by show c.2 = c.2 + 0; omega)
 | cons l ls ih =>
  show endp (adp (step l) c) ls = adp (endp (adp (step l) (0,0)) ls) c
  rw [ih,ih (adp (step l) (0,0))]
  exact Prod.ext (by show c.1 + (step l).1 + _ = c.1 + (0 + (step l).1 + _); omega) (by show c.2 + (step l).2 + _ = c.2 + (0 + (step l).2 + _); omega)
def beg (ls:List Lt) (n:Nat):List Lt:=ls.drop n++ls.take n
theorem beg_len (ls:List Lt) (n:Nat) (h:n≤ls.length):(beg ls n).length = ls.length:=by unfold beg; rw [List.length_append,List.length_drop,List.length_take]; omega
theorem endp_beg (ls:List Lt) (n:Nat):endp (0,0) (beg ls n) = endp (0,0) ls:=by
 conv => rhs; rw [← List.take_append_drop n ls]
 unfold beg
 rw [endp_app,endp_app,endp_way,endp_way (endp (0,0) (ls.take n))]
 exact Prod.ext (Int.add_comm _ _) (Int.add_comm _ _)
theorem g_lenW {ls:List Lt} {H:Hp3} {Q:VK3} (hl:ls.length≤1000) (q:Q (.int ls.length) H):r3len [.str (wStr ls)] H Q:=⟨wStr_le ls hl,by rw [wStr_len]; exact q⟩
def stp:Nat→Pt
 | 0 => (1,0)
 | 1 => (0,1)
 | 2 => (-1,0)
 | _ => (0,-1)
def lft (p:Pt):Nat→Pt
 | 0 => (p.1,p.2)
 | 1 => (p.1 - 1,p.2)
 | 2 => (p.1 - 1,p.2 - 1)
 | _ => (p.1,p.2 - 1)
def rgt (p:Pt):Nat→Pt
 | 0 => (p.1,p.2 - 1)
 | 1 => (p.1,p.2)
 | 2 => (p.1 - 1,p.2)
 | _ => (p.1 - 1,p.2 - 1)
def go1 (p:Pt) (d:Nat):Pt:=(p.1 + (stp d).1,p.2 + (stp d).2)
structure Edge (S:List Pt) (p:Pt) (d:Nat):Prop where
 lt:d < 4
 l:lft p d∈S
 r:rgt p d∉S
def Crn (S:List Pt) (p:Pt):Prop:=∃ d,Edge S p d
def nx4:Nat→Nat
 | 0 => 1
 | 1 => 2
 | 2 => 3
 | _ => 0
def nb (c:Pt) (j:Nat):Pt:=(c.1 + (stp j).1,c.2 + (stp j).2)
def crn (c:Pt):Nat→Pt
 | 0 => (c.1 + 1,c.2)
 | 1 => (c.1 + 1,c.2 + 1)
 | 2 => (c.1,c.2 + 1)
 | _ => (c.1,c.2)
def dgl (c:Pt):Nat→Pt
 | 0 => (c.1 + 1,c.2 + 1)
 | 1 => (c.1 - 1,c.2 + 1)
 | 2 => (c.1 - 1,c.2 - 1)
 | _ => (c.1 + 1,c.2 - 1)
theorem stp0:stp 0 = (1,0):=rfl
theorem stp1:stp 1 = (0,1):=rfl
theorem stp2:stp 2 = (-1,0):=rfl
theorem stp3:stp 3 = (0,-1):=rfl
theorem nx40:nx4 0 = 1:=rfl
theorem nx41:nx4 1 = 2:=rfl
theorem nx42:nx4 2 = 3:=rfl
theorem nx43:nx4 3 = 0:=rfl
theorem lft0 (p:Pt):lft p 0 = (p.1,p.2):=rfl
theorem lft1 (p:Pt):lft p 1 = (p.1 - 1,p.2):=rfl
theorem lft2 (p:Pt):lft p 2 = (p.1 - 1,p.2 - 1):=rfl
theorem lft3 (p:Pt):lft p 3 = (p.1,p.2 - 1):=rfl
theorem rgt0 (p:Pt):rgt p 0 = (p.1,p.2 - 1):=rfl
theorem rgt1 (p:Pt):rgt p 1 = (p.1,p.2):=rfl
theorem rgt2 (p:Pt):rgt p 2 = (p.1 - 1,p.2):=rfl
theorem rgt3 (p:Pt):rgt p 3 = (p.1 - 1,p.2 - 1):=rfl
theorem crn0 (p:Pt):crn p 0 = (p.1 + 1,p.2):=rfl
theorem crn1 (p:Pt):crn p 1 = (p.1 + 1,p.2 + 1):=rfl
theorem crn2 (p:Pt):crn p 2 = (p.1,p.2 + 1):=rfl
theorem crn3 (p:Pt):crn p 3 = (p.1,p.2):=rfl
theorem dgl0 (p:Pt):dgl p 0 = (p.1 + 1,p.2 + 1):=rfl
theorem dgl1 (p:Pt):dgl p 1 = (p.1 - 1,p.2 + 1):=rfl
theorem dgl2 (p:Pt):dgl p 2 = (p.1 - 1,p.2 - 1):=rfl
theorem dgl3 (p:Pt):dgl p 3 = (p.1 + 1,p.2 - 1):=rfl
local macro_rules | `(tactic| walk_at "pp") => `(tactic| (refine Prod.ext ?_ ?_ <;> (simp only [stp0,stp1,stp2,stp3,nx40,nx41,nx42,nx43,lft0,lft1,lft2,lft3,rgt0,rgt1,rgt2,rgt3,crn0,crn1,crn2,crn3,dgl0,dgl1,dgl2,dgl3,nb,go1]; try omega)))
theorem c4 {j:Nat} (h:j < 4):j = 0∨j = 1∨j = 2∨j = 3:=(by decide:∀ j:Fin 4,j.val = 0∨j.val = 1∨j.val = 2∨j.val = 3) ⟨j,h⟩
section
variable {S T:List Pt} {c p:Pt} {d j:Nat}
def Meet (p q:Pt):Prop:=q = (p.1,p.2)∨q = (p.1 - 1,p.2)∨q = (p.1 - 1,p.2 - 1)∨q = (p.1,p.2 - 1)
theorem meet_go (hd:d < 4):Meet (go1 p d) (rgt p d):=by
 rcases c4 hd with rfl | rfl | rfl | rfl
 ·exact .inr (.inr (.inl (by walk_at "pp")))
 ·exact .inr (.inr (.inr (by walk_at "pp")))
 ·exact .inl (by walk_at "pp")
 ·exact .inr (.inl (by walk_at "pp"))
end
section
variable {S T:List Pt} {c p:Pt} {d j:Nat}
theorem crn_mixed {u v:Pt} (hu:Meet p u) (hv:Meet p v) (iu:u∈S) (iv:v∉S):Crn S p:=by
 refine Classical.byContradiction fun h => ?_
 have e0:(p.1,p.2)∈S→(p.1,p.2 - 1)∈S:=fun z => Classical.byContradiction fun y => h ⟨0,by omega,z,y⟩
 have e1:(p.1 - 1,p.2)∈S→(p.1,p.2)∈S:=fun z => Classical.byContradiction fun y => h ⟨1,by omega,z,y⟩
 have e2:(p.1 - 1,p.2 - 1)∈S→(p.1 - 1,p.2)∈S:=fun z => Classical.byContradiction fun y => h ⟨2,by omega,z,y⟩
 have e3:(p.1,p.2 - 1)∈S→(p.1 - 1,p.2 - 1)∈S:=fun z => Classical.byContradiction fun y => h ⟨3,by omega,z,y⟩
 have all:(p.1,p.2)∈S:=by
  rcases hu with rfl | rfl | rfl | rfl
  ·exact iu
  ·exact e1 iu
  ·exact e1 (e2 iu)
  ·exact e1 (e2 (e3 iu))
 rcases hv with rfl | rfl | rfl | rfl
 ·exact iv all
 ·exact iv (e2 (e3 (e0 all)))
 ·exact iv (e3 (e0 all))
 ·exact iv (e0 all)
def Dg (S:List Pt):Prop:=∀ p:Pt,¬ ((p.1,p.2)∈S∧(p.1 - 1,p.2 - 1)∈S∧(p.1 - 1,p.2)∉S∧(p.1,p.2 - 1)∉S)∧¬ ((p.1 - 1,p.2)∈S∧(p.1,p.2 - 1)∈S∧(p.1,p.2)∉S∧(p.1 - 1,p.2 - 1)∉S)
theorem edge_one (h:Dg S) {e:Nat} (a:Edge S p d) (b:Edge S p e):d = e:=by
 obtain ⟨h1,h2⟩:=h p
 obtain ⟨a0,a1,a2⟩:=a
 obtain ⟨b0,b1,b2⟩:=b
 rcases c4 a0 with rfl | rfl | rfl | rfl <;> rcases c4 b0 with rfl | rfl | rfl | rfl
 ·rfl
 ·exact absurd a1 b2
 ·exact absurd ⟨a1,b1,b2,a2⟩ h1
 ·exact absurd b1 a2
 ·exact absurd b1 a2
 ·rfl
 ·exact absurd a1 b2
 ·exact absurd ⟨a1,b1,a2,b2⟩ h2
 ·exact absurd ⟨b1,a1,a2,b2⟩ h1
 ·exact absurd b1 a2
 ·rfl
 ·exact absurd a1 b2
 ·exact absurd a1 b2
 ·exact absurd ⟨b1,a1,b2,a2⟩ h2
 ·exact absurd b1 a2
 ·rfl
theorem crn_go (e:Edge S p d):Crn S (go1 p d):=by
 refine crn_mixed (u:=lft p d) (v:=rgt p d) ?_ (meet_go e.lt) e.l e.r
 rcases c4 e.lt with rfl | rfl | rfl | rfl
 ·exact .inr (.inl (by walk_at "pp"))
 ·exact .inr (.inr (.inl (by walk_at "pp")))
 ·exact .inr (.inr (.inr (by walk_at "pp")))
 ·exact .inl (by walk_at "pp")
end
section
variable {S T:List Pt} {p q:Pt} {d:Nat}
def outD (S:List Pt) (p:Pt):Nat:=if lft p 0∈S∧rgt p 0∉S then 0 else if lft p 1∈S∧rgt p 1∉S then 1 else if lft p 2∈S∧rgt p 2∉S then 2 else 3
theorem outD_edge (h:Crn S p):Edge S p (outD S p):=by
 obtain ⟨d,e⟩:=h
 unfold outD
 by_cases h0:lft p 0∈S∧rgt p 0∉S
 ·rw [if_pos h0]; exact ⟨by omega,h0.1,h0.2⟩
 rw [if_neg h0]
 by_cases h1:lft p 1∈S∧rgt p 1∉S
 ·rw [if_pos h1]; exact ⟨by omega,h1.1,h1.2⟩
 rw [if_neg h1]
 by_cases h2:lft p 2∈S∧rgt p 2∉S
 ·rw [if_pos h2]; exact ⟨by omega,h2.1,h2.2⟩
 rw [if_neg h2]
 rcases c4 e.lt with rfl | rfl | rfl | rfl
 ·exact absurd ⟨e.l,e.r⟩ h0
 ·exact absurd ⟨e.l,e.r⟩ h1
 ·exact absurd ⟨e.l,e.r⟩ h2
 ·exact e
def itr (S:List Pt) (p:Pt):Nat→Pt
 | 0 => p
 | n + 1 => go1 (itr S p n) (outD S (itr S p n))
theorem crn_itr (h:Crn S p):∀ n,Crn S (itr S p n)
 | 0 => h
 | n + 1 => crn_go (outD_edge (crn_itr h n))
theorem itr_add (m:Nat):∀ n,itr S p (m + n) = itr S (itr S p m) n
 | 0 => rfl
 | n + 1 => by
  show go1 (itr S p (m + n)) (outD S (itr S p (m + n))) = _
  rw [itr_add m n]; rfl
structure Rnd (S:List Pt) (p:Pt) (t:Nat):Prop where
 pos:0 < t
 back:itr S p t = p
 not:∀ m,0 < m→m < t→itr S p m≠p
 all:∀ q,Crn S q→∃ m,m < t∧q = itr S p m
 inj:∀ i j,i < j→j < t→itr S p i≠itr S p j
theorem sub_len {α:Type} [DecidableEq α]:∀ {xs ys:List α},xs.Nodup→(∀ x∈xs,x∈ys)→xs.length≤ys.length
 | [],_,_,_ => Nat.zero_le _
 | x::xs,ys,nd,h => by
  have nd':=List.nodup_cons.mp nd
  have hx:=h x List.mem_cons_self
  have:=sub_len (xs:=xs) (ys:=ys.erase x) nd'.2 fun y hy => (List.mem_erase_of_ne (fun e:y = x => nd'.1 (e▸hy))).mpr (h y (List.mem_cons_of_mem _ hy))
  rw [List.length_erase_of_mem hx] at this
  have hpos:=List.length_pos_of_mem hx
  show xs.length + 1≤_
  omega
end
def hp (p a b:Pt):Bool:=decide ((a.1 = p.1∧b.1 = p.1 + 1∧p.2 < a.2)∨(b.1 = p.1∧a.1 = p.1 + 1∧p.2 < b.2))
def par (h:Pt→Pt→Bool):Pt→List Pt→Bool
 | _,[] => false
 | a,b::l => h a b ^^ par h b l
def endL:Pt→List Pt→Pt
 | a,[] => a
 | _,b::l => endL b l
def ltN (d:Nat):Lt:=match d with
 | 0 => 0
 | 1 => 1
 | 2 => 2
 | _ => 3
theorem step_ltN {d:Nat} (h:d < 4):step (ltN d) = stp d:=by
 rcases c4 h with rfl | rfl | rfl | rfl <;> rfl
def sdP (c:Pt) (d:Nat):Pt:=match d with
 | 0 => (c.1,c.2)
 | 1 => (c.1 + 1,c.2)
 | 2 => (c.1 + 1,c.2 + 1)
 | _ => (c.1,c.2 + 1)
def sdO (c:Pt) (d:Nat):Pt:=match d with
 | 0 => (c.1,c.2 - 1)
 | 1 => (c.1 + 1,c.2)
 | 2 => (c.1,c.2 + 1)
 | _ => (c.1 - 1,c.2)
theorem sd_l {c:Pt} {d:Nat} (h:d < 4):lft (sdP c d) d = c:=by
 rcases c4 h with rfl | rfl | rfl | rfl
 ·rfl
 ·exact Prod.ext (by show c.1 + 1 - 1 = c.1; omega) rfl
 ·exact Prod.ext (by show c.1 + 1 - 1 = c.1; omega) (by show c.2 + 1 - 1 = c.2; omega)
 ·exact Prod.ext rfl (by show c.2 + 1 - 1 = c.2; omega)
theorem sd_r {c:Pt} {d:Nat} (h:d < 4):rgt (sdP c d) d = sdO c d:=by
 rcases c4 h with rfl | rfl | rfl | rfl
 ·rfl
 ·rfl
 ·exact Prod.ext (by show c.1 + 1 - 1 = c.1; omega) rfl
 ·exact Prod.ext rfl (by show c.2 + 1 - 1 = c.2; omega)
theorem sd_of {p:Pt} {d:Nat} (h:d < 4):p = sdP (lft p d) d:=by
 rcases c4 h with rfl | rfl | rfl | rfl
 ·rfl
 ·exact Prod.ext (by show p.1 = p.1 - 1 + 1; omega) rfl
 ·exact Prod.ext (by show p.1 = p.1 - 1 + 1; omega) (by show p.2 = p.2 - 1 + 1; omega)
 ·exact Prod.ext rfl (by show p.2 = p.2 - 1 + 1; omega)
theorem outD_lt {S:List Pt} {p:Pt}:outD S p < 4:=by unfold outD; repeat (first | omega | split)
def wd (S:List Pt) (p:Pt) (t:Nat):List Lt:=(List.range t).map fun i => ltN (outD S (itr S p i))
theorem wd_len (S:List Pt) (p:Pt) (t:Nat):(wd S p t).length = t:=by unfold wd; rw [List.length_map,List.length_range]
theorem wd_snoc (S:List Pt) (p:Pt) (t:Nat):wd S p (t + 1) = wd S p t++[ltN (outD S (itr S p t))]:=by unfold wd; rw [List.range_succ,List.map_append]; rfl
theorem wd_take (S:List Pt) (p:Pt) {t i:Nat} (h:i≤t):(wd S p t).take i = wd S p i:=by unfold wd; rw [← List.map_take,List.take_range,Nat.min_eq_left h]
theorem endp_wd (S:List Pt) (p:Pt):∀ t,endp p (wd S p t) = itr S p t
 | 0 => rfl
 | t + 1 => by
  rw [wd_snoc,endp_snoc,endp_wd S p t,step_ltN outD_lt]
  exact Prod.ext rfl rfl
def crnK (S cs:List Pt):List Pt:=(cs.map fun c => ((List.range 4).filter fun d => !decide (sdO c d∈S)).map (sdP c)).flatten
theorem mem_crnK {S cs:List Pt} {q:Pt}:q∈crnK S cs↔∃ c∈cs,∃ d,d < 4∧sdO c d∉S∧q = sdP c d:=by
 unfold crnK
 simp only [List.mem_flatten,List.mem_map,List.mem_filter,List.mem_range,Bool.not_eq_true',decide_eq_false_iff_not]
 constructor
 ·rintro ⟨_,⟨c,hc,rfl⟩,h⟩
  obtain ⟨d,hd,rfl⟩:=List.mem_map.mp h
  have:=List.mem_filter.mp hd
  exact ⟨c,hc,d,List.mem_range.mp this.1,by simpa using this.2,rfl⟩
 ·rintro ⟨c,hc,d,h1,h2,rfl⟩
  exact ⟨_,⟨c,hc,rfl⟩,List.mem_map.mpr ⟨d,List.mem_filter.mpr ⟨List.mem_range.mpr h1,by simpa using h2⟩,rfl⟩⟩
theorem sd_edge {S:List Pt} {c:Pt} {d:Nat} (hc:c∈S) (hd:d < 4) (ho:sdO c d∉S):Edge S (sdP c d) d:=⟨hd,by rw [sd_l hd]; exact hc,by rw [sd_r hd]; exact ho⟩
theorem crnK_nd {S:List Pt} (g:Dg S):∀ {cs:List Pt},cs.Nodup→(∀ c∈cs,c∈S)→(crnK S cs).Nodup
 | [],_,_ => by simp [crnK]
 | c::cs,nd,sub => by
  have h1:=List.nodup_cons.mp nd
  have e:crnK S (c::cs) = ((List.range 4).filter fun d => !decide (sdO c d∈S)).map (sdP c)++crnK S cs:=by simp [crnK]
  have hc:=sub c (by simp)
  rw [e,List.nodup_append]
  refine ⟨?_,crnK_nd g h1.2 fun x hx => sub x (by simp [hx]),fun a ha b hb z => ?_⟩
  ·rw [List.nodup_iff_pairwise_ne,List.pairwise_map]
   refine List.Pairwise.imp_of_mem (fun {a b} ha hb hne z => ?_) (List.nodup_iff_pairwise_ne.mp (List.nodup_range.filter _))
   have ka:=List.mem_filter.mp ha
   have kb:=List.mem_filter.mp hb
   have ea:=sd_edge hc (List.mem_range.mp ka.1) (by simpa using ka.2)
   have eb:=sd_edge hc (List.mem_range.mp kb.1) (by simpa using kb.2)
   rw [← z] at eb
   exact hne (edge_one g ea eb)
  ·subst z
   obtain ⟨d,hd,rfl⟩:=List.mem_map.mp ha
   have kd:=List.mem_filter.mp hd
   obtain ⟨c',hc',d',h1',h2',e'⟩:=mem_crnK.mp hb
   have ea:=sd_edge hc (List.mem_range.mp kd.1) (by simpa using kd.2)
   have eb:=sd_edge (sub c' (by simp [hc'])) h1' h2'
   have e2:=e'
   rw [← e'] at eb
   have ed:=edge_one g ea eb
   subst ed
   have:c = c':=by rw [← sd_l (c:=c) ea.lt,e',sd_l ea.lt]
   exact h1.1 (this▸hc')
def ar (c:Pt):List Lt→Int
 | [] => 0
 | l::ls => c.1 * (step l).2 + ar (adp (step l) c) ls
theorem ar_app (c:Pt) (as bs:List Lt):ar c (as++bs) = ar c as + ar (endp c as) bs:=by
 induction as generalizing c with
 | nil => show ar c bs = 0 + ar c bs; omega
 | cons l as ih =>
  show c.1 * (step l).2 + ar (adp (step l) c) (as++bs) = c.1 * (step l).2 + ar (adp (step l) c) as + ar (endp (adp (step l) c) as) bs
  rw [ih]; omega
theorem ar_snoc (c:Pt) (ls:List Lt) (l:Lt):ar c (ls++[l]) = ar c ls + (endp c ls).1 * (step l).2:=by
 rw [ar_app]
 show _ + ((endp c ls).1 * (step l).2 + 0) = _
 omega
theorem asc_w (ls:List Lt):asc (wStr ls):=by
 show (ls.map cp).toArray.all (· < 128) = true
 rw [List.all_toArray,List.all_map,List.all_eq_true]
 intro l _
 have:∀ l:Lt,cp l < 128:=by decide
 exact decide_eq_true (this l)
theorem g_eqN {l:Lt} {H:Hp3} {Q:VK3} (q:Q (.bl (decide (l = 1))) H):r3eq (.str (lt1 l)) (.str (Str.ofString "n")) H Q:=by
 have:=g_eqW (as:=[l]) (bs:=[1]) (H:=H) (Q:=Q) (by rw [show decide ([l] = [(1:Lt)]) = decide (l = 1) from by simp]; exact q)
 exact this
theorem g_eqS {l:Lt} {H:Hp3} {Q:VK3} (q:Q (.bl (decide (l = 3))) H):r3eq (.str (lt1 l)) (.str (Str.ofString "s")) H Q:=by
 have:=g_eqW (as:=[l]) (bs:=[3]) (H:=H) (Q:=Q) (by rw [show decide ([l] = [(3:Lt)]) = decide (l = 3) from by simp]; exact q)
 exact this
theorem zip_at' {c:Pt} {ls:List Lt} {i:Nat} {p:Lt×Pt} (h:(ls.zip (path c ls))[i]? = some p):p.2 = endp c (ls.take i)∧ls[i]? = some p.1:=by
 rw [List.getElem?_zip_eq_some] at h
 refine ⟨?_,h.1⟩
 have h1:=h.2
 rw [path_get] at h1
 split at h1
 ·exact (Option.some.inj h1).symm
 ·cases h1
theorem zip_len' (c:Pt) (ls:List Lt):(ls.zip (path c ls)).length = ls.length:=by rw [List.length_zip,path_len]; omega
def rgI (a b:Int):List Int:=(List.range (b - a).toNat).map fun i:Nat => a + (i:Int)
def fill:List Int→List Int
 | a::b::r => rgI a b++fill r
 | _ => []
theorem sumP {as bs:List Int} (h:as.Perm bs):as.sum = bs.sum:=by
 induction h with
 | nil => rfl
 | cons x _ ih => rw [List.sum_cons,List.sum_cons,ih]
 | swap x y l => rw [List.sum_cons,List.sum_cons,List.sum_cons,List.sum_cons]; omega
 | trans _ _ i1 i2 => exact i1.trans i2
theorem sum_filt {α:Type} (p:α→Bool) (g:α→Int):∀ l:List α,((l.filter p).map g).sum = (l.map fun c => if p c = true then g c else 0).sum
 | [] => rfl
 | c::l => by
  have ih:=sum_filt p g l
  rw [List.map_cons,List.sum_cons,← ih]
  by_cases h:p c = true
  ·rw [List.filter_cons_of_pos h,List.map_cons,List.sum_cons,if_pos h]
  ·rw [List.filter_cons_of_neg h,if_neg h]; omega
theorem sum_add {α:Type} (f g:α→Int):∀ l:List α,(l.map fun c => f c + g c).sum = (l.map f).sum + (l.map g).sum
 | [] => rfl
 | c::l => by rw [List.map_cons,List.map_cons,List.map_cons,List.sum_cons,List.sum_cons,List.sum_cons,sum_add f g l]; omega
section
variable {S:List Pt}
theorem sum_east (nd:S.Nodup):(S.map fun c => if decide ((c.1 + 1,c.2)∈S) = true then c.1 + 1 else 0).sum = (S.map fun c => if decide ((c.1 - 1,c.2)∈S) = true then c.1 else 0).sum:=by
 rw [← sum_filt (fun c:Pt => decide ((c.1 + 1,c.2)∈S)) (fun c => c.1 + 1),← sum_filt (fun c:Pt => decide ((c.1 - 1,c.2)∈S)) (fun c => c.1)]
 have hp:((S.filter fun c => decide ((c.1 + 1,c.2)∈S)).map fun c => (c.1 + 1,c.2)).Perm (S.filter fun c => decide ((c.1 - 1,c.2)∈S)):=by
  refine (List.perm_ext_iff_of_nodup ?_ (nd.filter _)).mpr fun q => ?_
  ·rw [List.nodup_iff_pairwise_ne,List.pairwise_map]
   refine (List.nodup_iff_pairwise_ne.mp (nd.filter _)).imp fun {a b} hne z => hne ?_
   have z1:a.1 + 1 = b.1 + 1:=(Prod.mk.inj z).1
   exact Prod.ext (by omega) (Prod.mk.inj z).2
  ·rw [List.mem_map,List.mem_filter,decide_eq_true_iff]
   constructor
   ·rintro ⟨c,hc,rfl⟩
    have:=List.mem_filter.mp hc
    refine ⟨by simpa using this.2,?_⟩
    show (c.1 + 1 - 1,c.2)∈S
    rw [Int.add_sub_cancel]; exact this.1
   ·rintro ⟨h1,h2⟩
    refine ⟨(q.1 - 1,q.2),List.mem_filter.mpr ⟨h2,?_⟩,Prod.ext (by show q.1 - 1 + 1 = q.1; omega) rfl⟩
    rw [decide_eq_true_iff]
    show (q.1 - 1 + 1,q.2)∈S
    rw [Int.sub_add_cancel]; exact h1
 have:=sumP (hp.map Prod.fst)
 rw [List.map_map] at this
 exact this
def gq (S:List Pt) (q:Pt):Int:=q.1 * (stp (outD S q)).2
theorem ar_wd (q:Pt):∀ n,ar q (wd S q n) = ((List.range n).map fun i => gq S (itr S q i)).sum
 | 0 => rfl
 | n + 1 => by
  rw [wd_snoc,ar_snoc,ar_wd q n,endp_wd,List.range_succ,List.map_append,List.sum_append,step_ltN outD_lt]
  simp [gq]
theorem sum_cell (g:Dg S) {c:Pt} (hc:c∈S):((((List.range 4).filter fun d => !decide (sdO c d∈S)).map (sdP c)).map (gq S)).sum = (if decide ((c.1 + 1,c.2)∈S) = true then 0 else c.1 + 1) + (if decide ((c.1 - 1,c.2)∈S) = true then 0 else -c.1):=by
 rw [List.map_map]
 have e:(((List.range 4).filter fun d => !decide (sdO c d∈S)).map (gq S∘sdP c)) = (((List.range 4).filter fun d => !decide (sdO c d∈S)).map fun d => (sdP c d).1 * (stp d).2):=by
  refine List.map_congr_left fun d hd => ?_
  have k:=List.mem_filter.mp hd
  have ed:=sd_edge hc (List.mem_range.mp k.1) (by simpa using k.2)
  show (sdP c d).1 * (stp (outD S (sdP c d))).2 = _
  rw [edge_one g (outD_edge ⟨d,ed⟩) ed]
 rw [e,sum_filt (fun d => !decide (sdO c d∈S)) (fun d => (sdP c d).1 * (stp d).2)]
 show (if (!decide (sdO c 0∈S)) = true then (c.1 * 0:Int) else 0) + ((if (!decide ((c.1 + 1,c.2)∈S)) = true then ((c.1 + 1) * 1:Int) else 0) + ((if (!decide (sdO c 2∈S)) = true then ((c.1 + 1) * 0:Int) else 0) + ((if (!decide ((c.1 - 1,c.2)∈S)) = true then (c.1 * -1:Int) else 0) + 0))) = _
 rw [Int.mul_zero,Int.mul_zero,Int.mul_one]
 cases decide ((c.1 + 1,c.2)∈S) <;> cases decide ((c.1 - 1,c.2)∈S) <;> simp <;> omega
theorem sum_crnK (g:Dg S):∀ {cs:List Pt},(∀ c∈cs,c∈S)→((crnK S cs).map (gq S)).sum = (cs.map fun c => (if decide ((c.1 + 1,c.2)∈S) = true then 0 else c.1 + 1) + (if decide ((c.1 - 1,c.2)∈S) = true then 0 else -c.1)).sum
 | [],_ => rfl
 | c::cs,h => by
  have e:crnK S (c::cs) = ((List.range 4).filter fun d => !decide (sdO c d∈S)).map (sdP c)++crnK S cs:=by simp [crnK]
  rw [e,List.map_append,List.sum_append,sum_cell g (h c (by simp)),sum_crnK g fun x hx => h x (by simp [hx]),List.map_cons,List.sum_cons]
theorem area_len (g:Dg S) (nd:S.Nodup) {q:Pt} {t:Nat} (hq:Crn S q) (r:Rnd S q t):ar q (wd S q t) = S.length:=by
 have hp:((List.range t).map (itr S q)).Perm (crnK S S):=by
  refine (List.perm_ext_iff_of_nodup ?_ (crnK_nd g nd fun _ h => h)).mpr fun p => ?_
  ·rw [List.nodup_iff_pairwise_ne,List.pairwise_map]
   refine List.Pairwise.imp_of_mem (fun {a b} _ hb hlt => r.inj a b hlt (List.mem_range.mp hb)) List.pairwise_lt_range
  ·rw [mem_crnK,List.mem_map]
   constructor
   ·rintro ⟨i,_,rfl⟩
    obtain ⟨d,e⟩:=crn_itr hq i
    exact ⟨_,e.l,d,e.lt,by rw [← sd_r e.lt,← sd_of e.lt]; exact e.r,sd_of e.lt⟩
   ·rintro ⟨c,hc,d,h1,h2,rfl⟩
    obtain ⟨m,hm,e⟩:=r.all _ ⟨d,sd_edge hc h1 h2⟩
    exact ⟨m,List.mem_range.mpr hm,e.symm⟩
 have e1:=sumP (hp.map (gq S))
 rw [List.map_map] at e1
 rw [ar_wd]
 show ((List.range t).map (gq S∘itr S q)).sum = _
 rw [e1,sum_crnK g fun _ h => h]
 have e2:=sum_east nd
 have e3:(S.map fun c:Pt => (if decide ((c.1 + 1,c.2)∈S) = true then 0 else c.1 + 1) + (if decide ((c.1 - 1,c.2)∈S) = true then 0 else -c.1)).sum + (S.map fun c:Pt => if decide ((c.1 + 1,c.2)∈S) = true then c.1 + 1 else 0).sum = (S.map fun c:Pt => (1:Int) + if decide ((c.1 - 1,c.2)∈S) = true then c.1 else 0).sum:=by
  rw [← sum_add]
  congr 1
  refine List.map_congr_left fun c _ => ?_
  cases decide ((c.1 + 1,c.2)∈S) <;> cases decide ((c.1 - 1,c.2)∈S) <;> simp <;> omega
 rw [sum_add (fun _ => (1:Int)) (fun c:Pt => if decide ((c.1 - 1,c.2)∈S) = true then c.1 else 0),e2] at e3
 have e4:∀ l:List Pt,(l.map fun _ => (1:Int)).sum = l.length:=by
  intro l
  induction l with
  | nil => rfl
  | cons c l ih => rw [List.map_cons,List.sum_cons,ih,List.length_cons]; omega
 rw [e4] at e3
 omega
end
section
variable {S T:List Pt} {p:Pt}
def mvP (v p:Pt):Pt:=(p.1 + v.1,p.2 + v.2)
variable {v:Pt} (h:∀ c:Pt,mvP v c∈T↔c∈S)
end
def GrOk (a b d:Int):Prop:=0 < a∧0≤b∧b < a∧0 < d∧Bt 4000 a∧Bt 4000 d
theorem GrOk.bb {a b d:Int} (h:GrOk a b d):Bt 4000 b:=by
 obtain ⟨h1,h2,h3,h4,h5,h6⟩:=h
 exact h5.of_le (by omega)
def wsJ (d y:Int):Int:=y / d
def wsI (a b d x y:Int):Int:=(x - y / d * b) / a
def rsX (a b d x y:Int):Int:=(x - y / d * b) % a
def rsY (d y:Int):Int:=y % d
theorem rsX_eq (a b d x y:Int):x - (wsI a b d x y * a + wsJ d y * b) = rsX a b d x y:=by
 unfold rsX wsI wsJ
 have:=Int.mul_ediv_add_emod (x - y / d * b) a
 rw [Int.mul_comm ((x - y / d * b) / a) a]
 omega
theorem rsY_eq (d y:Int):y - wsJ d y * d = rsY d y:=by
 unfold rsY wsJ
 have:=Int.mul_ediv_add_emod y d
 rw [Int.mul_comm (y / d) d]
 omega
theorem rs_eq {a b d x y x' y':Int} (hg:GrOk a b d):(rsX a b d x y = rsX a b d x' y'∧rsY d y = rsY d y')↔∃ i j,x' - x = i * a + j * b∧y' - y = j * d:=by
 constructor
 ·rintro ⟨h1,h2⟩
  rw [← rsX_eq,← rsX_eq] at h1
  rw [← rsY_eq,← rsY_eq] at h2
  refine ⟨wsI a b d x' y' - wsI a b d x y,wsJ d y' - wsJ d y,?_,?_⟩
  ·rw [Int.sub_mul,Int.sub_mul]; omega
  ·rw [Int.sub_mul]; omega
 ·rintro ⟨i,j,h1,h2⟩
  obtain ⟨g1,g2,g3,g4,g5,g6⟩:=hg
  obtain rfl:x' = x + (i * a + j * b):=by omega
  obtain rfl:y' = y + j * d:=by omega
  unfold rsX rsY
  have e1:(y + j * d) / d = y / d + j:=Int.add_mul_ediv_right y j (by omega)
  refine ⟨?_,?_⟩
  ·rw [e1,Int.add_mul,show x + (i * a + j * b) - (y / d * b + j * b) = x - y / d * b + i * a from by omega,Int.add_mul_emod_self_right]
  ·rw [Int.add_mul_emod_self_right]
def In2 (p q v:Pt):Prop:=∃ i j:Int,v.1 = i * p.1 + j * q.1∧v.2 = i * p.2 + j * q.2
structure Grp (G:Pt→Prop):Prop where
 zero:G (0,0)
 sub:∀ p q,G p→G q→G (p.1 - q.1,p.2 - q.2)
section
variable {G:Pt→Prop} {p q u v w:Pt} {i j:Int}
theorem Grp.neg (h:Grp G) (hp:G p):G (-p.1,-p.2):=by
 have:=h.sub _ _ h.zero hp
 rw [Int.zero_sub,Int.zero_sub] at this; exact this
theorem Grp.add (h:Grp G) (hp:G p) (hq:G q):G (p.1 + q.1,p.2 + q.2):=by
 have:=h.sub _ _ hp (h.neg hq)
 rw [Int.sub_neg,Int.sub_neg] at this; exact this
theorem Grp.mulN (h:Grp G) (hp:G p):∀ n:Nat,G ((n:Int) * p.1,(n:Int) * p.2)
 | 0 => by
  have:(((0:Nat):Int) * p.1,((0:Nat):Int) * p.2) = ((0:Int),(0:Int)):=by simp
  rw [this]; exact h.zero
 | n + 1 => by
  have:=h.add (h.mulN hp n) hp
  have e:(((n + 1:Nat):Int) * p.1,((n + 1:Nat):Int) * p.2) = ((n:Int) * p.1 + p.1,(n:Int) * p.2 + p.2):=by
   rw [Int.natCast_add,Int.add_mul,Int.add_mul]; simp
  rw [e]; exact this
theorem Grp.mul (h:Grp G) (hp:G p) (i:Int):G (i * p.1,i * p.2):=by
 rcases Int.eq_nat_or_neg i with ⟨n,rfl | rfl⟩
 ·exact h.mulN hp n
 ·have:=h.neg (h.mulN hp n)
  rw [Int.neg_mul,Int.neg_mul]; exact this
theorem Grp.lin (h:Grp G) (hp:G p) (hq:G q) (hv:In2 p q v):G v:=by
 obtain ⟨i,j,h1,h2⟩:=hv
 have:=h.add (h.mul hp i) (h.mul hq j)
 have e:v = (i * p.1 + j * q.1,i * p.2 + j * q.2):=Prod.ext h1 h2
 rw [e]; exact this
theorem In2.grp (p q:Pt):Grp (In2 p q) where
 zero:=⟨0,0,by simp,by simp⟩
 sub:=by
  rintro u v ⟨i,j,h1,h2⟩ ⟨k,l,h3,h4⟩
  refine ⟨i - k,j - l,?_,?_⟩
  ·show u.1 - v.1 = _; rw [h1,h3,Int.sub_mul,Int.sub_mul]; omega
  ·show u.2 - v.2 = _; rw [h2,h4,Int.sub_mul,Int.sub_mul]; omega
theorem In2.left (p q:Pt):In2 p q p:=⟨1,0,by simp,by simp⟩
theorem In2.right (p q:Pt):In2 p q q:=⟨0,1,by simp,by simp⟩
theorem In2.trans (hu:In2 p q u) (hv:In2 p q v) (h:In2 u v w):In2 p q w:=(In2.grp p q).lin hu hv h
end
theorem fmod_ab {a b:Int} (hb:b≠0):(a.fmod b).natAbs < b.natAbs:=by
 rcases Int.lt_or_gt_of_ne hb with h | h
 ·have e:=Int.neg_fmod_neg a b
  have h1:=Int.fmod_nonneg_of_pos (-a) (b:=-b) (by omega)
  have h2:=Int.fmod_lt_of_pos (-a) (b:=-b) (by omega)
  omega
 ·have h1:=Int.fmod_nonneg_of_pos a (b:=b) h
  have h2:=Int.fmod_lt_of_pos a (b:=b) h
  omega
def Reg (a b:Int):Prop:=(0≤b∧b < a)∨(b≤0∧a < b)
theorem fmod_reg {a b:Int} (hb:b≠0):Reg b (a.fmod b):=by
 rcases Int.lt_or_gt_of_ne hb with h | h
 ·have e:=Int.neg_fmod_neg a b
  have h1:=Int.fmod_nonneg_of_pos (-a) (b:=-b) (by omega)
  have h2:=Int.fmod_lt_of_pos (-a) (b:=-b) (by omega)
  exact .inr ⟨by omega,by omega⟩
 ·exact .inl ⟨Int.fmod_nonneg_of_pos a h,Int.fmod_lt_of_pos a h⟩
theorem fmod_posn {a b:Int} (h0:0 < b) (h1:b < a):a.fmod b + b≤a:=by
 have e:=Int.mul_fdiv_add_fmod a b
 have h2:=Int.fmod_lt_of_pos a (b:=b) h0
 have h3:1≤a.fdiv b:=by
  rcases Int.lt_or_le (a.fdiv b) 1 with z | z
  ·have:b * a.fdiv b≤b * 0:=Int.mul_le_mul_of_nonneg_left (by omega) (by omega)
   omega
  ·exact z
 have:b * 1≤b * a.fdiv b:=Int.mul_le_mul_of_nonneg_left h3 (by omega)
 omega
theorem fmod_half {a b:Int} (hb:b≠0) (h:Reg a b):2 * (a.fmod b).natAbs≤a.natAbs:=by
 rcases h with ⟨h0,h1⟩ | ⟨h0,h1⟩
 ·have:=fmod_posn (a:=a) (b:=b) (by omega) h1
  have h2:=Int.fmod_lt_of_pos a (b:=b) (by omega)
  have h3:=Int.fmod_nonneg_of_pos a (b:=b) (by omega)
  omega
 ·have e:=Int.neg_fmod_neg a b
  have:=fmod_posn (a:=-a) (b:=-b) (by omega) (by omega)
  have h2:=Int.fmod_lt_of_pos (-a) (b:=-b) (by omega)
  have h3:=Int.fmod_nonneg_of_pos (-a) (b:=-b) (by omega)
  omega
theorem Bt.fdiv {m:Nat} {i j:Int} (h:Bt m i):Bt m (i.fdiv j):=h.of_le (Int.natAbs_fdiv_le_natAbs i j)
def tkn (p q:Pt):Pt:=(p.1 - p.2.fdiv q.2 * q.1,p.2 - p.2.fdiv q.2 * q.2)
theorem tkn_snd (p q:Pt):(tkn p q).2 = p.2.fmod q.2:=by
 have:=Int.fmod_def p.2 q.2
 show p.2 - p.2.fdiv q.2 * q.2 = _
 rw [this,Int.mul_comm]
theorem tkn_grp {G:Pt→Prop} (g:Grp G) {p q:Pt} (hp:G p) (hq:G q):G (tkn p q):=g.sub _ _ hp (g.mul hq _)
theorem tkn_in {p q v:Pt} (h:In2 p q v):In2 q (tkn p q) v:=by
 refine In2.trans ⟨p.2.fdiv q.2,1,?_,?_⟩ (In2.left _ _) h
 ·show p.1 = p.2.fdiv q.2 * q.1 + 1 * (p.1 - p.2.fdiv q.2 * q.1); omega
 ·show p.2 = p.2.fdiv q.2 * q.2 + 1 * (p.2 - p.2.fdiv q.2 * q.2); omega
structure Lev (N:Nat) (p0 q0 p q:Pt):Prop where
 grp:∀ G,Grp G→G p0→G q0→G p∧G q
 i1:In2 p q p0
 i2:In2 p q q0
 bp:Bt 400 p.2
 bq:Bt 400 q.2
 bits:(Bt N p.1∧Bt N q.1)∨(Reg p.2 q.2∧∃ n,n≤800∧(p.2 * q.2).natAbs < 2 ^ n∧Bt (N + 402 * (802 - n)) p.1∧Bt (N + 402 * (802 - n)) q.1)
theorem Lev.start {N:Nat} {p q:Pt} (bp:Bt 400 p.2) (bq:Bt 400 q.2) (h1:Bt N p.1) (h2:Bt N q.1):Lev N p q p q :=
 ⟨fun _ _ a b => ⟨a,b⟩,In2.left _ _,In2.right _ _,bp,bq,.inl ⟨h1,h2⟩⟩
theorem Lev.step {N:Nat} {p0 q0 p q:Pt} (h:Lev N p0 q0 p q) (hq:q.2≠0):Lev N p0 q0 q (tkn p q)∧(tkn p q).2.natAbs < q.2.natAbs:=by
 have hs:=tkn_snd p q
 have hab:=fmod_ab (a:=p.2) hq
 have bt:Bt 400 (p.2.fdiv q.2):=Bt.fdiv h.bp
 refine ⟨⟨fun G g a b => ⟨(h.grp G g a b).2,tkn_grp g (h.grp G g a b).1 (h.grp G g a b).2⟩,tkn_in h.i1,tkn_in h.i2,h.bq,h.bq.of_le (by rw [hs]; omega),.inr ⟨by rw [hs]; exact fmod_reg hq,?_⟩⟩,by rw [hs]; exact hab⟩
 rcases h.bits with ⟨b1,b2⟩ | ⟨hr,n,hn,hm,b1,b2⟩
 ·refine ⟨800,Nat.le_refl _,?_,b2.mono (by omega),?_⟩
  ·have:=Bt.mul h.bq (h.bq.of_le (i:=(tkn p q).2) (by rw [hs]; omega)); exact this
  ·exact (Bt.sub b1 (Bt.mul bt b2)).mono (by omega)
 ·have hh:=fmod_half hq hr
  have h0:0 < n:=by
   rcases Nat.eq_zero_or_pos n with rfl | z
   ·exfalso
    rw [Int.natAbs_mul] at hm
    have h1:0 < p.2.natAbs:=by rcases hr with ⟨_,_⟩ | ⟨_,_⟩ <;> omega
    have h2:0 < q.2.natAbs:=by omega
    have:=Nat.mul_pos h1 h2
    simp only [Nat.pow_zero] at hm
    omega
   ·exact z
  refine ⟨n - 1,by omega,?_,b2.mono (by omega),?_⟩
  ·rw [Int.natAbs_mul] at hm ⊢
   rw [hs]
   have e:2 ^ n = 2 * 2 ^ (n - 1):=by rw [← Nat.pow_succ']; congr 1; omega
   have h3:q.2.natAbs * (2 * (p.2.fmod q.2).natAbs)≤q.2.natAbs * p.2.natAbs:=Nat.mul_le_mul_left _ hh
   rw [Nat.mul_comm p.2.natAbs] at hm
   rw [Nat.mul_left_comm] at h3
   omega
  ·exact (Bt.sub b1 (Bt.mul bt b2)).mono (by omega)
theorem Lev.all {N:Nat} {p0 q0 p q:Pt} (h:Lev N p0 q0 p q):Bt (N + 400000) p.1∧Bt (N + 400000) q.1:=by
 rcases h.bits with ⟨b1,b2⟩ | ⟨hr,n,hn,hm,b1,b2⟩
 ·exact ⟨b1.mono (by omega),b2.mono (by omega)⟩
 ·exact ⟨b1.mono (by omega),b2.mono (by omega)⟩
def crs (p q:Pt):Int:=p.1 * q.2 - p.2 * q.1
theorem crs_in {p q u v:Pt} (hu:In2 p q u) (hv:In2 p q v):∃ k,crs u v = k * crs p q:=by
 obtain ⟨i,j,h1,h2⟩:=hu
 obtain ⟨k,l,h3,h4⟩:=hv
 refine ⟨i * l - j * k,?_⟩
 unfold crs
 rw [h1,h2,h3,h4]
 simp only [Int.add_mul,Int.mul_add,Int.sub_mul,Int.mul_sub]
 have e1:i * p.1 * (k * p.2) = i * p.2 * (k * p.1):=by ac_rfl
 have e2:j * q.1 * (l * q.2) = j * q.2 * (l * q.1):=by ac_rfl
 have e3:i * p.1 * (l * q.2) = i * l * (p.1 * q.2):=by ac_rfl
 have e4:j * q.1 * (k * p.2) = j * k * (p.2 * q.1):=by ac_rfl
 have e5:i * p.2 * (l * q.1) = i * l * (p.2 * q.1):=by ac_rfl
 have e6:j * q.2 * (k * p.1) = j * k * (p.1 * q.2):=by ac_rfl
 rw [e1,e2,e3,e4,e5,e6]
 omega
theorem Cp.filtX {α:Type} {H:Hp3} {Q:VK3} {cA:TT3} {te:TE3} {g:TG3} {keep:Hp3→Prop} {σ0:St3} {as:List α} {E:α→D} (F:α→D) (T:α→Bool) (hk:∀ H2:Hp3,Sub3 H H2→keep H2) (hl:as.length≤10000)
  (hel:∀ (i:Nat) a,as[i]? = some a→∀ (R1:VK3) (R0:Hp3→Prop) (H2:Hp3),Sub3 H H2→(T a = true→∀ H6,Sub3 H2 H6→R1 (F a) H6)→(T a = false→∀ H6,Sub3 H2 H6→R0 H6)→g (E a) σ0 H2 fun σ2 H4 => cA σ2 H4 fun b H5 => if b = true then te σ2 H5 R1 else R0 H5)
  (fin:∀ p,H p = none→Q (.ref p) (upd3 H p (.lst ((as.filter T).map F)))):Cp g cA te σ0 (as.map E) keep H Q:=by
 refine ⟨hk,by rw [List.length_map]; exact hl,as.map (fun a => if T a = true then some (F a) else none),by simp,fun i d hd H2 hs => ?_,fun p hp => ?_⟩
 ·rw [List.getElem?_map] at hd
  cases e:as[i]? with
  | none => rw [e] at hd; cases hd
  | some a =>
   rw [e] at hd
   cases hd
   have er:(as.map fun a => if T a = true then some (F a) else none)[i]? = some (if T a = true then some (F a) else none):=by rw [List.getElem?_map,e]; rfl
   exact hel i a e _ _ H2 hs (fun ht H6 h6 => ⟨h6,by rw [er,if_pos ht]⟩) fun ht H6 h6 => ⟨h6,by rw [er,if_neg (by rw [ht]; exact Bool.false_ne_true)]⟩
 ·have e:∀ as:List α,(as.map fun a => if T a = true then some (F a) else none).filterMap id = (as.filter T).map F:=by
   intro as
   induction as with
   | nil => rfl
   | cons a as ih =>
    rw [List.map_cons,List.filterMap_cons]
    cases h:T a with
    | true => rw [List.filter_cons_of_pos h,List.map_cons,← ih]; rfl
    | false => rw [List.filter_cons_of_neg (by simp [h]),← ih]; rfl
  rw [e]
  exact fin p hp
def cutD (cs:List Int):D:=.tup (cs.map D.int)
def twoR (h:Int) (a:Nat) (n:Nat):List Pt:=(List.range n).map fun i:Nat => ((a:Int),(a:Int) + 1 + (i:Int))
def twoN (h:Int):Nat→List Pt
 | 0 => []
 | n + 1 => twoN h n++twoR h n (h - ((n:Int) + 1)).toNat
def twoL (h:Int):List Pt:=twoN h h.toNat
def thrR (h:Int) (p:Pt):List (Int×Int×Int):=(List.range (h - (p.2 + 1)).toNat).map fun i:Nat => (p.1,p.2,p.2 + 1 + (i:Int))
def thrL (h:Int) (ps:List Pt):List (Int×Int×Int):=(ps.map (thrR h)).flatten
def trD (q:Int×Int×Int):D:=.tup [.int q.1,.int q.2.1,.int q.2.2]
def allC (h:Int):List (List Int):=(twoL h).map (fun p => [p.1,p.2])++(thrL h (twoL h)).map (fun q => [q.1,q.2.1,q.2.2])
theorem allC_D (h:Int):(twoL h).map prP++(thrL h (twoL h)).map trD = (allC h).map cutD:=by
 unfold allC
 rw [List.map_append,List.map_map,List.map_map]
 rfl
theorem thrL_snoc (h:Int) (ps:List Pt) (p:Pt):thrL h (ps++[p]) = thrL h ps++thrR h p:=by unfold thrL; simp
theorem mem_twoR {h:Int} {a n:Nat} {p:Pt}:p∈twoR h a n↔p.1 = a∧(a:Int) < p.2∧p.2 < (a:Int) + 1 + n:=by
 unfold twoR
 rw [List.mem_map]
 constructor
 ·rintro ⟨i,hi,rfl⟩
  have:=List.mem_range.mp hi
  exact ⟨rfl,by dsimp only; omega,by dsimp only; omega⟩
 ·rintro ⟨h1,h2,h3⟩
  exact ⟨(p.2 - (a:Int) - 1).toNat,List.mem_range.mpr (by omega),Prod.ext h1.symm (by dsimp only; omega)⟩
theorem mem_twoN {h:Int} {p:Pt}:∀ {n:Nat},p∈twoN h n↔0≤p.1∧p.1 < n∧p.1 < p.2∧p.2 < h
 | 0 => by
  constructor
  ·intro z; cases z
  ·intro z; omega
 | n + 1 => by
  rw [twoN,List.mem_append,mem_twoN,mem_twoR]
  omega
theorem twoN_len (h:Int) (hh:h≤21):∀ n:Nat,(twoN h n).length≤n * 21
 | 0 => by simp [twoN]
 | n + 1 => by
  rw [twoN,List.length_append,Nat.succ_mul]
  have:=twoN_len h hh n
  have e:(twoR h n (h - ((n:Int) + 1)).toNat).length = (h - ((n:Int) + 1)).toNat:=by simp [twoR]
  omega
theorem thrL_len {h:Int} (hh:h≤21):∀ {ps:List Pt},(∀ p∈ps,0≤p.2)→(thrL h ps).length≤ps.length * 20
 | [],_ => by simp [thrL]
 | p::ps,hp => by
  have ih:=thrL_len hh (ps:=ps) fun q hq => hp q (by simp [hq])
  have e:thrL h (p::ps) = thrR h p++thrL h ps:=by simp [thrL]
  have e2:(thrR h p).length = (h - (p.2 + 1)).toNat:=by simp [thrR]
  have:=hp p (by simp)
  rw [e,List.length_append,List.length_cons,Nat.succ_mul]
  omega
theorem twoL_len {h:Int} (h0:0≤h) (hh:h≤21):(twoL h).length≤441:=by
 have:=twoN_len h hh h.toNat
 have:h.toNat * 21≤21 * 21:=Nat.mul_le_mul_right _ (by omega)
 unfold twoL
 omega
theorem two_pos {h:Int}:∀ p∈twoL h,0≤p.2:=fun p hp => by have:=mem_twoN.mp hp; omega
theorem thr_all {h:Int} (h0:0≤h) (hh:h≤21):(thrL h (twoL h)).length≤8820:=by
 have:=thrL_len hh (two_pos (h:=h))
 have:=twoL_len h0 hh
 omega
theorem allC_len {h:Int} (h0:0≤h) (hh:h≤21):(allC h).length≤10000:=by
 unfold allC
 rw [List.length_append,List.length_map,List.length_map]
 have:=twoL_len h0 hh
 have:=thr_all h0 hh
 omega
theorem mem_thrL {h:Int} {ps:List Pt} {q:Int×Int×Int}:q∈thrL h ps↔∃ p∈ps,q.1 = p.1∧q.2.1 = p.2∧p.2 < q.2.2∧q.2.2 < h:=by
 unfold thrL thrR
 simp only [List.mem_flatten,List.mem_map]
 constructor
 ·rintro ⟨_,⟨p,hp,rfl⟩,hq⟩
  obtain ⟨i,hi,rfl⟩:=List.mem_map.mp hq
  have:=List.mem_range.mp hi
  exact ⟨p,hp,rfl,rfl,by dsimp only; omega,by dsimp only; omega⟩
 ·rintro ⟨p,hp,h1,h2,h3,h4⟩
  exact ⟨_,⟨p,hp,rfl⟩,List.mem_map.mpr ⟨(q.2.2 - p.2 - 1).toNat,List.mem_range.mpr (by omega),Prod.ext h1.symm (Prod.ext h2.symm (by dsimp only; omega))⟩⟩
theorem small10000' {n:Nat} (h:n≤10000):n < sizeLine:=by rw [sizeLine_n]; omega
def sm (G:Nat→Int) (a:Nat):Nat→Int
 | 0 => 0
 | n + 1 => sm G a n + G (a + n)
theorem sm_add (G:Nat→Int) (a m:Nat):∀ n,sm G a (m + n) = sm G a m + sm G (a + m) n
 | 0 => by show sm G a m = sm G a m + 0; omega
 | n + 1 => by
  show sm G a (m + n) + G (a + (m + n)) = sm G a m + (sm G (a + m) n + G (a + m + n))
  rw [sm_add G a m n,Nat.add_assoc a m n]; omega
theorem sm_front (G:Nat→Int) (a n:Nat):sm G a (n + 1) = G a + sm G (a + 1) n:=by
 rw [Nat.add_comm n 1,sm_add]
 show 0 + G (a + 0) + _ = _
 rw [Nat.add_zero]; omega
theorem sm_per {G:Nat→Int} {t:Nat} (h:∀ i,G (i + t) = G i):∀ a,sm G a t = sm G 0 t
 | 0 => rfl
 | a + 1 => by
  have e1:=sm_front G a t
  have e2:sm G a (t + 1) = sm G a t + G (a + t):=rfl
  rw [h] at e2
  have:=sm_per h a
  omega
theorem sm_two (G:Nat→Int) (c e:Nat):∀ n,n≤e→sm G c n + sm G (e - n) n = sm (fun k => G (c + k) + G (e - 1 - k)) 0 n
 | 0,_ => rfl
 | n + 1,h => by
  have ih:=sm_two G c e n (by omega)
  rw [sm_front G (e - (n + 1)) n]
  rw [show e - (n + 1) + 1 = e - n from by omega]
  show sm G c n + G (c + n) + _ = sm _ 0 n + (G (c + (0 + n)) + G (e - 1 - (0 + n)))
  rw [← ih,Nat.zero_add,show e - (n + 1) = e - 1 - n from by omega]; omega
theorem sm_zero {G:Nat→Int} {a:Nat}:∀ {n:Nat},(∀ k,k < n→G (a + k) = 0)→sm G a n = 0
 | 0,_ => rfl
 | n + 1,h => by
  show sm G a n + G (a + n) = 0
  rw [sm_zero fun k hk => h k (by omega),h n (by omega)]; rfl
theorem sm_congr {G K:Nat→Int} {a:Nat}:∀ {n:Nat},(∀ k,k < n→G (a + k) = K (a + k))→sm G a n = sm K a n
 | 0,_ => rfl
 | n + 1,h => by
  show sm G a n + G (a + n) = sm K a n + K (a + n)
  rw [sm_congr fun k hk => h k (by omega),h n (by omega)]
theorem sm_tel (Y:Nat→Int) (v:Int) (a:Nat):∀ n,sm (fun k => v * (Y (k + 1) - Y k)) a n = v * (Y (a + n) - Y a)
 | 0 => by show 0 = v * (Y a - Y a); rw [Int.sub_self,Int.mul_zero]
 | n + 1 => by
  show sm _ a n + v * (Y (a + n + 1) - Y (a + n)) = _
  rw [sm_tel Y v a n,← Int.mul_add]
  congr 1
  rw [Nat.add_assoc a n 1]; omega
theorem sm_list (G:Nat→Int):∀ n,sm G 0 n = ((List.range n).map G).sum
 | 0 => rfl
 | n + 1 => by
  rw [List.range_succ,List.map_append,List.sum_append]
  show sm G 0 n + G (0 + n) = _
  rw [sm_list G n,Nat.zero_add]; simp
def dif (a b:Pt):Pt:=(a.1 - b.1,a.2 - b.2)
def od:Nat→Nat
 | 0 => 2
 | 1 => 3
 | 2 => 0
 | _ => 1
structure Wk (P:Nat→Pt) (D:Nat→Nat) (h:Nat):Prop where
 go:∀ i,P (i + 1) = go1 (P i) (D i)
 lt:∀ i,D i < 4
 per:∀ i,P (i + (h + h)) = P i
 pd:∀ i,D (i + (h + h)) = D i
structure Sp (P:Nat→Pt) (D:Nat→Nat) (h c p:Nat) (v:Pt):Prop where
 lt:c < p
 le:p≤c + h
 pos:∀ k,k < p - c→P (p + h - 1 - k) = dif (P (c + k + 1)) v
 dir:∀ k,k < p - c→D (p + h - 1 - k) = od (D (c + k))
section
variable {P:Nat→Pt} {D:Nat→Nat} {h:Nat}
theorem Sp.sum {c p:Nat} {v:Pt} (s:Sp P D h c p v) (F:Pt→Nat→Int):sm (fun i => F (P i) (D i)) c (p - c) + sm (fun i => F (P i) (D i)) (c + h) (p - c) = sm (fun i => F (P i) (D i) + F (dif (P (i + 1)) v) (od (D i))) c (p - c):=by
 have:=sm_two (fun i => F (P i) (D i)) c (p + h) (p - c) (by have:=s.le; omega)
 rw [show p + h - (p - c) = c + h from by have:=s.lt; omega] at this
 rw [this]
 have key:∀ (G:Nat→Int) (n a:Nat),sm (fun k => G (a + k)) 0 n = sm G a n:=by
  intro G n a
  induction n with
  | zero => rfl
  | succ n ih => show sm _ 0 n + G (a + (0 + n)) = sm G a n + G (a + n); rw [ih,Nat.zero_add]
 rw [← key (fun i => F (P i) (D i) + F (dif (P (i + 1)) v) (od (D i))) (p - c) c]
 refine sm_congr fun k hk => ?_
 rw [Nat.zero_add]
 show F (P (c + k)) (D (c + k)) + F (P (p + h - 1 - k)) (D (p + h - 1 - k)) = _
 rw [s.pos k hk,s.dir k hk]
theorem Sp.zero (w:Wk P D h) {c p:Nat} {v:Pt} (s:Sp P D h c p v) {F:Pt→Nat→Int} (hF:∀ q d,d < 4→F q d + F (dif (go1 q d) v) (od d) = 0):sm (fun i => F (P i) (D i)) c (p - c) + sm (fun i => F (P i) (D i)) (c + h) (p - c) = 0:=by
 rw [s.sum F]
 refine sm_zero fun k _ => ?_
 rw [w.go]
 exact hF _ _ (w.lt _)
theorem Sp.area (w:Wk P D h) {c p:Nat} {v:Pt} (s:Sp P D h c p v):sm (fun i => (P i).1 * (stp (D i)).2) c (p - c) + sm (fun i => (P i).1 * (stp (D i)).2) (c + h) (p - c) = v.1 * ((P p).2 - (P c).2):=by
 rw [s.sum (fun q d => q.1 * (stp d).2)]
 have e:=sm_tel (fun i => (P i).2) v.1 c (p - c)
 rw [show c + (p - c) = p from by have:=s.lt; omega] at e
 rw [← e]
 refine sm_congr fun k _ => ?_
 rw [w.go]
 have hd:=w.lt (c + k)
 generalize P (c + k) = q
 generalize D (c + k) = d at hd
 rcases c4 hd with rfl | rfl | rfl | rfl
 ·show q.1 * 0 + (q.1 + 1 - v.1) * 0 = v.1 * (q.2 + 0 - q.2); rw [Int.mul_zero,Int.mul_zero,show q.2 + 0 - q.2 = 0 from by omega,Int.mul_zero]; rfl
 ·show q.1 * 1 + (q.1 + 0 - v.1) * -1 = v.1 * (q.2 + 1 - q.2); rw [show q.2 + 1 - q.2 = 1 from by omega]; omega
 ·show q.1 * 0 + (q.1 + -1 - v.1) * 0 = v.1 * (q.2 + 0 - q.2); rw [Int.mul_zero,Int.mul_zero,show q.2 + 0 - q.2 = 0 from by omega,Int.mul_zero]; rfl
 ·show q.1 * -1 + (q.1 + 0 - v.1) * 1 = v.1 * (q.2 + -1 - q.2); rw [show q.2 + -1 - q.2 = -1 from by omega]; omega
theorem Wk.sum (w:Wk P D h) (F:Pt→Nat→Int) (c:Nat):sm (fun i => F (P i) (D i)) 0 (h + h) = sm (fun i => F (P i) (D i)) c h + sm (fun i => F (P i) (D i)) (c + h) h:=by
 rw [← sm_per (G:=fun i => F (P i) (D i)) (t:=h + h) (fun i => by show F (P (i + (h + h))) (D (i + (h + h))) = _; rw [w.per,w.pd]) c,sm_add]
theorem Sp.ends (w:Wk P D h) {c p:Nat} {v:Pt} (s:Sp P D h c p v):P (c + h) = dif (P p) v∧P (p + h) = dif (P c) v:=by
 have hl:=s.lt
 have hle:=s.le
 constructor
 ·have:=s.pos (p - c - 1) (by omega)
  rw [show p + h - 1 - (p - c - 1) = c + h from by omega,show c + (p - c - 1) + 1 = p from by omega] at this
  exact this
 ·have h0:=s.pos 0 (by omega)
  have d0:=s.dir 0 (by omega)
  rw [Nat.sub_zero,Nat.add_zero] at h0 d0
  have e:=w.go (p + h - 1)
  rw [show p + h - 1 + 1 = p + h from by omega,h0,d0,w.go c] at e
  rw [e]
  have hd:=w.lt c
  generalize P c = q
  generalize D c = d at hd
  rcases c4 hd with rfl | rfl | rfl | rfl
  ·exact Prod.ext (by show q.1 + 1 - v.1 + -1 = q.1 - v.1; omega) (by show q.2 + 0 - v.2 + 0 = q.2 - v.2; omega)
  ·exact Prod.ext (by show q.1 + 0 - v.1 + 0 = q.1 - v.1; omega) (by show q.2 + 1 - v.2 + -1 = q.2 - v.2; omega)
  ·exact Prod.ext (by show q.1 + -1 - v.1 + 1 = q.1 - v.1; omega) (by show q.2 + 0 - v.2 + 0 = q.2 - v.2; omega)
  ·exact Prod.ext (by show q.1 + 0 - v.1 + 0 = q.1 - v.1; omega) (by show q.2 + -1 - v.2 + 1 = q.2 - v.2; omega)
theorem two_zero (w:Wk P D h) {a b:Nat} {u v:Pt} (s1:Sp P D h a b u) (s2:Sp P D h b (a + h) v) {F:Pt→Nat→Int} (h1:∀ q d,d < 4→F q d + F (dif (go1 q d) u) (od d) = 0) (h2:∀ q d,d < 4→F q d + F (dif (go1 q d) v) (od d) = 0):sm (fun i => F (P i) (D i)) 0 (h + h) = 0:=by
 rw [w.sum F a]
 have z1:=s1.zero w h1
 have z2:=s2.zero w h2
 have l1:=s1.lt
 have l2:=s2.lt
 have e1:=sm_add (fun i => F (P i) (D i)) a (b - a) (a + h - b)
 have e2:=sm_add (fun i => F (P i) (D i)) (a + h) (b - a) (a + h - b)
 rw [show b - a + (a + h - b) = h from by omega] at e1 e2
 rw [show a + (b - a) = b from by omega] at e1
 rw [show a + h + (b - a) = b + h from by omega] at e2
 omega
theorem three_zero (w:Wk P D h) {a b c:Nat} {u v x:Pt} (s1:Sp P D h a b u) (s2:Sp P D h b c v) (s3:Sp P D h c (a + h) x) {F:Pt→Nat→Int} (h1:∀ q d,d < 4→F q d + F (dif (go1 q d) u) (od d) = 0) (h2:∀ q d,d < 4→F q d + F (dif (go1 q d) v) (od d) = 0) (h3:∀ q d,d < 4→F q d + F (dif (go1 q d) x) (od d) = 0):sm (fun i => F (P i) (D i)) 0 (h + h) = 0:=by
 rw [w.sum F a]
 have z1:=s1.zero w h1
 have z2:=s2.zero w h2
 have z3:=s3.zero w h3
 have l1:=s1.lt
 have l2:=s2.lt
 have l3:=s3.lt
 have e1:=sm_add (fun i => F (P i) (D i)) a (b - a) (a + h - b)
 have e2:=sm_add (fun i => F (P i) (D i)) (a + h) (b - a) (a + h - b)
 have e3:=sm_add (fun i => F (P i) (D i)) b (c - b) (a + h - c)
 have e4:=sm_add (fun i => F (P i) (D i)) (b + h) (c - b) (a + h - c)
 rw [show b - a + (a + h - b) = h from by omega] at e1 e2
 rw [show c - b + (a + h - c) = a + h - b from by omega] at e3 e4
 rw [show a + (b - a) = b from by omega] at e1
 rw [show a + h + (b - a) = b + h from by omega] at e2
 rw [show b + (c - b) = c from by omega] at e3
 rw [show b + h + (c - b) = c + h from by omega] at e4
 omega
theorem two_area (w:Wk P D h) {a b:Nat} {u v:Pt} (s1:Sp P D h a b u) (s2:Sp P D h b (a + h) v):sm (fun i => (P i).1 * (stp (D i)).2) 0 (h + h) = crs u v:=by
 rw [w.sum (fun q d => q.1 * (stp d).2) a]
 have z1:=s1.area w
 have z2:=s2.area w
 have l1:=s1.lt
 have l2:=s2.lt
 have e1:=sm_add (fun i => (P i).1 * (stp (D i)).2) a (b - a) (a + h - b)
 have e2:=sm_add (fun i => (P i).1 * (stp (D i)).2) (a + h) (b - a) (a + h - b)
 rw [show b - a + (a + h - b) = h from by omega] at e1 e2
 rw [show a + (b - a) = b from by omega] at e1
 rw [show a + h + (b - a) = b + h from by omega] at e2
 obtain ⟨p1,p2⟩:=s1.ends w
 obtain ⟨p3,p4⟩:=s2.ends w
 rw [show a + h + h = a + (h + h) from by omega,w.per] at p4
 have y1:(P (a + h)).2 = (P b).2 - u.2:=congrArg Prod.snd p1
 have y4:(P a).2 = (P b).2 - v.2:=congrArg Prod.snd p4
 rw [show (P b).2 - (P a).2 = v.2 from by omega] at z1
 rw [show (P (a + h)).2 - (P b).2 = -u.2 from by omega] at z2
 unfold crs
 rw [Int.mul_neg,Int.mul_comm v.1 u.2] at z2
 omega
theorem three_area (w:Wk P D h) {a b c:Nat} {u v x:Pt} (s1:Sp P D h a b u) (s2:Sp P D h b c v) (s3:Sp P D h c (a + h) x):v = (u.1 + x.1,u.2 + x.2)∧sm (fun i => (P i).1 * (stp (D i)).2) 0 (h + h) = crs u x:=by
 rw [w.sum (fun q d => q.1 * (stp d).2) a]
 have z1:=s1.area w
 have z2:=s2.area w
 have z3:=s3.area w
 have l1:=s1.lt
 have l2:=s2.lt
 have l3:=s3.lt
 have e1:=sm_add (fun i => (P i).1 * (stp (D i)).2) a (b - a) (a + h - b)
 have e2:=sm_add (fun i => (P i).1 * (stp (D i)).2) (a + h) (b - a) (a + h - b)
 have e3:=sm_add (fun i => (P i).1 * (stp (D i)).2) b (c - b) (a + h - c)
 have e4:=sm_add (fun i => (P i).1 * (stp (D i)).2) (b + h) (c - b) (a + h - c)
 rw [show b - a + (a + h - b) = h from by omega] at e1 e2
 rw [show c - b + (a + h - c) = a + h - b from by omega] at e3 e4
 rw [show a + (b - a) = b from by omega] at e1
 rw [show a + h + (b - a) = b + h from by omega] at e2
 rw [show b + (c - b) = c from by omega] at e3
 rw [show b + h + (c - b) = c + h from by omega] at e4
 obtain ⟨p1,p2⟩:=s1.ends w
 obtain ⟨p3,p4⟩:=s2.ends w
 obtain ⟨p5,p6⟩:=s3.ends w
 rw [show a + h + h = a + (h + h) from by omega,w.per] at p6
 have x1:(P (a + h)).1 = (P b).1 - u.1:=congrArg Prod.fst p1
 have x2:(P (b + h)).1 = (P a).1 - u.1:=congrArg Prod.fst p2
 have x3:(P (b + h)).1 = (P c).1 - v.1:=congrArg Prod.fst p3
 have x6:(P a).1 = (P c).1 - x.1:=congrArg Prod.fst p6
 have y1:(P (a + h)).2 = (P b).2 - u.2:=congrArg Prod.snd p1
 have y2:(P (b + h)).2 = (P a).2 - u.2:=congrArg Prod.snd p2
 have y3:(P (b + h)).2 = (P c).2 - v.2:=congrArg Prod.snd p3
 have y6:(P a).2 = (P c).2 - x.2:=congrArg Prod.snd p6
 have ev:v.1 = u.1 + x.1:=by omega
 refine ⟨Prod.ext ev (by show v.2 = u.2 + x.2; omega),?_⟩
 rw [ev,Int.add_mul] at z2
 have k1:u.1 * ((P b).2 - (P a).2) + u.1 * ((P c).2 - (P b).2) = u.1 * x.2:=by rw [← Int.mul_add]; congr 1; omega
 have k2:x.1 * ((P c).2 - (P b).2) + x.1 * ((P (a + h)).2 - (P c).2) = -(u.2 * x.1):=by rw [← Int.mul_add,Int.mul_comm u.2 x.1,← Int.mul_neg]; congr 1; omega
 unfold crs
 omega
end
section
variable {S:List Pt}
theorem rnd_perm (g:Dg S) (nd:S.Nodup) {q:Pt} {t:Nat} (hq:Crn S q) (r:Rnd S q t):((List.range t).map (itr S q)).Perm (crnK S S):=by
 refine (List.perm_ext_iff_of_nodup ?_ (crnK_nd g nd fun _ h => h)).mpr fun p => ?_
 ·rw [List.nodup_iff_pairwise_ne,List.pairwise_map]
  refine List.Pairwise.imp_of_mem (fun {a b} _ hb hlt => r.inj a b hlt (List.mem_range.mp hb)) List.pairwise_lt_range
 ·rw [mem_crnK,List.mem_map]
  constructor
  ·rintro ⟨i,_,rfl⟩
   obtain ⟨d,e⟩:=crn_itr hq i
   exact ⟨_,e.l,d,e.lt,by rw [← sd_r e.lt,← sd_of e.lt]; exact e.r,sd_of e.lt⟩
  ·rintro ⟨c,hc,d,h1,h2,rfl⟩
   obtain ⟨m,hm,e⟩:=r.all _ ⟨d,sd_edge hc h1 h2⟩
   exact ⟨m,List.mem_range.mpr hm,e.symm⟩
def sdF (S:List Pt) (F:Pt→Nat→Int) (c:Pt) (d:Nat):Int:=if (!decide (sdO c d∈S)) = true then F (sdP c d) d else 0
theorem sum_sides (g:Dg S) (F:Pt→Nat→Int) {c:Pt} (hc:c∈S):((((List.range 4).filter fun d => !decide (sdO c d∈S)).map (sdP c)).map fun p => F p (outD S p)).sum = sdF S F c 0 + (sdF S F c 1 + (sdF S F c 2 + (sdF S F c 3 + 0))):=by
 rw [List.map_map]
 have e:(((List.range 4).filter fun d => !decide (sdO c d∈S)).map ((fun p => F p (outD S p))∘sdP c)) = (((List.range 4).filter fun d => !decide (sdO c d∈S)).map fun d => F (sdP c d) d):=by
  refine List.map_congr_left fun d hd => ?_
  have k:=List.mem_filter.mp hd
  have ed:=sd_edge hc (List.mem_range.mp k.1) (by simpa using k.2)
  show F (sdP c d) (outD S (sdP c d)) = _
  rw [edge_one g (outD_edge ⟨d,ed⟩) ed]
 rw [e,sum_filt (fun d => !decide (sdO c d∈S)) (fun d => F (sdP c d) d)]
 rfl
theorem sum_all (g:Dg S) (F:Pt→Nat→Int):∀ {cs:List Pt},(∀ c∈cs,c∈S)→((crnK S cs).map fun p => F p (outD S p)).sum = (cs.map fun c => sdF S F c 0 + (sdF S F c 1 + (sdF S F c 2 + (sdF S F c 3 + 0)))).sum
 | [],_ => rfl
 | c::cs,h => by
  have e:crnK S (c::cs) = ((List.range 4).filter fun d => !decide (sdO c d∈S)).map (sdP c)++crnK S cs:=by simp [crnK]
  rw [e,List.map_append,List.sum_append,sum_sides g F (h c (by simp)),sum_all g F fun x hx => h x (by simp [hx]),List.map_cons,List.sum_cons]
theorem sm_round (g:Dg S) (nd:S.Nodup) {q:Pt} {t:Nat} (hq:Crn S q) (r:Rnd S q t) (F:Pt→Nat→Int):sm (fun i => F (itr S q i) (outD S (itr S q i))) 0 t = (S.map fun c => sdF S F c 0 + (sdF S F c 1 + (sdF S F c 2 + (sdF S F c 3 + 0)))).sum:=by
 have e1:=sumP ((rnd_perm g nd hq r).map fun p => F p (outD S p))
 rw [List.map_map] at e1
 rw [sm_list,← sum_all g F fun _ h => h,← e1]
 rfl
theorem sum_move (nd:S.Nodup) (e:Pt) (φ:Pt→Int):(S.map fun c => if decide (mvP e c∈S) = true then φ (mvP e c) else 0).sum = (S.map fun c => if decide (dif c e∈S) = true then φ c else 0).sum:=by
 rw [← sum_filt (fun c:Pt => decide (mvP e c∈S)) (fun c => φ (mvP e c)),← sum_filt (fun c:Pt => decide (dif c e∈S)) φ]
 have back:∀ c,dif (mvP e c) e = c:=fun c => Prod.ext (by show c.1 + e.1 - e.1 = c.1; omega) (by show c.2 + e.2 - e.2 = c.2; omega)
 have forth:∀ c,mvP e (dif c e) = c:=fun c => Prod.ext (by show c.1 - e.1 + e.1 = c.1; omega) (by show c.2 - e.2 + e.2 = c.2; omega)
 have hp:((S.filter fun c => decide (mvP e c∈S)).map (mvP e)).Perm (S.filter fun c => decide (dif c e∈S)):=by
  refine (List.perm_ext_iff_of_nodup ?_ (nd.filter _)).mpr fun q => ?_
  ·rw [List.nodup_iff_pairwise_ne,List.pairwise_map]
   exact (List.nodup_iff_pairwise_ne.mp (nd.filter _)).imp fun {a b} hne z => hne (by rw [← back a,z,back])
  ·rw [List.mem_map,List.mem_filter,decide_eq_true_iff]
   constructor
   ·rintro ⟨c,hc,rfl⟩
    have:=List.mem_filter.mp hc
    exact ⟨by simpa using this.2,by rw [back]; exact this.1⟩
   ·rintro ⟨h1,h2⟩
    exact ⟨dif q e,List.mem_filter.mpr ⟨h2,by rw [decide_eq_true_iff,forth]; exact h1⟩,forth q⟩
 have:=sumP (hp.map φ)
 rw [List.map_map] at this
 exact this
theorem sum_green (nd:S.Nodup) (e:Pt) (φ:Pt→Int):(S.map fun c => (if decide (mvP e c∈S) = true then 0 else φ (mvP e c)) + (if decide (dif c e∈S) = true then 0 else -φ c)).sum = (S.map fun c => φ (mvP e c)).sum - (S.map φ).sum:=by
 have e1:=sum_move nd e φ
 have e2:(S.map fun c => ((if decide (mvP e c∈S) = true then 0 else φ (mvP e c)) + (if decide (dif c e∈S) = true then 0 else -φ c)) + ((if decide (mvP e c∈S) = true then φ (mvP e c) else 0) + φ c)).sum = (S.map fun c => φ (mvP e c) + (if decide (dif c e∈S) = true then φ c else 0)).sum:=by
  congr 1
  refine List.map_congr_left fun c _ => ?_
  cases decide (mvP e c∈S) <;> cases decide (dif c e∈S) <;> simp <;> omega
 rw [sum_add,sum_add (fun c:Pt => if decide (mvP e c∈S) = true then φ (mvP e c) else 0) φ,sum_add (fun c:Pt => φ (mvP e c)) fun c => if decide (dif c e∈S) = true then φ c else 0] at e2
 omega
def FU (φ:Pt→Int) (p:Pt) (d:Nat):Int:=if d = 1 then φ (p.1,p.2) else if d = 3 then -φ (p.1,p.2 - 1) else 0
def FV (φ:Pt→Int) (p:Pt) (d:Nat):Int:=if d = 2 then φ (p.1 - 1,p.2) else if d = 0 then -φ (p.1,p.2) else 0
theorem greenU (g:Dg S) (nd:S.Nodup) {q:Pt} {t:Nat} (hq:Crn S q) (r:Rnd S q t) (φ:Pt→Int):sm (fun i => FU φ (itr S q i) (outD S (itr S q i))) 0 t = (S.map fun c => φ (mvP (1,0) c)).sum - (S.map φ).sum:=by
 rw [sm_round g nd hq r,← sum_green nd (1,0) φ]
 congr 1
 refine List.map_congr_left fun c _ => ?_
 have m1:mvP (1,0) c = (c.1 + 1,c.2):=Prod.ext rfl (by show c.2 + 0 = c.2; omega)
 have m2:dif c (1,0) = (c.1 - 1,c.2):=Prod.ext rfl (by show c.2 - 0 = c.2; omega)
 rw [m1,m2]
 have f0:sdF S (FU φ) c 0 = 0:=by unfold sdF; rw [show FU φ (sdP c 0) 0 = 0 from rfl]; split <;> rfl
 have f2:sdF S (FU φ) c 2 = 0:=by unfold sdF; rw [show FU φ (sdP c 2) 2 = 0 from rfl]; split <;> rfl
 have f1:sdF S (FU φ) c 1 = if (!decide ((c.1 + 1,c.2)∈S)) = true then φ (c.1 + 1,c.2) else 0:=rfl
 have f3:sdF S (FU φ) c 3 = if (!decide ((c.1 - 1,c.2)∈S)) = true then -φ (c.1,c.2 + 1 - 1) else 0:=rfl
 rw [f0,f1,f2,f3,show c.2 + 1 - 1 = c.2 from by omega]
 cases decide ((c.1 + 1,c.2)∈S) <;> cases decide ((c.1 - 1,c.2)∈S) <;> simp <;> omega
theorem greenV (g:Dg S) (nd:S.Nodup) {q:Pt} {t:Nat} (hq:Crn S q) (r:Rnd S q t) (φ:Pt→Int):sm (fun i => FV φ (itr S q i) (outD S (itr S q i))) 0 t = (S.map fun c => φ (mvP (0,1) c)).sum - (S.map φ).sum:=by
 rw [sm_round g nd hq r,← sum_green nd (0,1) φ]
 congr 1
 refine List.map_congr_left fun c _ => ?_
 have m1:mvP (0,1) c = (c.1,c.2 + 1):=Prod.ext (by show c.1 + 0 = c.1; omega) rfl
 have m2:dif c (0,1) = (c.1,c.2 - 1):=Prod.ext (by show c.1 - 0 = c.1; omega) rfl
 rw [m1,m2]
 have f1:sdF S (FV φ) c 1 = 0:=by unfold sdF; rw [show FV φ (sdP c 1) 1 = 0 from rfl]; split <;> rfl
 have f3:sdF S (FV φ) c 3 = 0:=by unfold sdF; rw [show FV φ (sdP c 3) 3 = 0 from rfl]; split <;> rfl
 have f2:sdF S (FV φ) c 2 = if (!decide ((c.1,c.2 + 1)∈S)) = true then φ (c.1 + 1 - 1,c.2 + 1) else 0:=rfl
 have f0:sdF S (FV φ) c 0 = if (!decide ((c.1,c.2 - 1)∈S)) = true then -φ c else 0:=rfl
 rw [f0,f1,f2,f3,show c.1 + 1 - 1 = c.1 from by omega]
 cases decide ((c.1,c.2 + 1)∈S) <;> cases decide ((c.1,c.2 - 1)∈S) <;> simp <;> omega
theorem FU_pair {φ:Pt→Int} {v:Pt} (h:∀ c,φ (dif c v) = φ c) (q:Pt) (d:Nat) (hd:d < 4):FU φ q d + FU φ (dif (go1 q d) v) (od d) = 0:=by
 rcases c4 hd with rfl | rfl | rfl | rfl
 ·rfl
 ·show φ (q.1,q.2) + -φ (q.1 + 0 - v.1,q.2 + 1 - v.2 - 1) = 0
  have:=h (q.1,q.2)
  rw [show dif (q.1,q.2) v = (q.1 + 0 - v.1,q.2 + 1 - v.2 - 1) from Prod.ext (by show q.1 - v.1 = _; omega) (by show q.2 - v.2 = _; omega)] at this
  omega
 ·rfl
 ·show -φ (q.1,q.2 - 1) + φ (q.1 + 0 - v.1,q.2 + -1 - v.2) = 0
  have:=h (q.1,q.2 - 1)
  rw [show dif (q.1,q.2 - 1) v = (q.1 + 0 - v.1,q.2 + -1 - v.2) from Prod.ext (by show q.1 - v.1 = _; omega) (by show q.2 - 1 - v.2 = _; omega)] at this
  omega
theorem FV_pair {φ:Pt→Int} {v:Pt} (h:∀ c,φ (dif c v) = φ c) (q:Pt) (d:Nat) (hd:d < 4):FV φ q d + FV φ (dif (go1 q d) v) (od d) = 0:=by
 rcases c4 hd with rfl | rfl | rfl | rfl
 ·show -φ (q.1,q.2) + φ (q.1 + 1 - v.1 - 1,q.2 + 0 - v.2) = 0
  have:=h (q.1,q.2)
  rw [show dif (q.1,q.2) v = (q.1 + 1 - v.1 - 1,q.2 + 0 - v.2) from Prod.ext (by show q.1 - v.1 = _; omega) (by show q.2 - v.2 = _; omega)] at this
  omega
 ·rfl
 ·show φ (q.1 - 1,q.2) + -φ (q.1 + -1 - v.1,q.2 + 0 - v.2) = 0
  have:=h (q.1 - 1,q.2)
  rw [show dif (q.1 - 1,q.2) v = (q.1 + -1 - v.1,q.2 + 0 - v.2) from Prod.ext (by show q.1 - 1 - v.1 = _; omega) (by show q.2 - v.2 = _; omega)] at this
  omega
 ·rfl
end
abbrev Tr:=Int×Int×Int
def rst (g:Tr) (p:Pt):Pt:=(rsX g.1 g.2.1 g.2.2 p.1 p.2,rsY g.2.2 p.2)
def Dst (g:Tr) (ps:List Pt):Prop:=(ps.map (rst g)).Nodup
instance (g:Tr) (ps:List Pt):Decidable (Dst g ps):=by unfold Dst; exact inferInstance
def GrT (g:Tr):Prop:=GrOk g.1 g.2.1 g.2.2
def boxL (a d:Nat):List Pt:=((List.range a).map fun x:Nat => (List.range d).map fun y:Nat => ((x:Int),(y:Int))).flatten
theorem boxL_len (a d:Nat):(boxL a d).length = a * d:=by
 unfold boxL
 rw [List.length_flatten,List.map_map,show ((List.length∘fun x:Nat => (List.range d).map fun y:Nat => ((x:Int),(y:Int))):Nat→Nat) = fun _ => d from by funext x; simp,List.map_const',List.sum_replicate_nat,List.length_range]
theorem box_cnt {g:Tr} (hg:GrT g):(((boxL g.1.toNat g.2.2.toNat).length:Nat):Int) = g.1 * g.2.2:=by
 obtain ⟨a1,_,_,a4,_,_⟩:=hg
 rw [boxL_len,Int.natCast_mul,Int.toNat_of_nonneg (by omega),Int.toNat_of_nonneg (by omega)]
theorem rst_eq {g:Tr} (hg:GrT g) {p q:Pt}:rst g p = rst g q↔In2 (g.1,0) (g.2.1,g.2.2) (dif q p):=by
 have k:=rs_eq (x:=p.1) (y:=p.2) (x':=q.1) (y':=q.2) hg
 constructor
 ·intro e
  obtain ⟨i,j,h1,h2⟩:=k.mp ⟨congrArg Prod.fst e,congrArg Prod.snd e⟩
  exact ⟨i,j,h1,by show q.2 - p.2 = i * 0 + j * g.2.2; rw [Int.mul_zero,Int.zero_add]; exact h2⟩
 ·rintro ⟨i,j,h1,h2⟩
  have h2':q.2 - p.2 = i * 0 + j * g.2.2:=h2
  rw [Int.mul_zero,Int.zero_add] at h2'
  obtain ⟨e1,e2⟩:=k.mpr ⟨i,j,h1,h2'⟩
  exact Prod.ext e1 e2
theorem rst_mv {g:Tr} (hg:GrT g) {v:Pt} (hv:In2 (g.1,0) (g.2.1,g.2.2) v) (c:Pt):rst g (dif c v) = rst g c:=by
 rw [rst_eq hg,show dif c (dif c v) = v from Prod.ext (by show c.1 - (c.1 - v.1) = v.1; omega) (by show c.2 - (c.2 - v.2) = v.2; omega)]
 exact hv
def clI (g:Tr) (z c:Pt):Int:=if rst g c = rst g z then 1 else 0
theorem clI_mv {g:Tr} (hg:GrT g) (e z c:Pt):clI g (mvP e z) (mvP e c) = clI g z c:=by
 unfold clI
 have:(rst g (mvP e c) = rst g (mvP e z))↔(rst g c = rst g z):=by
  rw [rst_eq hg,rst_eq hg,show dif (mvP e z) (mvP e c) = dif z c from Prod.ext (by show z.1 + e.1 - (c.1 + e.1) = z.1 - c.1; omega) (by show z.2 + e.2 - (c.2 + e.2) = z.2 - c.2; omega)]
 by_cases h:rst g c = rst g z
 ·rw [if_pos h,if_pos (this.mpr h)]
 ·rw [if_neg h,if_neg (fun z => h (this.mp z))]
theorem sum_0:∀ l:List Pt,(l.map fun _ => (0:Int)).sum = 0
 | [] => rfl
 | _::l => by rw [List.map_cons,List.sum_cons,sum_0 l]; rfl
theorem clI_nn (g:Tr) (z:Pt):∀ l:List Pt,0≤(l.map (clI g z)).sum∧((l.map (clI g z)).sum = 0→∀ c∈l,rst g c≠rst g z)
 | [] => ⟨Int.le_refl _,fun _ c hc => by simp at hc⟩
 | c::l => by
  obtain ⟨h1,h2⟩:=clI_nn g z l
  rw [List.map_cons,List.sum_cons]
  by_cases h:rst g c = rst g z
  ·have e:clI g z c = 1:=by unfold clI; rw [if_pos h]
   rw [e]
   exact ⟨by omega,fun k => by omega⟩
  ·have e:clI g z c = 0:=by unfold clI; rw [if_neg h]
   rw [e]
   refine ⟨by omega,fun k x hx => ?_⟩
   rcases List.mem_cons.mp hx with rfl | hx
   ·exact h
   ·exact h2 (by omega) x hx
section
variable {S:List Pt} {q:Pt} {t:Nat} {g:Tr}
def Bal (S:List Pt) (q:Pt) (t:Nat) (g:Tr):Prop:=∀ F:Pt→Nat→Int,(∀ v,In2 (g.1,0) (g.2.1,g.2.2) v→∀ p d,d < 4→F p d + F (dif (go1 p d) v) (od d) = 0)→sm (fun i => F (itr S q i) (outD S (itr S q i))) 0 t = 0
theorem tile_step (dg:Dg S) (nd:S.Nodup) (hq:Crn S q) (r:Rnd S q t) (hg:GrT g) (b:Bal S q t g) (z:Pt):(S.map (clI g (mvP (1,0) z))).sum = (S.map (clI g z)).sum∧(S.map (clI g (mvP (0,1) z))).sum = (S.map (clI g z)).sum:=by
 have per:∀ w v,In2 (g.1,0) (g.2.1,g.2.2) v→∀ c,clI g w (dif c v) = clI g w c:=fun w v hv c => by unfold clI; rw [rst_mv hg hv]
 have e1:=greenU dg nd hq r (clI g (mvP (1,0) z))
 rw [b _ fun v hv => FU_pair (per _ v hv)] at e1
 have e2:=greenV dg nd hq r (clI g (mvP (0,1) z))
 rw [b _ fun v hv => FV_pair (per _ v hv)] at e2
 simp only [clI_mv hg] at e1 e2
 exact ⟨by show _ = (S.map fun c => clI g z c).sum; omega,by show _ = (S.map fun c => clI g z c).sum; omega⟩
theorem tile_same (dg:Dg S) (nd:S.Nodup) (hq:Crn S q) (r:Rnd S q t) (hg:GrT g) (b:Bal S q t g):∀ (m n:Nat) (z:Pt),(S.map (clI g (z.1 + m,z.2 + n))).sum = (S.map (clI g z)).sum
 | 0,0,z => by rw [show (z.1 + ((0:Nat):Int),z.2 + ((0:Nat):Int)) = z from Prod.ext (by show z.1 + 0 = z.1; omega) (by show z.2 + 0 = z.2; omega)]
 | 0,n + 1,z => by
  rw [← tile_same dg nd hq r hg b 0 n z,← (tile_step dg nd hq r hg b (z.1 + ((0:Nat):Int),z.2 + (n:Int))).2]
  rw [show mvP (0,1) (z.1 + ((0:Nat):Int),z.2 + (n:Int)) = (z.1 + ((0:Nat):Int),z.2 + ((n + 1:Nat):Int)) from Prod.ext (by show z.1 + ((0:Nat):Int) + 0 = z.1 + ((0:Nat):Int); omega) (by show z.2 + (n:Int) + 1 = z.2 + ((n + 1:Nat):Int); omega)]
 | m + 1,n,z => by
  rw [← tile_same dg nd hq r hg b m n z,← (tile_step dg nd hq r hg b (z.1 + (m:Int),z.2 + (n:Int))).1]
  rw [show mvP (1,0) (z.1 + (m:Int),z.2 + (n:Int)) = (z.1 + ((m + 1:Nat):Int),z.2 + (n:Int)) from Prod.ext (by show z.1 + (m:Int) + 1 = z.1 + ((m + 1:Nat):Int); omega) (by show z.2 + (n:Int) + 0 = z.2 + (n:Int); omega)]
theorem tile_all (dg:Dg S) (nd:S.Nodup) (hq:Crn S q) (r:Rnd S q t) (hg:GrT g) (b:Bal S q t g) (z:Pt):rst g z∈S.map (rst g):=by
 obtain ⟨d,e⟩:=hq
 have hc:=e.l
 generalize lft q d = c at hc
 have low:∀ w:Pt,(S.map (clI g w)).sum = (S.map (clI g (min w.1 c.1,min w.2 c.2))).sum:=by
  intro w
  have:=tile_same dg nd ⟨d,e⟩ r hg b (w.1 - min w.1 c.1).toNat (w.2 - min w.2 c.2).toNat (min w.1 c.1,min w.2 c.2)
  rw [← this]
  congr 3
  exact Prod.ext (by show w.1 = min w.1 c.1 + _; omega) (by show w.2 = min w.2 c.2 + _; omega)
 have low2:(S.map (clI g c)).sum = (S.map (clI g (min z.1 c.1,min z.2 c.2))).sum:=by
  have:=tile_same dg nd ⟨d,e⟩ r hg b (c.1 - min z.1 c.1).toNat (c.2 - min z.2 c.2).toNat (min z.1 c.1,min z.2 c.2)
  rw [← this]
  congr 3
  exact Prod.ext (by show c.1 = min z.1 c.1 + _; omega) (by show c.2 = min z.2 c.2 + _; omega)
 have same:=(low z).trans low2.symm
 apply Classical.byContradiction
 intro hz
 have z0:(S.map (clI g z)).sum = 0:=by
  have:S.map (clI g z) = S.map fun _ => (0:Int):=List.map_congr_left fun x hx => by
   unfold clI
   rw [if_neg fun e => hz (by rw [← e]; exact List.mem_map_of_mem hx)]
  rw [this]
  exact sum_0 S
 exact (clI_nn g c S).2 (by rw [← same]; exact z0) c hc rfl
end
theorem nodup_by {α:Type} [DecidableEq α]:∀ {l m:List α},m.Nodup→(∀ x∈m,x∈l)→l.length≤m.length→l.Nodup
 | [],_,_,_,_ => List.nodup_nil
 | x::l,m,nd,hs,hl => by
  have hx:x∉l:=fun hx => by
   have:=sub_len (xs:=m) (ys:=l) nd fun y hy => by
    rcases List.mem_cons.mp (hs y hy) with rfl | h
    ·exact hx
    ·exact h
   rw [List.length_cons] at hl; omega
  refine List.nodup_cons.mpr ⟨hx,nodup_by (m:=m.erase x) (nd.erase x) (fun y hy => ?_) ?_⟩
  ·have h2:=(nd.mem_erase_iff).mp hy
   rcases List.mem_cons.mp (hs y h2.2) with h | h
   ·exact absurd h h2.1
   ·exact h
  ·rw [List.length_cons] at hl
   by_cases h:x∈m
   ·rw [List.length_erase_of_mem h]; omega
   ·rw [List.erase_of_not_mem h]; omega
theorem boxL_nd (a d:Nat):(boxL a d).Nodup:=by
 unfold boxL
 rw [List.nodup_iff_pairwise_ne,List.pairwise_flatten]
 refine ⟨fun l hl => ?_,?_⟩
 ·obtain ⟨x,_,rfl⟩:=List.mem_map.mp hl
  rw [List.pairwise_map]
  exact (List.nodup_iff_pairwise_ne.mp List.nodup_range).imp fun {i j} hne z => hne (by have:=(Prod.mk.inj z).2; omega)
 ·rw [List.pairwise_map]
  refine (List.nodup_iff_pairwise_ne.mp List.nodup_range).imp fun {i j} hne u hu v hv z => hne ?_
  obtain ⟨_,_,rfl⟩:=List.mem_map.mp hu
  obtain ⟨_,_,rfl⟩:=List.mem_map.mp hv
  have:=(Prod.mk.inj z).1
  omega
theorem mem_boxL {a b d:Int} {p:Pt} (hg:GrOk a b d) (hp:p∈boxL a.toNat d.toNat):rst (a,b,d) p = p:=by
 unfold boxL at hp
 obtain ⟨l,hl,hm⟩:=List.mem_flatten.mp hp
 obtain ⟨x,hx,rfl⟩:=List.mem_map.mp hl
 obtain ⟨y,hy,rfl⟩:=List.mem_map.mp hm
 rw [List.mem_range] at hx hy
 have e:((y:Nat):Int) / d = 0:=Int.ediv_eq_zero_of_lt (by omega) (by omega)
 unfold rst rsX rsY
 dsimp only
 rw [e,Int.zero_mul,Int.sub_zero,Int.emod_eq_of_lt (by omega) (by omega),Int.emod_eq_of_lt (by omega) (by omega)]
theorem tile_dst {S:List Pt} {g:Tr} (hg:GrT g) (hn:g.1 * g.2.2 = S.length) (h:∀ z,rst g z∈S.map (rst g)):Dst g S:=by
 obtain ⟨a,b,d⟩:=g
 have e:=box_cnt hg
 refine nodup_by (boxL_nd a.toNat d.toNat) (fun p hp => ?_) (by rw [List.length_map]; dsimp only at e hn; omega)
 have:=h p
 rw [mem_boxL hg hp] at this
 exact this
def pw (W:List Lt) (i:Nat):Pt:=endp (0,0) (W.take (i % W.length))
theorem pw_lt {W:List Lt} {i:Nat} (h:i < W.length):pw W i = endp (0,0) (W.take i):=by
 unfold pw; rw [Nat.mod_eq_of_lt h]
theorem pw_2 {W:List Lt} {i:Nat} (hW:endp (0,0) W = (0,0)) (h:i≤W.length + W.length):endp (0,0) ((W++W).take i) = pw W i:=by
 by_cases z:i < W.length
 ·rw [pw_lt z,List.take_append_of_le_length (by omega)]
 ·rw [List.take_append,List.take_of_length_le (by omega:W.length≤i),endp_app,hW]
  by_cases y:i < W.length + W.length
  ·unfold pw
   rw [Nat.mod_eq_sub_mod (by omega),Nat.mod_eq_of_lt (by omega)]
  ·have:i = W.length + W.length:=by omega
   subst this
   unfold pw
   rw [Nat.add_mod_right,Nat.mod_self,List.take_of_length_le (by omega),hW]; rfl
def sh (W:List Lt) (L:Int) (s:Int×Int):Pt:=dif (pw W s.1.toNat) (pw W (s.2 + L).toNat)
theorem od_od {d:Nat} (hd:d < 4):od (od d) = d:=by rcases c4 hd with rfl | rfl | rfl | rfl <;> rfl
def upc (c q:Pt) (d:Nat):Int:=if d = 1 then (if q.2 = c.2∧c.1 < q.1 then 1 else 0) else if d = 3 then (if q.2 = c.2 + 1∧c.1 < q.1 then -1 else 0) else 0
def wn (P:Nat→Pt) (D:Nat→Nat) (n:Nat) (c:Pt):Int:=sm (fun i => upc c (P i) (D i)) 0 n
def sg (p:Pt) (d:Nat) (q:Pt) (e:Nat):Int:=(if q = p∧e = d then 1 else 0) - (if q = go1 p d∧e = od d then 1 else 0)
def sgn (P:Nat→Pt) (D:Nat→Nat) (n:Nat) (p:Pt) (d:Nat):Int:=sm (fun i => sg p d (P i) (D i)) 0 n
theorem sm_sub (F G:Nat→Int) (a:Nat):∀ n,sm (fun i => F i - G i) a n = sm F a n - sm G a n
 | 0 => rfl
 | n + 1 => by
  show sm (fun i => F i - G i) a n + (F (a + n) - G (a + n)) = sm F a n + F (a + n) - (sm G a n + G (a + n))
  rw [sm_sub F G a n]; omega
theorem pt_ite {q p:Pt}:q = p↔q.1 = p.1∧q.2 = p.2:=⟨fun h => by rw [h]; exact ⟨rfl,rfl⟩,fun h => Prod.ext h.1 h.2⟩
theorem go_back (p:Pt) {d:Nat} (hd:d < 4):go1 (go1 p d) (od d) = p:=by
 rcases c4 hd with rfl | rfl | rfl | rfl
 ·exact Prod.ext (by show p.1 + 1 + -1 = p.1; omega) (by show p.2 + 0 + 0 = p.2; omega)
 ·exact Prod.ext (by show p.1 + 0 + 0 = p.1; omega) (by show p.2 + 1 + -1 = p.2; omega)
 ·exact Prod.ext (by show p.1 + -1 + 1 = p.1; omega) (by show p.2 + 0 + 0 = p.2; omega)
 ·exact Prod.ext (by show p.1 + 0 + 0 = p.1; omega) (by show p.2 + -1 + 1 = p.2; omega)
theorem sg_od (p:Pt) {d:Nat} (hd:d < 4) (q:Pt) (e:Nat):sg (go1 p d) (od d) q e = - sg p d q e:=by
 unfold sg
 rw [go_back p hd,od_od hd]; omega
section
variable {P:Nat→Pt} {D:Nat→Nat} {n:Nat}
theorem sm_neg (F:Nat→Int) (a:Nat):∀ n,sm (fun i => - F i) a n = - sm F a n
 | 0 => rfl
 | n + 1 => by
  show sm (fun i => - F i) a n + - F (a + n) = -(sm F a n + F (a + n))
  rw [sm_neg F a n]; omega
theorem sgn_od (p:Pt) {d:Nat} (hd:d < 4):sgn P D n (go1 p d) (od d) = - sgn P D n p d:=by
 unfold sgn
 rw [← sm_neg]
 exact sm_congr fun k _ => sg_od p hd _ _
theorem wn_v (p:Pt):wn P D n (lft p 1) - wn P D n (rgt p 1) = sgn P D n p 1:=by
 unfold wn sgn
 rw [← sm_sub]
 refine sm_congr fun k _ => ?_
 generalize P (0 + k) = q
 generalize D (0 + k) = e
 rw [lft1,rgt1]
 unfold upc sg
 simp only [pt_ite,go1,stp1]
 have ho:od 1 = 3:=rfl
 rw [ho]
 by_cases h1:e = 1
 ·subst h1
  simp only [if_true]
  (repeat' split) <;> first | omega | grind
 ·by_cases h3:e = 3
  ·subst h3
   simp only [if_neg h1,if_true]
   (repeat' split) <;> first | omega | grind
  ·simp only [if_neg h1,if_neg h3]
   (repeat' split) <;> first | omega | grind
theorem sm_sum (F G:Nat→Int) (a:Nat):∀ n,sm (fun i => F i + G i) a n = sm F a n + sm G a n
 | 0 => rfl
 | n + 1 => by
  show sm (fun i => F i + G i) a n + (F (a + n) + G (a + n)) = sm F a n + F (a + n) + (sm G a n + G (a + n))
  rw [sm_sum F G a n]; omega
theorem wn_h (go:∀ i,P (i + 1) = go1 (P i) (D i)) (lt:∀ i,D i < 4) (cl:P n = P 0) (p:Pt):wn P D n (lft p 0) - wn P D n (rgt p 0) = sgn P D n p 0:=by
 have tel:=sm_tel (fun i => if p.1 < (P i).1∧(P i).2 = p.2 then (1:Int) else 0) (-1) 0 n
 rw [Nat.zero_add,cl,Int.sub_self,Int.mul_zero] at tel
 have key:sm (fun i => upc (lft p 0) (P i) (D i) - upc (rgt p 0) (P i) (D i)) 0 n = sm (fun i => sg p 0 (P i) (D i) + -1 * ((if p.1 < (P (i + 1)).1∧(P (i + 1)).2 = p.2 then (1:Int) else 0) - (if p.1 < (P i).1∧(P i).2 = p.2 then (1:Int) else 0))) 0 n:=by
  refine sm_congr fun k _ => ?_
  rw [go]
  have hd:=lt (0 + k)
  generalize P (0 + k) = q
  generalize D (0 + k) = e at hd
  rw [lft0,rgt0]
  unfold upc sg
  simp only [pt_ite,go1,stp0]
  have ho:od 0 = 2:=rfl
  rw [ho]
  rcases c4 hd with rfl | rfl | rfl | rfl
  ·simp only [stp0]; (repeat' split) <;> first | omega | grind
  ·simp only [stp1]; (repeat' split) <;> first | omega | grind
  ·simp only [stp2]; (repeat' split) <;> first | omega | grind
  ·simp only [stp3]; (repeat' split) <;> first | omega | grind
 unfold wn sgn
 rw [← sm_sub,key,sm_sum,tel,Int.add_zero]
theorem wn_side (go:∀ i,P (i + 1) = go1 (P i) (D i)) (lt:∀ i,D i < 4) (cl:P n = P 0) (p:Pt) {d:Nat} (hd:d < 4):wn P D n (lft p d) - wn P D n (rgt p d) = sgn P D n p d:=by
 rcases c4 hd with rfl | rfl | rfl | rfl
 ·exact wn_h go lt cl p
 ·exact wn_v p
 ·have h:=wn_h go lt cl (go1 p 2)
  have e:=sgn_od (P:=P) (D:=D) (n:=n) p (d:=2) (by omega)
  have e0:od 2 = 0:=rfl
  rw [e0] at e
  have l1:lft (go1 p 2) 0 = rgt p 2:=Prod.ext (by show p.1 + -1 = p.1 - 1; omega) (by show p.2 + 0 = p.2; omega)
  have l2:rgt (go1 p 2) 0 = lft p 2:=Prod.ext (by show p.1 + -1 = p.1 - 1; omega) (by show p.2 + 0 - 1 = p.2 - 1; omega)
  rw [l1,l2,e] at h
  omega
 ·have h:=wn_v (P:=P) (D:=D) (n:=n) (go1 p 3)
  have e:=sgn_od (P:=P) (D:=D) (n:=n) p (d:=3) (by omega)
  have e0:od 3 = 1:=rfl
  rw [e0] at e
  have l1:lft (go1 p 3) 1 = rgt p 3:=Prod.ext (by show p.1 + 0 - 1 = p.1 - 1; omega) (by show p.2 + -1 = p.2 - 1; omega)
  have l2:rgt (go1 p 3) 1 = lft p 3:=Prod.ext (by show p.1 + 0 = p.1; omega) (by show p.2 + -1 = p.2 - 1; omega)
  rw [l1,l2,e] at h
  omega
end
structure Smp (P:Nat→Pt) (D:Nat→Nat) (n:Nat):Prop where
 go:∀ i,P (i + 1) = go1 (P i) (D i)
 lt:∀ i,D i < 4
 per:∀ i,P (i + n) = P i
 pd:∀ i,D (i + n) = D i
 inj:∀ i j,i < n→j < n→P i = P j→i = j
 n3:3≤n
theorem per_mod {α:Type} {f:Nat→α} {n:Nat} (h:∀ i,f (i + n) = f i) (i:Nat):f (i % n) = f i:=by
 have key:∀ k m,f (m + k * n) = f m:=by
  intro k
  induction k with
  | zero => intro m; rw [Nat.zero_mul]; rfl
  | succ k ih => intro m; rw [show m + (k + 1) * n = m + k * n + n from by rw [Nat.add_mul]; omega,h,ih]
 have:=key (i / n) (i % n)
 rw [show i % n + i / n * n = i from by rw [Nat.mul_comm]; exact Nat.mod_add_div i n] at this
 exact this.symm
theorem sm_one {m:Nat}:∀ {n:Nat},sm (fun j => if j = m then (1:Int) else 0) 0 n = if m < n then 1 else 0
 | 0 => by rw [if_neg (by omega)]; rfl
 | n + 1 => by
  show sm _ 0 n + (if 0 + n = m then (1:Int) else 0) = _
  rw [sm_one]
  (repeat' split) <;> omega
section
variable {P:Nat→Pt} {D:Nat→Nat} {n:Nat}
theorem Smp.idx (s:Smp P D n) {i j:Nat} (h:P i = P j):i % n = j % n:=by
 have hn:=s.n3
 rw [← per_mod s.per i,← per_mod s.per j] at h
 exact s.inj _ _ (Nat.mod_lt _ (by omega)) (Nat.mod_lt _ (by omega)) h
theorem Smp.dirs (s:Smp P D n) {i j:Nat} (h:P i = P j):D i = D j:=by
 rw [← per_mod s.pd i,← per_mod s.pd j,s.idx h]
theorem mod_step {n i j:Nat} (hn:1≤n) (h:(i + 1) % n = (j + 1) % n):i % n = j % n:=by
 have h1:=Nat.mod_add_div (i + 1) n
 have h2:=Nat.mod_add_div (j + 1) n
 have:((i:Int)) % n = (j:Int) % n:=by
  have e:((i + 1:Nat):Int) % (n:Int) = ((j + 1:Nat):Int) % (n:Int):=by exact_mod_cast h
  have e2:=Int.emod_emod_of_dvd
  rw [Int.emod_eq_emod_iff_emod_sub_eq_zero] at e ⊢
  rw [show (i:Int) - j = ((i + 1:Nat):Int) - ((j + 1:Nat):Int) from by omega]
  exact e
 exact_mod_cast this
theorem Smp.ahead (s:Smp P D n) (i:Nat):D (i + 1)≠od (D i):=fun z => by
 have hn:=s.n3
 have e:P (i + 1 + 1) = P i:=by rw [s.go,z,s.go,go_back _ (s.lt i)]
 have h:=s.idx e
 have:((i + 2:Nat):Int) % (n:Int) = ((i:Nat):Int) % (n:Int):=by exact_mod_cast h
 rw [Int.emod_eq_emod_iff_emod_sub_eq_zero,show ((i + 2:Nat):Int) - ((i:Nat):Int) = 2 from by omega,Int.emod_eq_of_lt (by omega) (by omega)] at this
 omega
theorem Smp.zero (s:Smp P D n) {i k:Nat} (hk:k < 4) (h1:k≠D (i + 1)) (h2:k≠od (D i)):sgn P D n (P (i + 1)) k = 0:=by
 have hn:=s.n3
 refine sm_zero fun j _ => ?_
 unfold sg
 rw [if_neg (fun z => h1 (by rw [← z.2,s.dirs z.1])),if_neg (fun z => h2 ?_)]
 ·rfl
 ·have e:P (0 + j + 1) = P (i + 1):=by rw [s.go,z.2,z.1,go_back _ hk]
  have e2:=mod_step (by omega) (s.idx e)
  have:D (0 + j) = D i:=by rw [← per_mod s.pd (0 + j),e2,per_mod s.pd]
  rw [← this,z.2,od_od hk]
theorem Smp.one (s:Smp P D n) (i:Nat):sgn P D n (P i) (D i) = 1:=by
 have hn:=s.n3
 have hm:=Nat.mod_lt i (show 0 < n by omega)
 have e:=sm_one (m:=i % n) (n:=n)
 rw [if_pos hm] at e
 rw [← e]
 refine sm_congr fun j hj => ?_
 rw [Nat.zero_add]
 unfold sg
 have z2:¬ (P j = go1 (P i) (D i)∧D j = od (D i)):=fun z => s.ahead i (by
  rw [← s.go] at z
  rw [← z.2,s.dirs z.1])
 rw [if_neg z2,Int.sub_zero]
 by_cases h:j = i % n
 ·rw [if_pos h,if_pos]
  subst h
  exact ⟨per_mod s.per i,per_mod s.pd i⟩
 ·rw [if_neg h,if_neg]
  exact fun z => h (by rw [← s.idx z.1,Nat.mod_eq_of_lt hj])
theorem Smp.cl (s:Smp P D n):P n = P 0:=by have:=s.per 0; rwa [Nat.zero_add] at this
theorem Smp.side (s:Smp P D n) (p:Pt) {d:Nat} (hd:d < 4):wn P D n (lft p d) - wn P D n (rgt p d) = sgn P D n p d:=wn_side s.go s.lt s.cl p hd
theorem lft_in (p:Pt) {d:Nat} (hd:d < 4):lft p d = lft (go1 p d) (nx4 d):=by
 rcases c4 hd with rfl | rfl | rfl | rfl
 ·exact Prod.ext (by show p.1 = p.1 + 1 - 1; omega) (by show p.2 = p.2 + 0; omega)
 ·exact Prod.ext (by show p.1 - 1 = p.1 + 0 - 1; omega) (by show p.2 = p.2 + 1 - 1; omega)
 ·exact Prod.ext (by show p.1 - 1 = p.1 + -1; omega) (by show p.2 - 1 = p.2 + 0 - 1; omega)
 ·exact Prod.ext (by show p.1 = p.1 + 0; omega) (by show p.2 - 1 = p.2 + -1; omega)
theorem rgt_nx (p:Pt) {d:Nat} (hd:d < 4):rgt p (nx4 d) = lft p d:=by
 rcases c4 hd with rfl | rfl | rfl | rfl <;> rfl
theorem Smp.same (s:Smp P D n) (i:Nat):wn P D n (lft (P i) (D i)) = wn P D n (lft (P (i + 1)) (D (i + 1))):=by
 have hd:=s.lt i
 have he:=s.lt (i + 1)
 have hb:=s.ahead i
 have F:∀ k,k < 4→nx4 k < 4→nx4 k≠D (i + 1)→nx4 k≠od (D i)→wn P D n (lft (P (i + 1)) (nx4 k)) = wn P D n (lft (P (i + 1)) k):=fun k hk hk' h1 h2 => by
  have a:=s.side (P (i + 1)) hk'
  rw [rgt_nx _ hk,s.zero hk' h1 h2] at a
  omega
 rw [lft_in _ hd,← s.go]
 generalize D i = d at *
 generalize D (i + 1) = e at *
 generalize P (i + 1) = q at *
 rcases c4 hd with rfl | rfl | rfl | rfl <;> rcases c4 he with rfl | rfl | rfl | rfl <;> first
  | rfl
  | exact absurd rfl hb
  | exact F 0 (by decide) (by decide) (by decide) (by decide)
  | exact F 1 (by decide) (by decide) (by decide) (by decide)
  | exact F 2 (by decide) (by decide) (by decide) (by decide)
  | exact F 3 (by decide) (by decide) (by decide) (by decide)
  | exact (F 0 (by decide) (by decide) (by decide) (by decide)).trans (F 3 (by decide) (by decide) (by decide) (by decide))
  | exact (F 1 (by decide) (by decide) (by decide) (by decide)).trans (F 0 (by decide) (by decide) (by decide) (by decide))
  | exact (F 2 (by decide) (by decide) (by decide) (by decide)).trans (F 1 (by decide) (by decide) (by decide) (by decide))
  | exact (F 3 (by decide) (by decide) (by decide) (by decide)).trans (F 2 (by decide) (by decide) (by decide) (by decide))
theorem Smp.left (s:Smp P D n):∀ i,wn P D n (lft (P i) (D i)) = wn P D n (lft (P 0) (D 0))
 | 0 => rfl
 | i + 1 => by rw [← s.same i,Smp.left s i]
theorem Smp.right (s:Smp P D n) (i:Nat):wn P D n (rgt (P i) (D i)) = wn P D n (lft (P 0) (D 0)) - 1:=by
 have:=s.side (P i) (s.lt i)
 rw [s.one,s.left] at this
 omega
end
section
variable {P:Nat→Pt} {D:Nat→Nat} {n:Nat}
theorem sm_some {G:Nat→Int} {a n:Nat} (h:sm G a n≠0):∃ k,k < n∧G (a + k)≠0 :=
 Classical.byContradiction fun z => h (sm_zero fun k hk => Classical.byContradiction fun y => z ⟨k,hk,y⟩)
theorem Smp.vals (s:Smp P D n) {M:Int} (hM:∀ i,(P i).1≤M):∀ (m:Nat) (c:Pt),M - c.1≤m →
  wn P D n c = 0∨(wn P D n (lft (P 0) (D 0)) = 0∨wn P D n (lft (P 0) (D 0)) = 1)∧(wn P D n c = wn P D n (lft (P 0) (D 0))∨wn P D n c = wn P D n (lft (P 0) (D 0)) - 1):=by
 intro m
 induction m with
 | zero =>
  intro c hc
  refine .inl (sm_zero fun k _ => ?_)
  have:=hM (0 + k)
  unfold upc
  (repeat' split) <;> omega
 | succ m ih =>
  intro c hc
  have hs:=s.side (c.1 + 1,c.2) (d:=1) (by omega)
  rw [lft1,rgt1] at hs
  dsimp only at hs
  rw [show ((c.1 + 1 - 1,c.2):Pt) = c from Prod.ext (by show c.1 + 1 - 1 = c.1; omega) rfl] at hs
  have ih':=ih (c.1 + 1,c.2) (by show M - (c.1 + 1)≤m; omega)
  by_cases z:sgn P D n (c.1 + 1,c.2) 1 = 0
  ·have:wn P D n c = wn P D n (c.1 + 1,c.2):=by omega
   rw [this]; exact ih'
  ·obtain ⟨j,_,hj⟩:=sm_some z
   unfold sg at hj
   by_cases y:P (0 + j) = (c.1 + 1,c.2)∧D (0 + j) = 1
   ·have l:=s.left (0 + j)
    have r:=s.right (0 + j)
    rw [y.1,y.2,lft1] at l
    rw [y.1,y.2,rgt1] at r
    dsimp only at l r
    rw [show ((c.1 + 1 - 1,c.2):Pt) = c from Prod.ext (by show c.1 + 1 - 1 = c.1; omega) rfl] at l
    rcases ih' with w | w
    ·exact .inr ⟨by omega,by omega⟩
    ·exact .inr ⟨w.1,by omega⟩
   ·rw [if_neg y] at hj
    by_cases x:P (0 + j) = go1 (c.1 + 1,c.2) 1∧D (0 + j) = od 1
    ·have l:=s.left (0 + j)
     have r:=s.right (0 + j)
     have ho:od 1 = 3:=rfl
     rw [x.1,x.2,ho,lft3] at l
     rw [x.1,x.2,ho,rgt3] at r
     rw [show (((go1 (c.1 + 1,c.2) 1).1,(go1 (c.1 + 1,c.2) 1).2 - 1):Pt) = (c.1 + 1,c.2) from Prod.ext (by show c.1 + 1 + 0 = c.1 + 1; omega) (by show c.2 + 1 - 1 = c.2; omega)] at l
     rw [show (((go1 (c.1 + 1,c.2) 1).1 - 1,(go1 (c.1 + 1,c.2) 1).2 - 1):Pt) = c from Prod.ext (by show c.1 + 1 + 0 - 1 = c.1; omega) (by show c.2 + 1 - 1 = c.2; omega)] at r
     rcases ih' with w | w
     ·exact .inr ⟨by omega,by omega⟩
     ·exact .inr ⟨w.1,by omega⟩
    ·rw [if_neg x] at hj
     exact absurd rfl hj
theorem Smp.sign (s:Smp P D n) {M:Int} (hM:∀ i,(P i).1≤M):(∀ c,0≤wn P D n c)∨∀ c,wn P D n c≤0:=by
 have v:∀ c,wn P D n c = 0∨(wn P D n (lft (P 0) (D 0)) = 0∨wn P D n (lft (P 0) (D 0)) = 1)∧(wn P D n c = wn P D n (lft (P 0) (D 0))∨wn P D n c = wn P D n (lft (P 0) (D 0)) - 1):=fun c => s.vals hM (M - c.1).toNat c (by omega)
 by_cases z:wn P D n (lft (P 0) (D 0)) = 1
 ·exact .inl fun c => by rcases v c with w | w <;> omega
 ·exact .inr fun c => by rcases v c with w | w <;> omega
theorem sm_swap (F:Nat→Nat→Int) (a b n:Nat):∀ m,sm (fun k => sm (fun i => F k i) a n) b m = sm (fun i => sm (fun k => F k i) b m) a n
 | 0 => (sm_zero fun _ _ => rfl).symm
 | m + 1 => by
  show sm (fun k => sm (fun i => F k i) a n) b m + sm (fun i => F (b + m) i) a n = sm (fun i => sm (fun k => F k i) b m + F (b + m) i) a n
  rw [sm_sum,sm_swap F a b n m]
theorem sm_lt {x0 x:Int} (h:x0≤x):∀ {m:Nat},x≤x0 + m→sm (fun k:Nat => if x0 + (k:Int) < x then (1:Int) else 0) 0 m = x - x0:=by
 have key:∀ m:Nat,sm (fun k:Nat => if x0 + (k:Int) < x then (1:Int) else 0) 0 m = if x≤x0 + m then x - x0 else (m:Int):=by
  intro m
  induction m with
  | zero =>
   show (0:Int) = _
   split <;> omega
  | succ m ih =>
   show sm _ 0 m + (if x0 + ((0 + m:Nat):Int) < x then (1:Int) else 0) = _
   rw [ih]
   (repeat' split) <;> omega
 intro m hm
 rw [key,if_pos hm]
theorem sm_le {G:Nat→Int} {a:Nat}:∀ {n:Nat},(∀ k,G k≤0)→sm G a n≤0
 | 0,_ => Int.le_refl _
 | n + 1,h => by
  show sm G a n + G (a + n)≤0
  have:=sm_le (a:=a) (n:=n) h
  have:=h (a + n)
  omega
theorem sm_mul (G:Nat→Int) (v:Int) (a:Nat):∀ n,sm (fun i => v * G i) a n = v * sm G a n
 | 0 => by show 0 = v * 0; rw [Int.mul_zero]
 | n + 1 => by
  show sm (fun i => v * G i) a n + v * G (a + n) = v * (sm G a n + G (a + n))
  rw [sm_mul G v a n,Int.mul_add]
end
section
variable {P:Nat→Pt} {D:Nat→Nat} {n:Nat}
theorem box_one {q:Pt} {d:Nat} {x0 y0:Int} {M L:Nat} (hd:d < 4) (hx:x0≤q.1∧q.1≤x0 + M) (hy:y0≤q.2∧q.2≤y0 + L) (hy':y0≤(go1 q d).2∧(go1 q d).2≤y0 + L) :
  sm (fun k:Nat => sm (fun l:Nat => upc (x0 + (k:Int),y0 + (l:Int)) q d) 0 L) 0 M = (stp d).2 * (q.1 - x0):=by
 have row:∀ (r v:Int),y0≤r→r < y0 + L→sm (fun k:Nat => sm (fun l:Nat => if r = y0 + (l:Int)∧x0 + (k:Int) < q.1 then v else 0) 0 L) 0 M = v * (q.1 - x0):=by
  intro r v h1 h2
  rw [← sm_lt hx.1 hx.2,← sm_mul]
  refine sm_congr fun k _ => ?_
  rw [Nat.zero_add]
  have e:=sm_one (m:=(r - y0).toNat) (n:=L)
  rw [if_pos (by omega)] at e
  by_cases z:x0 + (k:Int) < q.1
  ·rw [if_pos z,Int.mul_one]
   have e':sm (fun j => v * if j = (r - y0).toNat then (1:Int) else 0) 0 L = v:=by rw [sm_mul,e,Int.mul_one]
   refine Eq.trans (sm_congr fun l _ => ?_) e'
   rw [Nat.zero_add]
   by_cases y:l = (r - y0).toNat
   ·rw [if_pos y,if_pos ⟨by omega,z⟩,Int.mul_one]
   ·rw [if_neg y,if_neg (fun w => y (by omega)),Int.mul_zero]
  ·rw [if_neg z,Int.mul_zero]
   exact sm_zero fun l _ => if_neg fun w => z w.2
 rcases c4 hd with rfl | rfl | rfl | rfl
 ·rw [show (stp 0).2 = 0 from rfl,Int.zero_mul]
  exact sm_zero fun k _ => sm_zero fun l _ => rfl
 ·have b:(go1 q 1).2 = q.2 + 1:=rfl
  have:=row q.2 1 hy.1 (by omega)
  exact this
 ·rw [show (stp 2).2 = 0 from rfl,Int.zero_mul]
  exact sm_zero fun k _ => sm_zero fun l _ => rfl
 ·have b:(go1 q 3).2 = q.2 + -1:=rfl
  have:=row (q.2 - 1) (-1) (by omega) (by omega)
  rw [show (stp 3).2 = -1 from rfl,← this]
  refine sm_congr fun k _ => sm_congr fun l _ => ?_
  show (if q.2 = y0 + ((0 + l:Nat):Int) + 1∧x0 + ((0 + k:Nat):Int) < q.1 then (-1:Int) else 0) = _
  (repeat' split) <;> omega
theorem Smp.area (s:Smp P D n) {x0 y0:Int} {M L:Nat} (hx:∀ i,x0≤(P i).1∧(P i).1≤x0 + M) (hy:∀ i,y0≤(P i).2∧(P i).2≤y0 + L) :
  sm (fun k:Nat => sm (fun l:Nat => wn P D n (x0 + (k:Int),y0 + (l:Int))) 0 L) 0 M = sm (fun i => (P i).1 * (stp (D i)).2) 0 n:=by
 have e1:sm (fun k:Nat => sm (fun l:Nat => wn P D n (x0 + (k:Int),y0 + (l:Int))) 0 L) 0 M = sm (fun i => sm (fun k:Nat => sm (fun l:Nat => upc (x0 + (k:Int),y0 + (l:Int)) (P i) (D i)) 0 L) 0 M) 0 n:=by
  have a:∀ k:Nat,sm (fun l:Nat => wn P D n (x0 + (k:Int),y0 + (l:Int))) 0 L = sm (fun i => sm (fun l:Nat => upc (x0 + (k:Int),y0 + (l:Int)) (P i) (D i)) 0 L) 0 n:=fun k => sm_swap (fun l i => upc (x0 + (k:Int),y0 + (l:Int)) (P i) (D i)) 0 0 n L
  exact (sm_congr fun k _ => a _).trans (sm_swap (fun k i => sm (fun l:Nat => upc (x0 + (k:Int),y0 + (l:Int)) (P i) (D i)) 0 L) 0 0 n M)
 have dy:=sm_tel (fun i => (P i).2) x0 0 n
 rw [Nat.zero_add,s.cl,Int.sub_self,Int.mul_zero] at dy
 have e2:sm (fun i => (P i).1 * (stp (D i)).2) 0 n = sm (fun i => (stp (D i)).2 * ((P i).1 - x0) + x0 * ((P (i + 1)).2 - (P i).2)) 0 n:=by
  refine sm_congr fun i _ => ?_
  rw [s.go]
  show _ = _ + x0 * ((P (0 + i)).2 + (stp (D (0 + i))).2 - (P (0 + i)).2)
  rw [show (P (0 + i)).2 + (stp (D (0 + i))).2 - (P (0 + i)).2 = (stp (D (0 + i))).2 from by omega,Int.mul_sub,Int.mul_comm x0,Int.mul_comm (P (0 + i)).1]
  omega
 rw [e1,e2,sm_sum,dy,Int.add_zero]
 refine sm_congr fun i _ => ?_
 exact box_one (s.lt _) (hx _) (hy _) (by rw [← s.go]; exact hy _)
theorem Smp.pos (s:Smp P D n) {x0 y0:Int} {M L:Nat} (hx:∀ i,x0≤(P i).1∧(P i).1≤x0 + M) (hy:∀ i,y0≤(P i).2∧(P i).2≤y0 + L) (ha:1≤sm (fun i => (P i).1 * (stp (D i)).2) 0 n) (c:Pt):0≤wn P D n c:=by
 rcases s.sign fun i => (hx i).2 with z | z
 ·exact z c
 ·exfalso
  rw [← s.area hx hy] at ha
  have:sm (fun k:Nat => sm (fun l:Nat => wn P D n (x0 + (k:Int),y0 + (l:Int))) 0 L) 0 M≤0:=sm_le fun k => sm_le fun l => z _
  omega
end
section
variable {P:Nat→Pt} {D:Nat→Nat} {n:Nat} {S:List Pt}
theorem Smp.zo (s:Smp P D n) {M:Int} (hM:∀ i,(P i).1≤M) (hp:∀ c,0≤wn P D n c) (c:Pt):wn P D n c = 0∨wn P D n c = 1:=by
 have:=hp c
 have k:=hp (rgt (P 0) (D 0))
 rw [s.right] at k
 rcases s.vals hM (M - c.1).toNat c (by omega) with w | w
 ·exact .inl w
 ·omega
theorem Smp.edge (s:Smp P D n) (zo:∀ c,wn P D n c = 0∨wn P D n c = 1) (hS:∀ c,c∈S↔wn P D n c = 1) (i:Nat):Edge S (P i) (D i):=by
 have l:=s.left i
 have r:=s.right i
 have z1:=zo (lft (P 0) (D 0))
 have z2:=zo (rgt (P i) (D i))
 refine ⟨s.lt i,?_,?_⟩
 ·rw [hS]; omega
 ·rw [hS]; omega
theorem Smp.on (s:Smp P D n) (zo:∀ c,wn P D n c = 0∨wn P D n c = 1) (hS:∀ c,c∈S↔wn P D n c = 1) {p:Pt} {d:Nat} (e:Edge S p d):∃ j,j < n∧P j = p∧D j = d:=by
 have hs:=s.side p e.lt
 have h1:=(hS _).mp e.l
 have h2:wn P D n (rgt p d) = 0:=(zo _).resolve_right fun z => e.r ((hS _).mpr z)
 have h3:sgn P D n p d = 1:=by omega
 have h4:sgn P D n p d≠0:=by omega
 obtain ⟨j,hj,hne⟩:=sm_some h4
 rw [Nat.zero_add] at hne
 unfold sg at hne
 by_cases y:P j = p∧D j = d
 ·exact ⟨j,hj,y⟩
 ·rw [if_neg y] at hne
  by_cases x:P j = go1 p d∧D j = od d
  ·exfalso
   have o:=s.one j
   rw [x.1,x.2,sgn_od p e.lt] at o
   omega
  ·rw [if_neg x] at hne
   exact absurd rfl hne
theorem Smp.dg (s:Smp P D n) (zo:∀ c,wn P D n c = 0∨wn P D n c = 1) (hS:∀ c,c∈S↔wn P D n c = 1):Dg S:=by
 have two:∀ {p:Pt} {d e:Nat},Edge S p d→Edge S p e→d = e:=fun {p d e} a b => by
  obtain ⟨i,hi,i1,i2⟩:=s.on zo hS a
  obtain ⟨j,hj,j1,j2⟩:=s.on zo hS b
  have:=s.inj i j hi hj (by rw [i1,j1])
  rw [← i2,← j2,this]
 intro p
 refine ⟨fun z => ?_,fun z => ?_⟩
 ·have:=two (p:=p) (d:=0) (e:=2) ⟨by omega,z.1,z.2.2.2⟩ ⟨by omega,z.2.1,z.2.2.1⟩
  omega
 ·have:=two (p:=p) (d:=1) (e:=3) ⟨by omega,z.1,z.2.2.1⟩ ⟨by omega,z.2.1,z.2.2.2⟩
  omega
theorem Smp.itr (s:Smp P D n) (zo:∀ c,wn P D n c = 0∨wn P D n c = 1) (hS:∀ c,c∈S↔wn P D n c = 1):∀ i,Law.itr S (P 0) i = P i∧outD S (P i) = D i:=by
 have od1:∀ i,outD S (P i) = D i:=fun i => edge_one (s.dg zo hS) (outD_edge ⟨_,s.edge zo hS i⟩) (s.edge zo hS i)
 intro i
 refine ⟨?_,od1 i⟩
 induction i with
 | zero => rfl
 | succ i ih =>
  show go1 (Law.itr S (P 0) i) (outD S (Law.itr S (P 0) i)) = _
  rw [ih,od1,s.go]
theorem Smp.rnd (s:Smp P D n) (zo:∀ c,wn P D n c = 0∨wn P D n c = 1) (hS:∀ c,c∈S↔wn P D n c = 1):Rnd S (P 0) n:=by
 have hn:=s.n3
 have e:=fun i => (s.itr zo hS i).1
 refine ⟨by omega,by rw [e]; exact s.cl,fun m h1 h2 => ?_,fun q hq => ?_,fun i j h1 h2 => ?_⟩
 ·rw [e]
  exact fun z => by have:=s.inj m 0 h2 (by omega) z; omega
 ·obtain ⟨d,ed⟩:=hq
  obtain ⟨j,hj,j1,_⟩:=s.on zo hS ed
  exact ⟨j,hj,by rw [e,j1]⟩
 ·rw [e,e]
  exact fun z => by have:=s.inj i j (by omega) h2 z; omega
theorem Smp.crn (s:Smp P D n) (zo:∀ c,wn P D n c = 0∨wn P D n c = 1) (hS:∀ c,c∈S↔wn P D n c = 1):Crn S (P 0):=⟨_,s.edge zo hS 0⟩
end
def sp_added:Sp3:=fun ds H Q => ∃ a b c d x,ds = [.tup [.int a,.int b],x]∧(x = .tup [.int c,.int d]∨x = .ktup [.int c,.int d])∧Q (.tup [.int (a + c),.int (b + d)]) H
theorem u_addedK {a b c d:Int} {H:Hp3} {Q:VK3} (h:Q (.tup [.int (a + c),.int (b + d)]) H):sp_added [.tup [.int a,.int b],.ktup [.int c,.int d]] H Q:=⟨a,b,c,d,_,rfl,.inr rfl,h⟩
local macro_rules | `(tactic| walk_at "l3c") => `(tactic| first | (with_reducible refine u_added ?_) | (with_reducible refine u_addedK ?_))
theorem len_added:∀ (ds:List D) (H:Hp3) (Q:VK3),sp_added ds H Q→ds.length = P_added.length:=by
 intro ds H Q h
 obtain ⟨_,_,_,_,_,rfl,_⟩:=h
 rfl
def t_added:TS3:=(rt3 (tp3 (cons3 (o3 r3add (o3 r3ix (v3 0) (c3 (.int 0))) (o3 r3ix (v3 1) (c3 (.int 0)))) (cons3 (o3 r3add (o3 r3ix (v3 0) (c3 (.int 1))) (o3 r3ix (v3 1) (c3 (.int 1)))) nil3))))
theorem rd_added:∀ (ds:List D) (H:Hp3) (Q:VK3),sp_added ds H Q→t_added (fin3 Q) (start3 N_added ds) H:=by
 intro ds H Q h
 obtain ⟨a,b,c,d,x,rfl,hx,h⟩:=h
 rcases hx with rfl | rfl
 ·simp only [t_added,start3,N_added,List.map_cons,List.map_nil,List.length_cons,List.length_nil,Nat.reduceAdd,Nat.reduceSub,Nat.zero_add,List.replicate,List.cons_append,List.nil_append]
  walk_at "l3"
  exact g_fin h Sub3.refl
 ·simp only [t_added,start3,N_added,List.map_cons,List.map_nil,List.length_cons,List.length_nil,Nat.reduceAdd,Nat.reduceSub,Nat.zero_add,List.replicate,List.cons_append,List.nil_append]
  walk_at "l3"
  exact g_fin h Sub3.refl
def sp_taken:Sp3:=fun ds H Q => ∃ a b c d,ds = [.tup [.int a,.int b],.tup [.int c,.int d]]∧(Q (.tup [.int (a - c),.int (b - d)]) H)
theorem u_taken {a b c d:Int} {H:Hp3} {Q:VK3} (h:Q (.tup [.int (a - c),.int (b - d)]) H):sp_taken [.tup [.int a,.int b],.tup [.int c,.int d]] H Q:=⟨_,_,_,_,rfl,h⟩
local macro_rules | `(tactic| walk_at "l3c") => `(tactic| (with_reducible refine u_taken ?_))
theorem len_taken:∀ (ds:List D) (H:Hp3) (Q:VK3),sp_taken ds H Q→ds.length = P_taken.length:=by
 intro ds H Q h
 obtain ⟨_,_,_,_,rfl,_⟩:=h
 rfl
def t_taken:TS3:=(rt3 (tp3 (cons3 (o3 i3sub (o3 r3ix (v3 0) (c3 (.int 0))) (o3 r3ix (v3 1) (c3 (.int 0)))) (cons3 (o3 i3sub (o3 r3ix (v3 0) (c3 (.int 1))) (o3 r3ix (v3 1) (c3 (.int 1)))) nil3))))
theorem rd_taken:∀ (ds:List D) (H:Hp3) (Q:VK3),sp_taken ds H Q→t_taken (fin3 Q) (start3 N_taken ds) H:=by
 intro ds H Q h
 obtain ⟨_,_,_,_,rfl,h⟩:=h
 simp only [t_taken,start3,N_taken,List.map_cons,List.map_nil,List.length_cons,List.length_nil,Nat.reduceAdd,Nat.reduceSub,Nat.zero_add,List.replicate,List.cons_append,List.nil_append]
 walk_at "l3"
 exact g_fin h Sub3.refl
structure Ms (x y g:Int):Prop where
 nn:0≤g
 grp:∀ G,Grp G→G (x,0)→G (y,0)→G (g,0)
 i1:∃ i,x = i * g
 i2:∃ j,y = j * g
theorem Ms.bt {x y g:Int} {m n:Nat} (h:Ms x y g) (hx:Bt m x) (hy:Bt n y):Bt (max m n) g:=by
 have le:∀ {z:Int},z≠0→(∃ i,z = i * g)→g.natAbs≤z.natAbs:=by
  rintro z hz ⟨i,rfl⟩
  rw [Int.natAbs_mul]
  refine Nat.le_mul_of_pos_left _ ?_
  rcases Nat.eq_zero_or_pos i.natAbs with z | z
  ·rw [Int.natAbs_eq_zero.mp z] at hz; simp at hz
  ·exact z
 by_cases h1:x = 0
 ·by_cases h2:y = 0
  ·subst h1 h2
   have g0:Grp fun p:Pt => p = (0,0):=⟨rfl,by rintro p q rfl rfl; rfl⟩
   have:=h.grp _ g0 rfl rfl
   have e:g = 0:=congrArg Prod.fst this
   subst e
   exact Nat.two_pow_pos _
  ·exact (hy.of_le (le h2 h.i2)).mono (Nat.le_max_right _ _)
 ·exact (hx.of_le (le h1 h.i1)).mono (Nat.le_max_left _ _)
structure Msi (x0 y0 x y:Int):Prop where
 grp:∀ G,Grp G→G (x0,0)→G (y0,0)→G (x,0)∧G (y,0)
 i1:∃ i j,x0 = i * x + j * y
 i2:∃ i j,y0 = i * x + j * y
theorem Msi.step {x0 y0 x y:Int} (h:Msi x0 y0 x y):Msi x0 y0 y (x.fmod y):=by
 have e:=Int.fmod_def x y
 refine ⟨fun G g a b => ⟨(h.grp G g a b).2,?_⟩,?_,?_⟩
 ·have:=g.sub _ _ (h.grp G g a b).1 (g.mul (h.grp G g a b).2 (x.fdiv y))
  simp only [Int.mul_zero,Int.sub_zero] at this
  rw [e,Int.mul_comm]; exact this
 ·obtain ⟨i,j,z⟩:=h.i1
  refine ⟨i * x.fdiv y + j,i,?_⟩
  rw [z,e,Int.add_mul,Int.mul_sub]
  have:i * x.fdiv y * y = i * (y * x.fdiv y):=by ac_rfl
  omega
 ·obtain ⟨i,j,z⟩:=h.i2
  refine ⟨i * x.fdiv y + j,i,?_⟩
  rw [z,e,Int.add_mul,Int.mul_sub]
  have:i * x.fdiv y * y = i * (y * x.fdiv y):=by ac_rfl
  omega
theorem Msi.fin {x0 y0 x:Int} (h:Msi x0 y0 x 0):Ms x0 y0 (if x < 0 then -x else x):=by
 obtain ⟨i,j,z⟩:=h.i1
 obtain ⟨k,l,z'⟩:=h.i2
 simp only [Int.mul_zero,Int.add_zero] at z z'
 split
 ·refine ⟨by omega,fun G g a b => ?_,⟨-i,by rw [z,Int.neg_mul_neg]⟩,⟨-k,by rw [z',Int.neg_mul_neg]⟩⟩
  have:=g.neg (h.grp G g a b).1
  simpa using this
 ·exact ⟨by omega,fun G g a b => (h.grp G g a b).1,⟨i,z⟩,⟨k,z'⟩⟩
def sp_common_measure:Sp3:=fun ds H Q => ∃ x y,ds = [.int x,.int y]∧(∀ g,Ms x y g→Q (.int g) H)
theorem u_common_measure {x y:Int} {H:Hp3} {Q:VK3} (h:∀ g,Ms x y g→Q (.int g) H):sp_common_measure [.int x,.int y] H Q:=⟨_,_,rfl,h⟩
theorem len_common_measure:∀ (ds:List D) (H:Hp3) (Q:VK3),sp_common_measure ds H Q→ds.length = P_common_measure.length:=by
 intro ds H Q h
 obtain ⟨_,_,rfl,_⟩:=h
 rfl
def lp_common_measure_0:TS3:=wh3 (ts3 (o3 r3ne (v3 1) (c3 (.int 0)))) (sq3 (st3 2 (o3 i3modN (v3 0) (v3 1)))
  (sq3 (st3 0 (v3 1))
  (st3 1 (v3 2))))
def t_common_measure:TS3:=(sq3 lp_common_measure_0
  (rt3 (cb3 r3abs (cons3 (v3 0) nil3))))
theorem rd_common_measure:∀ (ds:List D) (H:Hp3) (Q:VK3),sp_common_measure ds H Q→t_common_measure (fin3 Q) (start3 N_common_measure ds) H:=by
 intro ds H Q h
 obtain ⟨x0,y0,rfl,h⟩:=h
 simp only [t_common_measure,start3,N_common_measure,List.map_cons,List.map_nil,List.length_cons,List.length_nil,Nat.reduceAdd,Nat.reduceSub,Nat.zero_add,List.replicate,List.cons_append,List.nil_append]
 walk_at "l3"
 unfold lp_common_measure_0
 refine g_wh (fun σ H2 => H2 = H∧∃ x y z,Msi x0 y0 x y∧σ = [some (.int x),some (.int y),z]) (fun σ _ => match σ with | [_,some (.int y),_] => y.natAbs | _ => 0) ⟨rfl,x0,y0,none,⟨fun _ _ a b => ⟨a,b⟩,⟨1,0,by omega⟩,⟨0,1,by omega⟩⟩,rfl⟩ ?_
 rintro σ H2 ⟨rfl,x,y,z,hi,rfl⟩
 walk_at "l3"
 refine ifN (fun hy => ?_) fun hy => ?_
 ·walk_at "l3"
  refine g_modN hy ?_
  walk_at "l3"
  exact ⟨⟨rfl,y,x.fmod y,_,hi.step,rfl⟩,fmod_ab hy⟩
 ·subst hy
  walk_at "l3"
  refine g_abs ?_
  exact g_fin (h _ hi.fin) Sub3.refl
structure Lvl (N:Nat) (p0 q0 u:Pt) (w:Int):Prop where
 grp:∀ G,Grp G→G p0→G q0→G u∧G (w,0)
 i1:In2 u (w,0) p0
 i2:In2 u (w,0) q0
 bu:Bt 400 u.2
 b1:Bt (N + 400000) u.1
 bw:Bt (N + 400000) w
def sp_levelled:Sp3:=fun ds H Q => ∃ x1 y1 x2 y2,ds = [.tup [.int x1,.int y1],.tup [.int x2,.int y2]]∧(∃ N:Nat,(N≤60000000∧Bt N x1∧Bt N x2∧Bt 400 y1∧Bt 400 y2)∧∀ u:Pt,∀ w:Int,Lvl N (x1,y1) (x2,y2) u w→Q (.tup [.tup [.int u.1,.int u.2],.tup [.int w,.int 0]]) H)
theorem u_levelled {x1 y1 x2 y2:Int} (N:Nat) {H:Hp3} {Q:VK3} (hN:N≤60000000) (h1:Bt N x1) (h2:Bt N x2) (h3:Bt 400 y1) (h4:Bt 400 y2) (h:∀ u:Pt,∀ w:Int,Lvl N (x1,y1) (x2,y2) u w→Q (.tup [.tup [.int u.1,.int u.2],.tup [.int w,.int 0]]) H):sp_levelled [.tup [.int x1,.int y1],.tup [.int x2,.int y2]] H Q:=⟨_,_,_,_,rfl,⟨N,⟨hN,h1,h2,h3,h4⟩,h⟩⟩
theorem len_levelled:∀ (ds:List D) (H:Hp3) (Q:VK3),sp_levelled ds H Q→ds.length = P_levelled.length:=by
 intro ds H Q h
 obtain ⟨_,_,_,_,rfl,_⟩:=h
 rfl
def lp_levelled_0:TS3:=wh3 (ts3 (o3 r3ne (o3 r3ix (v3 1) (c3 (.int 1))) (c3 (.int 0)))) (sq3 (st3 2 (o3 i3divN (o3 r3ix (v3 0) (c3 (.int 1))) (o3 r3ix (v3 1) (c3 (.int 1)))))
  (sq3 (st3 3 (tp3 (cons3 (o3 i3sub (o3 r3ix (v3 0) (c3 (.int 0))) (o3 i3mulW (v3 2) (o3 r3ix (v3 1) (c3 (.int 0))))) (cons3 (o3 i3sub (o3 r3ix (v3 0) (c3 (.int 1))) (o3 i3mulW (v3 2) (o3 r3ix (v3 1) (c3 (.int 1))))) nil3))))
  (sq3 (st3 0 (v3 1))
  (st3 1 (v3 3)))))
def t_levelled:TS3:=(sq3 lp_levelled_0
  (rt3 (tp3 (cons3 (v3 0) (cons3 (v3 1) nil3)))))
theorem rd_levelled:∀ (ds:List D) (H:Hp3) (Q:VK3),sp_levelled ds H Q→t_levelled (fin3 Q) (start3 N_levelled ds) H:=by
 intro ds H Q h
 obtain ⟨x1,y1,x2,y2,rfl,h⟩:=h
 obtain ⟨N,⟨hN,b1,b2,b3,b4⟩,h⟩:=h
 simp only [t_levelled,start3,N_levelled,List.map_cons,List.map_nil,List.length_cons,List.length_nil,Nat.reduceAdd,Nat.reduceSub,Nat.zero_add,List.replicate,List.cons_append,List.nil_append]
 walk_at "l3"
 unfold lp_levelled_0
 refine g_wh (fun σ H2 => H2 = H∧∃ p q:Pt,∃ y z,Lev N (x1,y1) (x2,y2) p q∧σ = [some (.tup [.int p.1,.int p.2]),some (.tup [.int q.1,.int q.2]),y,z]) (fun σ _ => match σ with | [_,some (.tup [_,.int y]),_,_] => y.natAbs | _ => 0) ⟨rfl,(x1,y1),(x2,y2),none,none,Lev.start b3 b4 b1 b2,rfl⟩ ?_
 rintro σ H2 ⟨rfl,p,q,y,z,hi,rfl⟩
 obtain ⟨c1,c2⟩:=hi.all
 have c3:=hi.bp
 have c4:=hi.bq
 have hs:=hi.step
 obtain ⟨p1,p2⟩:=p
 obtain ⟨q1,q2⟩:=q
 dsimp only at c1 c2 c3 c4
 have c5:Bt 400 (p2.fdiv q2):=Bt.fdiv c3
 walk_at "l3"
 refine ifN (fun hy => ?_) fun hy => ?_
 ·walk_at "l3"
  refine g_divN ⟨hy,Bt.mono c4 (by decide)⟩ ?_
  walk_at "l3"
  refine g_mulW (.inr ⟨400,N + 400000,c5,c2,by omega⟩) ?_
  walk_at "l3"
  exact ⟨⟨rfl,(q1,q2),tkn (p1,p2) (q1,q2),_,_,(hs hy).1,rfl⟩,(hs hy).2⟩
 ·subst hy
  walk_at "l3"
  exact g_fin (h (p1,p2) q1 ⟨hi.grp,hi.i1,hi.i2,c3,c1,c2⟩) Sub3.refl
def sp_backwards:Sp3:=fun ds H Q => ∃ z,ds = [.str z]∧(∃ ls:List Lt,(z = wStr ls∧ls.length≤500)∧Q (.str (wStr (bk ls))) H)
theorem u_backwards (ls:List Lt) {H:Hp3} {Q:VK3} (hl:ls.length≤500) (h:Q (.str (wStr (bk ls))) H):sp_backwards [.str (wStr ls)] H Q:=⟨_,rfl,⟨ls,⟨rfl,hl⟩,h⟩⟩
theorem opp_at (l:Lt):c_OPPOSITES.lookup (lt1 l) = some (.str (lt1 (opp l))):=by
 match l with
 | 0 => rfl
 | 1 => rfl
 | 2 => rfl
 | 3 => rfl
theorem len_backwards:∀ (ds:List D) (H:Hp3) (Q:VK3),sp_backwards ds H Q→ds.length = P_backwards.length:=by
 intro ds H Q h
 obtain ⟨_,rfl,_⟩:=h
 rfl
def t_backwards:TS3:=(rt3 (mz3 r3join (c3 (.str "")) (cons3 (cp3 (irv (v3 0)) (gn3 0) yes3 (kd3 c_OPPOSITES (v3 0)) ["letter"] []) nil3)))
theorem rd_backwards:∀ (ds:List D) (H:Hp3) (Q:VK3),sp_backwards ds H Q→t_backwards (fin3 Q) (start3 N_backwards ds) H:=by
 intro ds H Q h
 obtain ⟨z,rfl,h⟩:=h
 obtain ⟨ls,⟨rfl,hl⟩,h⟩:=h
 simp only [t_backwards,start3,N_backwards,List.map_cons,List.map_nil,List.length_cons,List.length_nil,Nat.reduceAdd,Nat.reduceSub,Nat.zero_add,List.replicate,List.cons_append,List.nil_append]
 walk_at "l3"
 refine g_irk (wStr_le _ (by omega)) ?_
 rw [lets_w,← List.map_reverse]
 refine Cp.map (fun l => .str (lt1 (opp l))) (fun _ _ => trivial) (by rw [List.length_reverse]; omega) ?_ ?_
 ·intro i l hl2 R H2 hs hR
  walk_at "l3"
  refine g_kdk (opp_at l) ?_
  exact hR H2 Sub3.refl
 intro p hp
 walk_at "l3"
 refine join_w (ls:=bk ls) (by rw [upd3_same]; unfold bk; rw [← List.map_reverse,List.map_map]; rfl) (by rw [bk_len]; omega) ?_
 exact g_fin h (Sub3.fresh hp)
def sub (l:List Lt) (c p:Int):List Lt:=(l.drop c.toNat).take (p - c).toNat
theorem subW_len {l:List Lt} {c p:Int} (h0:0≤c) (h1:c≤p) (h2:p≤l.length):(sub l c p).length = (p - c).toNat:=by
 unfold sub
 rw [List.length_take,List.length_drop]; omega
theorem cut_sub (l:List Lt) {c p:Int} (h0:0≤c) (h1:c≤p) (h2:p≤l.length):cutZ (wStr l) (some c) (some p) = wStr (sub l c p):=by
 unfold cutZ wStr
 rw [List.toList_toArray,cut3_mapN]
 congr 2
 unfold cut3 HT.sIx sub
 simp only []
 rw [if_neg (by omega),if_neg (by omega),show min c.toNat l.length = c.toNat from by omega,show min p.toNat l.length = p.toNat from by omega,show p.toNat - c.toNat = (p - c).toNat from by omega]
def ends (cs:List Int) (L:Int):List Int:=cs.drop 1++[cs.headD 0 + L]
def spn (cs:List Int) (L:Int):List (Int×Int):=cs.zip (ends cs L)
theorem ends_len {cs:List Int} {L:Int} (h:cs≠[]):(ends cs L).length = cs.length:=by
 unfold ends
 rw [List.length_append,List.length_drop,List.length_singleton]
 have:=List.length_pos_iff.mpr h
 omega
theorem spn_len {cs:List Int} {L:Int} (h:cs≠[]):(spn cs L).length = cs.length:=by
 unfold spn
 rw [List.length_zip,ends_len h,Nat.min_self]
theorem atI_0 {cs:List Int} (h:cs≠[]):atI (cs.map D.int) 0 = some (.int (cs.headD 0)):=by
 cases cs with
 | nil => exact absurd rfl h
 | cons c cs =>
  unfold atI ixN
  rw [List.length_map,List.length_cons,if_pos (by omega),if_pos (by omega),Option.bind_some]
  rfl
theorem cut3_1 {α:Type} (xs:List α) (h:xs≠[]):cut3 xs (some 1) none = xs.drop 1:=by
 unfold cut3 HT.sIx
 simp only []
 have:=List.length_pos_iff.mpr h
 rw [if_neg (by omega),show min (Int.toNat 1) xs.length = 1 from by omega,List.take_of_length_le (by rw [List.length_drop]; omega)]
structure Cts (cs:List Int) (h:Int):Prop where
 len:cs.length = 2∨cs.length = 3
 srt:cs.Pairwise (· < ·)
 rng:∀ c∈cs,0≤c∧c < h
theorem Cts.ne {cs:List Int} {h:Int} (c:Cts cs h):cs≠[]:=by intro z; have:=c.len; rw [z] at this; simp at this
theorem Cts.spn {cs:List Int} {h:Int} (c:Cts cs h):∀ s∈spn cs h,0≤s.1∧s.1 < s.2∧s.2 < h + h∧s.1 < h:=by
 obtain ⟨hl,hs,hr⟩:=c
 intro s hm
 rcases cs with _ | ⟨a,_ | ⟨b,_ | ⟨d,_ | _⟩⟩⟩ <;> simp at hl
 ·have ha:=hr a (by simp)
  have hb:=hr b (by simp)
  simp only [List.pairwise_cons,List.mem_cons,List.not_mem_nil,or_false,forall_eq] at hs
  simp only [Law.spn,ends,List.drop_succ_cons,List.drop_zero,List.cons_append,List.nil_append,List.headD_cons,List.zip_cons_cons,List.zip_nil_right,List.mem_cons,List.not_mem_nil,or_false] at hm
  rcases hm with rfl | rfl
  ·exact ⟨ha.1,hs.1,by omega,ha.2⟩
  ·exact ⟨hb.1,by dsimp only; omega,by dsimp only; omega,hb.2⟩
 ·have ha:=hr a (by simp)
  have hb:=hr b (by simp)
  have hd:=hr d (by simp)
  simp only [List.pairwise_cons,List.mem_cons,List.not_mem_nil,or_false,forall_eq_or_imp,forall_eq] at hs
  simp only [Law.spn,ends,List.drop_succ_cons,List.drop_zero,List.cons_append,List.nil_append,List.headD_cons,List.zip_cons_cons,List.zip_nil_right,List.mem_cons,List.not_mem_nil,or_false] at hm
  rcases hm with rfl | rfl | rfl
  ·exact ⟨ha.1,hs.1.1,by dsimp only; omega,ha.2⟩
  ·exact ⟨hb.1,hs.2.1,by dsimp only; omega,hb.2⟩
  ·exact ⟨hd.1,by dsimp only; omega,by dsimp only; omega,hd.2⟩
def sp_spans_of:Sp3:=fun ds H Q => ∃ z xs,ds = [.str z,.tup xs]∧(∃ (W:List Lt) (cs:List Int),(z = wStr W∧xs = cs.map D.int∧W.length≤500∧cs≠[]∧cs.length≤10)∧∀ p,H p = none→Q (.ref p) (upd3 H p (.lst ((spn cs ((W.length:Int) / 2)).map prP))))
theorem u_spans_of {W:List Lt} {cs:List Int} {H:Hp3} {Q:VK3} (hl:W.length≤500) (hn:cs≠[]) (hc:cs.length≤10) (h:∀ p,H p = none→Q (.ref p) (upd3 H p (.lst ((spn cs ((W.length:Int) / 2)).map prP)))):sp_spans_of [.str (wStr W),.tup (cs.map D.int)] H Q:=⟨_,_,rfl,⟨W,cs,⟨rfl,rfl,hl,hn,hc⟩,h⟩⟩
theorem len_spans_of:∀ (ds:List D) (H:Hp3) (Q:VK3),sp_spans_of ds H Q→ds.length = P_spans_of.length:=by
 intro ds H Q h
 obtain ⟨_,_,rfl,_⟩:=h
 rfl
def t_spans_of:TS3:=(sq3 (st3 2 (o3 r3add (cb3 r3list (cons3 (sl3 r3slT (v3 1) (pt3 (c3 (.int 1))) np3) nil3)) (ls3 (cons3 (o3 r3add (o3 r3ix (v3 1) (c3 (.int 0))) (o3 i3divW (cb3 r3len (cons3 (v3 0) nil3)) (c3 (.int 2)))) nil3))))
  (rt3 (lz3 (v3 1) (v3 2))))
theorem rd_spans_of:∀ (ds:List D) (H:Hp3) (Q:VK3),sp_spans_of ds H Q→t_spans_of (fin3 Q) (start3 N_spans_of ds) H:=by
 intro ds H Q h
 obtain ⟨_,_,rfl,h⟩:=h
 obtain ⟨W,cs,⟨rfl,rfl,hl,hn,hc⟩,h⟩:=h
 have hp:=List.length_pos_iff.mpr hn
 simp only [t_spans_of,start3,N_spans_of,List.map_cons,List.map_nil,List.length_cons,List.length_nil,Nat.reduceAdd,Nat.reduceSub,Nat.zero_add,List.replicate,List.cons_append,List.nil_append]
 walk_at "l3"
 refine g_slT (by rw [List.length_map]; unfold HT.sIx; simp only []; rw [if_neg (by omega)]; intro z; have:=z.1; omega) ?_
 rw [cut3_map,cut3_1 _ hn]
 walk_at "l3"
 intro p1 hp1
 walk_at "l3"
 refine g_ixT (atI_0 hn) ?_
 walk_at "l3"
 refine g_lenW (by omega) ?_
 walk_at "l3"
 intro p2 hp2
 walk_at "l3"
 have ee:(cs.drop 1).map D.int++[D.int (cs.headD 0 + (W.length:Int) / 2)] = (ends cs ((W.length:Int) / 2)).map D.int:=by unfold ends; rw [List.map_append]; rfl
 refine g_cat (upd3_old upd3_same hp2) upd3_same (by rw [List.length_map,List.length_drop,sizeLine_n]; show _ + 1≤_; omega) fun p3 hp3 => ?_
 rw [ee]
 walk_at "l3"
 refine g_lzk upd3_same (by rw [List.length_map]; omega) fun p4 hp4 => ?_
 have s2:=(Sub3.fresh (o:=.lst ((cs.drop 1).map D.int)) hp1).trans (Sub3.fresh (o:=.lst [D.int (cs.headD 0 + (W.length:Int) / 2)]) hp2)
 have s3:=s2.trans (Sub3.fresh (o:=.lst ((ends cs ((W.length:Int) / 2)).map D.int)) hp3)
 have h0:H p4 = none:=sub_back s3 hp4
 rw [zipD_map]
 exact g_fin (h p4 h0) (sub_upd (s3.upd h0) upd3_same)
def sp_cuts_of_two:Sp3:=fun ds H Q => ∃ h,ds = [.int h]∧((0≤h∧h≤21)∧∀ p,H p = none→Q (.ref p) (upd3 H p (.lst ((twoL h).map prP))))
theorem u_cuts_of_two {h:Int} {H:Hp3} {Q:VK3} (h0:0≤h) (h1:h≤21) (q:∀ p,H p = none→Q (.ref p) (upd3 H p (.lst ((twoL h).map prP)))):sp_cuts_of_two [.int h] H Q:=⟨_,rfl,⟨⟨h0,h1⟩,q⟩⟩
theorem len_cuts_of_two:∀ (ds:List D) (H:Hp3) (Q:VK3),sp_cuts_of_two ds H Q→ds.length = P_cuts_of_two.length:=by
 intro ds H Q h
 obtain ⟨_,rfl,_⟩:=h
 rfl
def lp_cuts_of_two_0:TS3:=fo3 (ir1 (v3 0)) (gn3 2) (dr3 (m3 r3ext (v3 1) (cons3 (cp3 (ir2 (o3 r3add (v3 2) (c3 (.int 1))) (v3 0)) (gn3 0) yes3 (tp3 (cons3 (v3 1) (cons3 (v3 0) nil3))) ["two"] [(2, "one")]) nil3)))
def t_cuts_of_two:TS3:=(sq3 (st3 1 (ls3 nil3))
  (sq3 lp_cuts_of_two_0
  (rt3 (v3 1))))
theorem rd_cuts_of_two:∀ (ds:List D) (H:Hp3) (Q:VK3),sp_cuts_of_two ds H Q→t_cuts_of_two (fin3 Q) (start3 N_cuts_of_two ds) H:=by
 intro ds H Q h
 obtain ⟨n,rfl,h⟩:=h
 obtain ⟨⟨h0,h1⟩,h⟩:=h
 simp only [t_cuts_of_two,start3,N_cuts_of_two,List.map_cons,List.map_nil,List.length_cons,List.length_nil,Nat.reduceAdd,Nat.reduceSub,Nat.zero_add,List.replicate,List.cons_append,List.nil_append]
 walk_at "l3"
 intro p hp
 walk_at "l3"
 unfold lp_cuts_of_two_0
 walk_at "l3"
 refine Lp.rng (fun i σ H2 => Sub3 H H2∧H2 p = some (.lst ((twoN n i).map prP))∧∃ x,σ = [some (.int n),some (.ref p),x]) ⟨Sub3.fresh hp,upd3_same,_,rfl⟩ ?_ ?_
 ·rintro i σ H2 hi ⟨hs,hH,x,rfl⟩
  rw [Int.zero_add]
  have hl2:=twoN_len n h1 i
  have hi21:i * 21≤21 * 21:=Nat.mul_le_mul_right _ (by omega)
  walk_at "l3"
  refine Cp.rng (fun j => prP ((i:Int),(i:Int) + 1 + (j:Int))) (by omega) ?_ ?_
  ·intro j hj R H4 hs4 hR
   walk_at "l3"
   exact hR H4 Sub3.refl
  intro p2 hp2
  have e:((List.range (n - ((i:Int) + 1)).toNat).map fun j:Nat => prP ((i:Int),(i:Int) + 1 + (j:Int))) = (twoR n i (n - ((i:Int) + 1)).toNat).map prP:=by unfold twoR; rw [List.map_map]; rfl
  rw [e]
  walk_at "l3"
  refine g_ext (upd3_old hH hp2) upd3_same (Nat.le_of_lt (small10000' (by rw [List.length_map,List.length_map]; have:(twoR n i (n - ((i:Int) + 1)).toNat).length = (n - ((i:Int) + 1)).toNat:=(by simp [twoR]); omega))) ?_
  walk_at "l3"
  refine ⟨fun b o hb => ?_,?_,_,rfl⟩
  ·rw [upd3_ne (ne3 hb hp)]; exact (hs.trans (Sub3.fresh hp2)) b o hb
  ·rw [upd3_same,twoN,List.map_append]
 ·rintro σ H2 ⟨hs,hH,x,rfl⟩
  walk_at "l3"
  exact g_fin (h p hp) (sub_upd hs hH)
def cat (ns:List Int) (k:Nat):Int:=if k < ns.length then ns.getD k 0 else if ns.length = 0 then 0 else ns.getD (k % ns.length) 0 * (48271 + (k:Int) * (k:Int)) % 1000003
def sp_l_cell_at:Sp3:=fun ds H Q => ∃ xs k,ds = [.fl xs,.int k]∧((match intsOf xs with
  | some ns => (0≤k∧k < 100000∧ns.length≤63)∧Q (.int (cat ns k.toNat)) H
  | none => False))
theorem u_l_cell_at {ns:List Int} {k:Int} {H:Hp3} {Q:VK3} (hk:0≤k) (hk1:k < 100000) (hl:ns.length≤63) (h:Q (.int (cat ns k.toNat)) H):sp_l_cell_at [.fl (ns.map D.int),.int k] H Q:=by
 refine ⟨_,_,rfl,?_⟩
 simp only [intsOf_map]; exact ⟨⟨hk,hk1,hl⟩,h⟩
local macro_rules | `(tactic| walk_at "l3c") => `(tactic| ((with_reducible show sp_l_cell_at _ _ _); refine u_l_cell_at (by walk_at "l3a") (by walk_at "l3a") (by assumption) ?_))
theorem len_l_cell_at:∀ (ds:List D) (H:Hp3) (Q:VK3),sp_l_cell_at ds H Q→ds.length = P_l_cell_at.length:=by
 intro ds H Q h
 obtain ⟨_,_,rfl,_⟩:=h
 rfl
def t_l_cell_at:TS3:=(sq3 (is3 (ts3 (o3 r3lt (v3 1) (cb3 r3len (cons3 (v3 0) nil3)))) (rt3 (o3 r3ix (v3 0) (v3 1))) nx3)
  (sq3 (is3 (ts3 (o3 r3eq (cb3 r3len (cons3 (v3 0) nil3)) (c3 (.int 0)))) (rt3 (c3 (.int 0))) nx3)
  (rt3 (o3 i3mod (o3 i3mulW (o3 r3ix (v3 0) (o3 i3mod (v3 1) (cb3 r3len (cons3 (v3 0) nil3)))) (o3 r3add (c3 (.int 48271)) (o3 i3mulW (v3 1) (v3 1)))) (c3 (.int 1000003))))))
theorem rd_l_cell_at:∀ (ds:List D) (H:Hp3) (Q:VK3),sp_l_cell_at ds H Q→t_l_cell_at (fin3 Q) (start3 N_l_cell_at ds) H:=by
 intro ds H Q h
 obtain ⟨xs,k,rfl,h⟩:=h
 split at h
 case h_2 => exact h.elim
 rename_i ns e
 have e':=intsOf_inv e
 subst e'
 obtain ⟨⟨hk,hk1,hns⟩,h⟩:=h
 obtain ⟨n,rfl⟩:=Int.eq_ofNat_of_zero_le hk
 rw [Int.toNat_natCast] at h
 simp only [t_l_cell_at,start3,N_l_cell_at,List.map_cons,List.map_nil,List.length_cons,List.length_nil,Nat.reduceAdd,Nat.reduceSub,Nat.zero_add,List.replicate,List.cons_append,List.nil_append]
 unfold cat at h
 walk_at "l3"
 rw [List.length_map]
 refine ifD (fun hlt => ?_) fun hlt => ?_
 ·have hl:n < ns.length:=by omega
  rw [if_pos hl] at h
  have ha:atI (ns.map D.int) (n:Int) = some (.int (ns.getD n 0)):=by
   rw [atI_map (by omega) (by rw [Int.toNat_natCast]; exact hl)]
   simp only [Int.toNat_natCast,List.getD_eq_getElem?_getD,List.getElem?_eq_getElem hl]; rfl
  walk_at "l3"
  refine g_ixF ha ?_
  walk_at "l3"
  exact g_fin h Sub3.refl
 ·have hl:¬ n < ns.length:=by omega
  rw [if_neg hl] at h
  walk_at "l3"
  rw [List.length_map]
  refine ifD (fun h0 => ?_) fun h0 => ?_
  ·walk_at "l3"
   rw [if_pos (by omega)] at h
   exact g_fin h Sub3.refl
  ·rw [if_neg (by omega)] at h
   have hp:(0:Int) < ns.length:=by omega
   have hm:n % ns.length < ns.length:=Nat.mod_lt _ (by omega)
   walk_at "l3"
   rw [List.length_map]
   refine g_mod hp ?_
   have ha:atI (ns.map D.int) ((n:Int) % (ns.length:Int)) = some (.int (ns.getD (n % ns.length) 0)):=by
    rw [← Int.natCast_emod,atI_map (by omega) (by rw [Int.toNat_natCast]; exact hm)]
    simp only [Int.toNat_natCast,List.getD_eq_getElem?_getD,List.getElem?_eq_getElem hm]; rfl
   refine g_ixF ha ?_
   walk_at "l3"
   have hq:(n:Int) * (n:Int)≤100000 * 100000:=Int.mul_le_mul (by omega) (by omega) (by omega) (by omega)
   have hq0:0≤(n:Int) * (n:Int):=Int.mul_nonneg (by omega) (by omega)
   refine g_mulW (.inl (.inr ⟨by omega,by omega⟩)) ?_
   walk_at "l3"
   exact g_fin h Sub3.refl
def sp_l_step:Sp3:=fun ds H Q => ∃ z,ds = [.str z]∧(∃ l:Lt,z = lt1 l∧Q (.tup [.int (step l).1,.int (step l).2]) H)
theorem u_l_step (l:Lt) {H:Hp3} {Q:VK3} (h:Q (.tup [.int (step l).1,.int (step l).2]) H):sp_l_step [.str (lt1 l)] H Q:=⟨_,rfl,⟨l,rfl,h⟩⟩
theorem enws_at (l:Lt):firstAt "enws" (lt1 l) = some l.val:=by
 match l with
 | 0 => rfl
 | 1 => rfl
 | 2 => rfl
 | 3 => rfl
theorem step_at (l:Lt):atI [D.tup [.int 1,.int 0],.tup [.int 0,.int 1],.tup [.int (-1),.int 0],.tup [.int 0,.int (-1)]] (l.val:Int) = some (.tup [.int (step l).1,.int (step l).2]):=by
 match l with
 | 0 => rfl
 | 1 => rfl
 | 2 => rfl
 | 3 => rfl
theorem len_l_step:∀ (ds:List D) (H:Hp3) (Q:VK3),sp_l_step ds H Q→ds.length = P_l_step.length:=by
 intro ds H Q h
 obtain ⟨_,rfl,_⟩:=h
 rfl
def t_l_step:TS3:=(rt3 (o3 r3ix (ls3 (cons3 (tp3 (cons3 (c3 (.int 1)) (cons3 (c3 (.int 0)) nil3))) (cons3 (tp3 (cons3 (c3 (.int 0)) (cons3 (c3 (.int 1)) nil3))) (cons3 (tp3 (cons3 (u3 r3neg (c3 (.int 1))) (cons3 (c3 (.int 0)) nil3))) (cons3 (tp3 (cons3 (c3 (.int 0)) (cons3 (u3 r3neg (c3 (.int 1))) nil3))) nil3))))) (mz3 r3index (c3 (.str "enws")) (cons3 (v3 0) nil3))))
theorem rd_l_step:∀ (ds:List D) (H:Hp3) (Q:VK3),sp_l_step ds H Q→t_l_step (fin3 Q) (start3 N_l_step ds) H:=by
 intro ds H Q h
 obtain ⟨z,rfl,h⟩:=h
 obtain ⟨l,rfl,h⟩:=h
 simp only [t_l_step,start3,N_l_step,List.map_cons,List.map_nil,List.length_cons,List.length_nil,Nat.reduceAdd,Nat.reduceSub,Nat.zero_add,List.replicate,List.cons_append,List.nil_append]
 walk_at "l3"
 intro p hp
 walk_at "l3"
 refine g_index (enws_at l) ?_
 walk_at "l3"
 refine g_ixL upd3_same (step_at l) ?_
 walk_at "l3"
 exact g_fin h (Sub3.fresh hp)
def sp_l_whole:Sp3:=fun ds H Q => ∃ w0_,ds = [.int w0_]∧(Q (.bl true) H)
theorem u_l_whole {i:Int} {H:Hp3} {Q:VK3} (h:Q (.bl true) H):sp_l_whole [.int i] H Q:=⟨_,rfl,h⟩
local macro_rules | `(tactic| walk_at "l3c") => `(tactic| (with_reducible refine u_l_whole ?_))
theorem len_l_whole:∀ (ds:List D) (H:Hp3) (Q:VK3),sp_l_whole ds H Q→ds.length = P_l_whole.length:=by
 intro ds H Q h
 obtain ⟨_,rfl,_⟩:=h
 rfl
def t_l_whole:TS3:=(rt3 (av3 (cb3 r3isi (cons3 (v3 0) (cons3 (c3 (.ty "int")) nil3))) (nv3 (cb3 r3isi (cons3 (v3 0) (cons3 (c3 (.ty "bool")) nil3))))))
theorem rd_l_whole:∀ (ds:List D) (H:Hp3) (Q:VK3),sp_l_whole ds H Q→t_l_whole (fin3 Q) (start3 N_l_whole ds) H:=by
 intro ds H Q h
 obtain ⟨_,rfl,h⟩:=h
 simp only [t_l_whole,start3,N_l_whole,List.map_cons,List.map_nil,List.length_cons,List.length_nil,Nat.reduceAdd,Nat.reduceSub,Nat.zero_add,List.replicate,List.cons_append,List.nil_append]
 walk_at "l3"
 refine ifY rfl ?_
 walk_at "l3"
 exact g_fin h Sub3.refl
def sp_l_back:Sp3:=fun ds H Q => ∃ z,ds = [.str z]∧(∃ ls:List Lt,(z = wStr ls∧ls.length≤500)∧Q (.str (wStr (bk ls))) H)
theorem u_l_back (ls:List Lt) {H:Hp3} {Q:VK3} (hl:ls.length≤500) (h:Q (.str (wStr (bk ls))) H):sp_l_back [.str (wStr ls)] H Q:=⟨_,rfl,⟨ls,⟨rfl,hl⟩,h⟩⟩
theorem enws_first (l:Lt):firstAt "enws" (lt1 l) = some l.val:=by
 match l with
 | 0 => rfl
 | 1 => rfl
 | 2 => rfl
 | 3 => rfl
theorem wsen_ix (l:Lt):atI (Str.ofString "wsen").cps.toList (l.val:Int) = some (cp (opp l)):=by
 match l with
 | 0 => rfl
 | 1 => rfl
 | 2 => rfl
 | 3 => rfl
theorem len_l_back:∀ (ds:List D) (H:Hp3) (Q:VK3),sp_l_back ds H Q→ds.length = P_l_back.length:=by
 intro ds H Q h
 obtain ⟨_,rfl,_⟩:=h
 rfl
def lp_l_back_0:TS3:=fo3 (iz3 (v3 0)) (gn3 2) (st3 1 (o3 r3add (o3 r3ix (c3 (.str "wsen")) (mz3 r3index (c3 (.str "enws")) (cons3 (v3 2) nil3))) (v3 1)))
def t_l_back:TS3:=(sq3 (st3 1 (c3 (.str "")))
  (sq3 lp_l_back_0
  (rt3 (v3 1))))
theorem rd_l_back:∀ (ds:List D) (H:Hp3) (Q:VK3),sp_l_back ds H Q→t_l_back (fin3 Q) (start3 N_l_back ds) H:=by
 intro ds H Q h
 obtain ⟨z,rfl,h⟩:=h
 obtain ⟨ls,⟨rfl,hl⟩,h⟩:=h
 simp only [t_l_back,start3,N_l_back,List.map_cons,List.map_nil,List.length_cons,List.length_nil,Nat.reduceAdd,Nat.reduceSub,Nat.zero_add,List.replicate,List.cons_append,List.nil_append]
 walk_at "l3"
 unfold lp_l_back_0
 walk_at "l3"
 rw [lets_w]
 refine Lp.by (fun i σ H2 => H2 = H∧∃ c,σ = [some (.str (wStr ls)),some (.str (wStr (bk (ls.take i)))),c]) ⟨rfl,_,rfl⟩ (fun _ _ _ _ _ => trivial) ?_ ?_
 ·rintro i d σ H2 hd ⟨rfl,c,rfl⟩
  rw [List.getElem?_map,Option.map_eq_some_iff] at hd
  obtain ⟨l,hl2,rfl⟩:=hd
  walk_at "l3"
  refine g_index (enws_first l) ?_
  walk_at "l3"
  refine g_ixZ (by rw [sizeLine_n]; decide) (wsen_ix l) ?_
  walk_at "l3"
  refine g_addZ (by rw [wStr_len,bk_len,List.length_take,sizeLine_n]; show 1 + _≤_; omega) ?_
  have ht:ls.take (i + 1) = ls.take i++[l]:=by rw [List.take_add_one,hl2]; rfl
  have e:(⟨#[cp (opp l)]⟩:Str)++wStr (bk (ls.take i)) = wStr (bk (ls.take (i + 1))):=by
   rw [ht,bk_app]
   exact wStr_app [opp l] _
  rw [e]
  walk_at "l3"
  exact ⟨rfl,_,rfl⟩
 ·rintro σ H2 ⟨rfl,c,rfl⟩
  rw [List.length_map,List.take_of_length_le (Nat.le_refl _)]
  walk_at "l3"
  exact g_fin h Sub3.refl
def sp_l_rest:Sp3:=fun ds H Q => ∃ a b d x y,ds = [.tup [.int a,.int b,.int d],.tup [.int x,.int y]]∧((GrOk a b d∧Bt 20000 x∧Bt 20000 y)∧Q (.tup [.int (rst (a,b,d) (x,y)).1,.int (rst (a,b,d) (x,y)).2]) H)
theorem u_l_rest {a b d x y:Int} {H:Hp3} {Q:VK3} (hg:GrOk a b d) (hx:Bt 20000 x) (hy:Bt 20000 y) (h:Q (.tup [.int (rst (a,b,d) (x,y)).1,.int (rst (a,b,d) (x,y)).2]) H):sp_l_rest [.tup [.int a,.int b,.int d],.tup [.int x,.int y]] H Q:=⟨_,_,_,_,_,rfl,⟨⟨hg,hx,hy⟩,h⟩⟩
theorem len_l_rest:∀ (ds:List D) (H:Hp3) (Q:VK3),sp_l_rest ds H Q→ds.length = P_l_rest.length:=by
 intro ds H Q h
 obtain ⟨_,_,_,_,_,rfl,_⟩:=h
 rfl
def t_l_rest:TS3:=(sq3 (st3 2 (o3 i3divW (o3 r3ix (v3 1) (c3 (.int 1))) (o3 r3ix (v3 0) (c3 (.int 2)))))
  (rt3 (tp3 (cons3 (o3 i3mod (o3 i3sub (o3 r3ix (v3 1) (c3 (.int 0))) (o3 i3mulW (v3 2) (o3 r3ix (v3 0) (c3 (.int 1))))) (o3 r3ix (v3 0) (c3 (.int 0)))) (cons3 (o3 i3sub (o3 r3ix (v3 1) (c3 (.int 1))) (o3 i3mulW (v3 2) (o3 r3ix (v3 0) (c3 (.int 2))))) nil3)))))
theorem rd_l_rest:∀ (ds:List D) (H:Hp3) (Q:VK3),sp_l_rest ds H Q→t_l_rest (fin3 Q) (start3 N_l_rest ds) H:=by
 intro ds H Q h
 obtain ⟨a,b,d,x,y,rfl,h⟩:=h
 obtain ⟨⟨hg,hx,hy⟩,h⟩:=h
 obtain ⟨g1,g2,g3,g4,g5,g6⟩:=id hg
 have gb:=hg.bb
 simp only [t_l_rest,start3,N_l_rest,List.map_cons,List.map_nil,List.length_cons,List.length_nil,Nat.reduceAdd,Nat.reduceSub,Nat.zero_add,List.replicate,List.cons_append,List.nil_append]
 walk_at "l3"
 rw [show y - y / d * d = rsY d y from rsY_eq d y]
 exact g_fin h Sub3.refl
structure Gof (ps:List Pt) (N:Nat) (E:Int) (n:Pt):Prop where
 nn:0≤E
 grp:∀ G,Grp G→(∀ p∈ps,G p)→G (E,0)∧G n
 ins:∀ p∈ps,In2 (E,0) n p
 b1:Bt N n.1
 b2:Bt 400 n.2
 be:Bt N E
theorem Gof.step {ps:List Pt} {N:Nat} {E:Int} {n s u:Pt} {w g:Int} (h:Gof ps N E n) (l:Lvl N n s u w) (m:Ms E w g):Gof (ps++[s]) (N + 400000) g u∧(g≠0→Gof (ps++[s]) (N + 400000) g (u.1 % g,u.2)):=by
 have bg:Bt (N + 400000) g:=(m.bt h.be l.bw).mono (by omega)
 obtain ⟨i,hi⟩:=m.i1
 obtain ⟨j,hj⟩:=m.i2
 have iE:∀ v,In2 (g,0) v (E,0):=fun v => ⟨i,0,by show E = i * g + 0 * v.1; omega,by show (0:Int) = i * 0 + 0 * v.2; omega⟩
 have iw:∀ v,In2 (g,0) v (w,0):=fun v => ⟨j,0,by show w = j * g + 0 * v.1; omega,by show (0:Int) = j * 0 + 0 * v.2; omega⟩
 have ins:∀ p∈ps++[s],In2 (g,0) u p:=by
  intro p hp
  rcases List.mem_append.mp hp with hp | hp
  ·exact In2.trans (iE _) (In2.trans (In2.right _ _) (iw _) l.i1) (h.ins p hp)
  ·rw [List.mem_singleton.mp hp]
   exact In2.trans (In2.right _ _) (iw _) l.i2
 have grp:∀ G,Grp G→(∀ p∈ps++[s],G p)→G (g,0)∧G u:=by
  intro G gG hG
  have h1:=h.grp G gG fun p hp => hG p (List.mem_append_left _ hp)
  have h2:=l.grp G gG h1.2 (hG s (List.mem_append_right _ (List.mem_singleton.mpr rfl)))
  exact ⟨m.grp G gG h1.1 h2.2,h2.1⟩
 refine ⟨⟨m.nn,grp,ins,l.b1,l.bu,bg⟩,fun hg => ?_⟩
 have hp:0 < g:=by have:=m.nn; omega
 have e:=Int.mul_ediv_add_emod u.1 g
 refine ⟨m.nn,fun G gG hG => ⟨(grp G gG hG).1,?_⟩,fun p hp => ?_,Bt.mod bg hp,l.bu,bg⟩
 ·have:=gG.sub _ _ (grp G gG hG).2 (gG.mul (grp G gG hG).1 (u.1 / g))
  simp only [Int.mul_zero,Int.sub_zero] at this
  rw [show u.1 % g = u.1 - u.1 / g * g from by rw [Int.mul_comm]; omega]
  exact this
 ·refine In2.trans (In2.left _ _) ⟨u.1 / g,1,?_,?_⟩ (ins p hp)
  ·show u.1 = u.1 / g * g + 1 * (u.1 % g); rw [Int.mul_comm (u.1 / g)]; omega
  ·show u.2 = u.1 / g * 0 + 1 * u.2; omega
structure GrOf (ps:List Pt) (e b d:Int):Prop where
 e0:0 < e
 b0:0≤b
 b1:b < e
 d0:0 < d
 grp:∀ G,Grp G→(∀ p∈ps,G p)→G (e,0)∧G (b,d)
 ins:∀ p∈ps,In2 (e,0) (b,d) p
def Wide (ps:List Pt):Prop:=∃ p∈ps,∃ q∈ps,crs p q≠0
theorem Gof.wide {ps:List Pt} {N:Nat} {E:Int} {n:Pt} (h:Gof ps N E n) (w:Wide ps):E≠0∧n.2≠0:=by
 obtain ⟨p,hp,q,hq,hc⟩:=w
 obtain ⟨k,e⟩:=crs_in (h.ins p hp) (h.ins q hq)
 have:crs (E,0) n≠0:=by intro z; rw [z,Int.mul_zero] at e; exact hc e
 unfold crs at this
 constructor
 ·intro z; rw [z] at this; simp at this
 ·intro z; rw [z] at this; simp at this
theorem Gof.empty:Gof [] 401 0 (0,0):=⟨by omega,fun G g _ => ⟨g.zero,g.zero⟩,by simp,by unfold Bt; exact Nat.two_pow_pos _,by unfold Bt; exact Nat.two_pow_pos _,by unfold Bt; exact Nat.two_pow_pos _⟩
theorem Gof.mod {ps:List Pt} {N:Nat} {E:Int} {n:Pt} (h:Gof ps N E n) (hE:0 < E) (g:Int) (hg:g = 1∨g = -1):∀ x:Int,x = g * n.1→Gof ps N E (x % E,g * n.2):=by
 intro x hx
 have e:=Int.mul_ediv_add_emod x E
 have gg:g * g = 1:=by rcases hg with rfl | rfl <;> rfl
 refine ⟨h.nn,fun G gG hG => ⟨(h.grp G gG hG).1,?_⟩,fun p hp => ?_,Bt.mod h.be hE,h.b2.of_le (by rcases hg with rfl | rfl <;> omega),h.be⟩
 ·have:=gG.sub _ _ (gG.mul (h.grp G gG hG).2 g) (gG.mul (h.grp G gG hG).1 (x / E))
  simp only [Int.mul_zero,Int.sub_zero] at this
  rw [show x % E = g * n.1 - x / E * E from by rw [Int.mul_comm (x / E),← hx]; omega]
  exact this
 ·refine In2.trans (In2.left _ _) ⟨g * (x / E),g,?_,?_⟩ (h.ins p hp)
  ·show n.1 = g * (x / E) * E + g * (x % E)
   rw [Int.mul_assoc,← Int.mul_add,show x / E * E + x % E = x from by rw [Int.mul_comm (x / E)]; omega,hx,← Int.mul_assoc,gg,Int.one_mul]
  ·show n.2 = g * (x / E) * 0 + g * (g * n.2)
   rw [← Int.mul_assoc,gg,Int.mul_zero]; omega
def sp_grid_of:Sp3:=fun ds H Q => ∃ a,ds = [.ref a]∧(∃ ps:List Pt,(H a = some (.lst (ps.map prP))∧ps.length≤100∧(∀ p∈ps,Bt 400 p.1∧Bt 400 p.2)∧Wide ps)∧∀ e b d,GrOf ps e b d→Q (.tup [.int e,.int b,.int d]) H)
theorem u_grid_of {a:Addr} (ps:List Pt) {H:Hp3} {Q:VK3} (ha:H a = some (.lst (ps.map prP))) (hl:ps.length≤100) (hb:∀ p∈ps,Bt 400 p.1∧Bt 400 p.2) (hw:Wide ps) (h:∀ e b d,GrOf ps e b d→Q (.tup [.int e,.int b,.int d]) H):sp_grid_of [.ref a] H Q:=⟨_,rfl,⟨ps,⟨ha,hl,hb,hw⟩,h⟩⟩
theorem len_grid_of:∀ (ds:List D) (H:Hp3) (Q:VK3),sp_grid_of ds H Q→ds.length = P_grid_of.length:=by
 intro ds H Q h
 obtain ⟨_,rfl,_⟩:=h
 rfl
def lp_grid_of_0:TS3:=fo3 (il3 (v3 0)) (gn3 3) (sq3 (st3 4 (cb3 sp_levelled (cons3 (v3 2) (cons3 (v3 3) nil3))))
  (sq3 (st3 2 (o3 r3ix (v3 4) (c3 (.int 0))))
  (sq3 (st3 1 (cb3 sp_common_measure (cons3 (v3 1) (cons3 (o3 r3ix (o3 r3ix (v3 4) (c3 (.int 1))) (c3 (.int 0))) nil3))))
  (is3 (ts3 (o3 r3ne (v3 1) (c3 (.int 0)))) (st3 2 (tp3 (cons3 (o3 i3mod (o3 r3ix (v3 2) (c3 (.int 0))) (v3 1)) (cons3 (o3 r3ix (v3 2) (c3 (.int 1))) nil3)))) nx3))))
def t_grid_of:TS3:=(sq3 (st3 1 (c3 (.int 0)))
  (sq3 (st3 2 (tp3 (cons3 (c3 (.int 0)) (cons3 (c3 (.int 0)) nil3))))
  (sq3 lp_grid_of_0
  (sq3 (is3 (or3 (ts3 (o3 r3eq (v3 1) (c3 (.int 0)))) (ts3 (o3 r3eq (o3 r3ix (v3 2) (c3 (.int 1))) (c3 (.int 0))))) ra3 nx3)
  (sq3 (is3 (ts3 (o3 r3lt (o3 r3ix (v3 2) (c3 (.int 1))) (c3 (.int 0)))) (st3 2 (tp3 (cons3 (o3 i3mod (u3 r3neg (o3 r3ix (v3 2) (c3 (.int 0)))) (v3 1)) (cons3 (u3 r3neg (o3 r3ix (v3 2) (c3 (.int 1)))) nil3)))) nx3)
  (rt3 (tp3 (cons3 (v3 1) (cons3 (o3 r3ix (v3 2) (c3 (.int 0))) (cons3 (o3 r3ix (v3 2) (c3 (.int 1))) nil3))))))))))
theorem rd_grid_of:∀ (ds:List D) (H:Hp3) (Q:VK3),sp_grid_of ds H Q→t_grid_of (fin3 Q) (start3 N_grid_of ds) H:=by
 intro ds H Q h
 obtain ⟨a,rfl,h⟩:=h
 obtain ⟨ps,⟨ha,hl,hb,hw⟩,h⟩:=h
 simp only [t_grid_of,start3,N_grid_of,List.map_cons,List.map_nil,List.length_cons,List.length_nil,Nat.reduceAdd,Nat.reduceSub,Nat.zero_add,List.replicate,List.cons_append,List.nil_append]
 walk_at "l3"
 unfold lp_grid_of_0
 walk_at "l3"
 refine Lp.by (fun i σ H2 => H2 = H∧∃ E:Int,∃ n:Pt,∃ y z,Gof (ps.take i) (401 + i * 400000) E n∧(E≠0→0≤n.1∧n.1 < E)∧σ = [some (.ref a),some (.int E),some (.tup [.int n.1,.int n.2]),y,z]) ⟨rfl,0,(0,0),none,none,Gof.empty,fun z => absurd rfl z,rfl⟩ (fun i σ H2 _ z => by rw [z.1]; exact ha) ?_ ?_
 ·rintro i dd σ H2 hd ⟨rfl,E,n,y,z,hi,hrd,rfl⟩
  rw [List.getElem?_map,Option.map_eq_some_iff] at hd
  obtain ⟨s,hs,rfl⟩:=hd
  have hm:=List.mem_of_getElem? hs
  have hlt:=(List.getElem?_eq_some_iff.mp hs).1
  have htk:ps.take (i + 1) = ps.take i++[s]:=by rw [List.take_add_one,hs]; rfl
  have eN:401 + (i + 1) * 400000 = 401 + i * 400000 + 400000:=by omega
  obtain ⟨n1,n2⟩:=n
  obtain ⟨s1,s2⟩:=s
  have bs:=hb _ hm
  unfold prP
  walk_at "l3"
  refine u_levelled (401 + i * 400000) (by omega) hi.b1 (bs.1.mono (by omega)) hi.b2 bs.2 fun u w hlv => ?_
  walk_at "l3"
  refine u_common_measure fun g hms => ?_
  have hst:=hi.step hlv hms
  rw [← htk,← eN] at hst
  walk_at "l3"
  refine ifN (fun hg => ?_) fun hg => ?_
  ·walk_at "l3"
   have h0:0 < g:=by have:=hms.nn; omega
   refine g_mod h0 ?_
   walk_at "l3"
   exact ⟨rfl,g,(u.1 % g,u.2),_,_,hst.2 hg,fun _ => ⟨Int.emod_nonneg _ hg,Int.emod_lt_of_pos _ h0⟩,rfl⟩
  ·walk_at "l3"
   exact ⟨rfl,g,u,_,_,hst.1,fun z => absurd hg z,rfl⟩
 ·rintro σ H2 ⟨rfl,E,n,y,z,hi,hrd,rfl⟩
  rw [List.length_map,List.take_of_length_le (Nat.le_refl _)] at hi
  obtain ⟨w1,w2⟩:=hi.wide hw
  have hE:0 < E:=by have:=hi.nn; omega
  have m0:∀ x:Int,0≤x % E:=fun x => Int.emod_nonneg _ (by omega)
  have m1:∀ x:Int,x % E < E:=fun x => Int.emod_lt_of_pos _ hE
  obtain ⟨n1,n2⟩:=n
  dsimp only at w2
  walk_at "l3"
  refine ifD (fun z => absurd z w1) fun _ => ?_
  walk_at "l3"
  refine ifD (fun z => absurd z w2) fun _ => ?_
  walk_at "l3"
  refine ifD (fun hn => ?_) fun hn => ?_
  ·walk_at "l3"
   have hi':=hi.mod hE (-1) (.inr rfl) (-n1) (by omega)
   have e2:(-1) * n2 = -n2:=by omega
   dsimp only at hi'
   rw [e2] at hi'
   exact g_fin (h _ _ _ ⟨hE,m0 _,m1 _,by omega,hi'.grp,hi'.ins⟩) Sub3.refl
  ·walk_at "l3"
   exact g_fin (h _ _ _ ⟨hE,(hrd w1).1,(hrd w1).2,by omega,hi.grp,hi.ins⟩) Sub3.refl
def sp_corners_of:Sp3:=fun ds H Q => ∃ x y z,ds = [.tup [.int x,.int y],.str z]∧(∃ ls:List Lt,(z = wStr ls∧ls.length≤500)∧∀ p,H p = none→Q (.ref p) (upd3 H p (.lst ((path (x,y) ls).map prP))))
theorem u_corners_of {x y:Int} (ls:List Lt) {H:Hp3} {Q:VK3} (hl:ls.length≤500) (h:∀ p,H p = none→Q (.ref p) (upd3 H p (.lst ((path (x,y) ls).map prP)))):sp_corners_of [.tup [.int x,.int y],.str (wStr ls)] H Q:=⟨_,_,_,rfl,⟨ls,⟨rfl,hl⟩,h⟩⟩
theorem steps_at (l:Lt):c_STEPS.lookup (lt1 l) = some (.ktup [.int (step l).1,.int (step l).2]):=by
 revert l; intro l; match l with
 | 0 => rfl
 | 1 => rfl
 | 2 => rfl
 | 3 => rfl
theorem len_corners_of:∀ (ds:List D) (H:Hp3) (Q:VK3),sp_corners_of ds H Q→ds.length = P_corners_of.length:=by
 intro ds H Q h
 obtain ⟨_,_,_,rfl,_⟩:=h
 rfl
def lp_corners_of_0:TS3:=fo3 (iz3 (v3 1)) (gn3 3) (dr3 (m3 r3app (v3 2) (cons3 (cb3 sp_added (cons3 (o3 r3ix (v3 2) (u3 r3neg (c3 (.int 1)))) (cons3 (kd3 c_STEPS (v3 3)) nil3))) nil3)))
def t_corners_of:TS3:=(sq3 (st3 2 (ls3 (cons3 (v3 0) nil3)))
  (sq3 lp_corners_of_0
  (rt3 (v3 2))))
theorem rd_corners_of:∀ (ds:List D) (H:Hp3) (Q:VK3),sp_corners_of ds H Q→t_corners_of (fin3 Q) (start3 N_corners_of ds) H:=by
 intro ds H Q h
 obtain ⟨x,y,z,rfl,h⟩:=h
 obtain ⟨ls,⟨rfl,hl⟩,h⟩:=h
 simp only [t_corners_of,start3,N_corners_of,List.map_cons,List.map_nil,List.length_cons,List.length_nil,Nat.reduceAdd,Nat.reduceSub,Nat.zero_add,List.replicate,List.cons_append,List.nil_append]
 walk_at "l3"
 intro p hp
 walk_at "l3"
 unfold lp_corners_of_0
 walk_at "l3"
 rw [lets_w]
 refine Lp.by (fun i σ H2 => H2 = upd3 H p (.lst ((path (x,y) (ls.take i)).map prP))∧∃ c,σ = [some (.tup [.int x,.int y]),some (.str (wStr ls)),some (.ref p),c]) ⟨by rw [List.take_zero]; rfl,_,rfl⟩ (fun _ _ _ _ _ => trivial) ?_ ?_
 ·rintro i d σ H2 hd ⟨rfl,c,rfl⟩
  rw [List.getElem?_map,Option.map_eq_some_iff] at hd
  obtain ⟨l,hl2,rfl⟩:=hd
  walk_at "l3"
  refine g_ixL upd3_same (path_last _ _) ?_
  walk_at "l3"
  refine g_kdk (steps_at l) ?_
  walk_at "l3"
  refine g_app upd3_same (small1000' (by rw [List.length_map,path_len,List.length_take]; omega)) ?_
  rw [upd3_upd3]
  walk_at "l3"
  have ht:ls.take (i + 1) = ls.take i++[l]:=by rw [List.take_add_one,hl2]; rfl
  refine ⟨?_,_,rfl⟩
  rw [ht,path_snoc,List.map_append]
  rfl
 ·rintro σ H2 ⟨rfl,c,rfl⟩
  rw [List.length_map,List.take_of_length_le (Nat.le_refl _)]
  walk_at "l3"
  exact g_fin (h p hp) Sub3.refl
def prtB (W:List Lt) (s:Int×Int):Bool:=decide (sub (W++W) (s.1 + (W.length:Int) / 2) (s.2 + (W.length:Int) / 2) = bk (sub (W++W) s.1 s.2))
def isP (W:List Lt) (cs:List Int):Bool:=(spn cs ((W.length:Int) / 2)).all (prtB W)
def sp_is_parting:Sp3:=fun ds H Q => ∃ z xs,ds = [.str z,.tup xs]∧(∃ (W:List Lt) (cs:List Int),(z = wStr W∧xs = cs.map D.int∧W.length≤100∧Cts cs ((W.length:Int) / 2))∧Q (.bl (isP W cs)) H)
theorem u_is_parting {W:List Lt} {cs:List Int} {H:Hp3} {Q:VK3} (hl:W.length≤100) (hc:Cts cs ((W.length:Int) / 2)) (h:Q (.bl (isP W cs)) H):sp_is_parting [.str (wStr W),.tup (cs.map D.int)] H Q:=⟨_,_,rfl,⟨W,cs,⟨rfl,rfl,hl,hc⟩,h⟩⟩
theorem len_is_parting:∀ (ds:List D) (H:Hp3) (Q:VK3),sp_is_parting ds H Q→ds.length = P_is_parting.length:=by
 intro ds H Q h
 obtain ⟨_,_,rfl,_⟩:=h
 rfl
def lp_is_parting_0:TS3:=fo3 (il3 (cb3 sp_spans_of (cons3 (v3 0) (cons3 (v3 1) nil3)))) (gn3 4) (sq3 (st3 5 (sl3 r3slZ (v3 3) (pt3 (o3 r3ix (v3 4) (c3 (.int 0)))) (pt3 (o3 r3ix (v3 4) (c3 (.int 1))))))
  (sq3 (st3 6 (sl3 r3slZ (v3 3) (pt3 (o3 r3add (o3 r3ix (v3 4) (c3 (.int 0))) (v3 2))) (pt3 (o3 r3add (o3 r3ix (v3 4) (c3 (.int 1))) (v3 2)))))
  (is3 (ts3 (o3 r3ne (v3 6) (cb3 sp_backwards (cons3 (v3 5) nil3)))) (rt3 (c3 (.bl false))) nx3)))
def t_is_parting:TS3:=(sq3 (st3 2 (o3 i3divW (cb3 r3len (cons3 (v3 0) nil3)) (c3 (.int 2))))
  (sq3 (st3 3 (o3 r3add (v3 0) (v3 0)))
  (sq3 lp_is_parting_0
  (rt3 (c3 (.bl true))))))
theorem rd_is_parting:∀ (ds:List D) (H:Hp3) (Q:VK3),sp_is_parting ds H Q→t_is_parting (fin3 Q) (start3 N_is_parting ds) H:=by
 intro ds H Q h
 obtain ⟨_,_,rfl,h⟩:=h
 obtain ⟨W,cs,⟨rfl,rfl,hl,hc⟩,h⟩:=h
 have hcl:=hc.len
 have hsl:=spn_len (L:=(W.length:Int) / 2) hc.ne
 simp only [t_is_parting,start3,N_is_parting,List.map_cons,List.map_nil,List.length_cons,List.length_nil,Nat.reduceAdd,Nat.reduceSub,Nat.zero_add,List.replicate,List.cons_append,List.nil_append]
 walk_at "l3"
 refine g_lenW (by omega) ?_
 walk_at "l3"
 refine g_addZ (by rw [wStr_len,sizeLine_n]; omega) ?_
 rw [wStr_app]
 walk_at "l3"
 unfold lp_is_parting_0
 walk_at "l3"
 refine u_spans_of (by omega) hc.ne (by omega) fun p1 hp1 => ?_
 walk_at "l3"
 refine Lp.by (fun i σ H2 => H2 = upd3 H p1 (.lst ((spn cs ((W.length:Int) / 2)).map prP))∧((spn cs ((W.length:Int) / 2)).take i).all (prtB W) = true∧∃ x y z,σ = [some (.str (wStr W)),some (.tup (cs.map D.int)),some (.int ((W.length:Int) / 2)),some (.str (wStr (W++W))),x,y,z]) ⟨rfl,rfl,_,_,_,rfl⟩ (fun i σ H2 _ z => by rw [z.1]; exact upd3_same) ?_ ?_
 ·rintro i d σ H2 hd ⟨rfl,hal,x,y,z,rfl⟩
  rw [List.getElem?_map] at hd
  obtain ⟨s,hs,rfl⟩:=Option.map_eq_some_iff.mp hd
  obtain ⟨b1,b2,b3,b4⟩:=hc.spn s (List.mem_of_getElem? hs)
  unfold prP
  walk_at "l3"
  refine g_slZ (wStr_le _ (by rw [List.length_append]; omega)) ?_
  rw [cut_sub _ b1 (by omega) (by rw [List.length_append]; omega)]
  walk_at "l3"
  refine g_slZ (wStr_le _ (by rw [List.length_append]; omega)) ?_
  rw [cut_sub _ (by omega) (by omega) (by rw [List.length_append]; omega)]
  walk_at "l3"
  refine u_backwards _ (by rw [subW_len b1 (by omega) (by rw [List.length_append]; omega)]; omega) ?_
  walk_at "l3"
  refine g_neW ?_
  walk_at "l3"
  refine ifN (fun hne => ?_) fun heq => ?_
  ·walk_at "l3"
   have hf:isP W cs = false:=by
    unfold isP
    rw [List.all_eq_false]
    exact ⟨s,List.mem_of_getElem? hs,by unfold prtB; simpa using hne⟩
   rw [hf] at h
   exact g_fin h (Sub3.fresh hp1)
  ·walk_at "l3"
   refine ⟨rfl,?_,_,_,_,rfl⟩
   rw [List.take_add_one,hs,List.all_append,hal]
   show (true && (prtB W s && true)) = true
   unfold prtB
   rw [decide_eq_true heq]; rfl
 ·rintro σ H2 ⟨rfl,hal,x,y,z,rfl⟩
  rw [List.length_map,List.take_length] at hal
  walk_at "l3"
  rw [show isP W cs = true from hal] at h
  exact g_fin h (Sub3.fresh hp1)
def sp_cuts_of_three:Sp3:=fun ds H Q => ∃ h,ds = [.int h]∧((0≤h∧h≤21)∧∀ p,H p = none→Q (.ref p) (upd3 H p (.lst ((thrL h (twoL h)).map trD))))
theorem u_cuts_of_three {h:Int} {H:Hp3} {Q:VK3} (h0:0≤h) (h1:h≤21) (q:∀ p,H p = none→Q (.ref p) (upd3 H p (.lst ((thrL h (twoL h)).map trD)))):sp_cuts_of_three [.int h] H Q:=⟨_,rfl,⟨⟨h0,h1⟩,q⟩⟩
theorem len_cuts_of_three:∀ (ds:List D) (H:Hp3) (Q:VK3),sp_cuts_of_three ds H Q→ds.length = P_cuts_of_three.length:=by
 intro ds H Q h
 obtain ⟨_,rfl,_⟩:=h
 rfl
def lp_cuts_of_three_0:TS3:=fo3 (il3 (cb3 sp_cuts_of_two (cons3 (v3 0) nil3))) (gn3 2) (dr3 (m3 r3ext (v3 1) (cons3 (cp3 (ir2 (o3 r3add (o3 r3ix (v3 2) (c3 (.int 1))) (c3 (.int 1))) (v3 0)) (gn3 0) yes3 (tp3 (cons3 (o3 r3ix (v3 1) (c3 (.int 0))) (cons3 (o3 r3ix (v3 1) (c3 (.int 1))) (cons3 (v3 0) nil3)))) ["three"] [(2, "pair")]) nil3)))
def t_cuts_of_three:TS3:=(sq3 (st3 1 (ls3 nil3))
  (sq3 lp_cuts_of_three_0
  (rt3 (v3 1))))
theorem rd_cuts_of_three:∀ (ds:List D) (H:Hp3) (Q:VK3),sp_cuts_of_three ds H Q→t_cuts_of_three (fin3 Q) (start3 N_cuts_of_three ds) H:=by
 intro ds H Q h
 obtain ⟨n,rfl,h⟩:=h
 obtain ⟨⟨h0,h1⟩,h⟩:=h
 have hl2:=twoL_len h0 h1
 simp only [t_cuts_of_three,start3,N_cuts_of_three,List.map_cons,List.map_nil,List.length_cons,List.length_nil,Nat.reduceAdd,Nat.reduceSub,Nat.zero_add,List.replicate,List.cons_append,List.nil_append]
 walk_at "l3"
 intro p hp
 walk_at "l3"
 unfold lp_cuts_of_three_0
 walk_at "l3"
 refine u_cuts_of_two h0 h1 fun p1 hp1 => ?_
 walk_at "l3"
 have n1:p≠p1:=ne3 upd3_same hp1
 have hq1:H p1 = none:=sub_back (Sub3.fresh hp) hp1
 refine Lp.by (fun i σ H2 => Sub3 H H2∧H2 p1 = some (.lst ((twoL n).map prP))∧H2 p = some (.lst ((thrL n ((twoL n).take i)).map trD))∧∃ x,σ = [some (.int n),some (.ref p),x]) ⟨(Sub3.fresh hp).trans (Sub3.fresh hp1),upd3_same,upd3_old upd3_same hp1,_,rfl⟩ (fun i σ H2 _ z => z.2.1) ?_ ?_
 ·rintro i d σ H2 hd ⟨hs,hH1,hH,x,rfl⟩
  rw [List.getElem?_map] at hd
  obtain ⟨c,hc,rfl⟩:=Option.map_eq_some_iff.mp hd
  have hcm:=List.mem_of_getElem? hc
  have hcp:=two_pos c hcm
  have hl3:=thrL_len h1 (ps:=(twoL n).take i) fun q hq => two_pos q (List.mem_of_mem_take hq)
  have htl:((twoL n).take i).length≤441:=by rw [List.length_take]; omega
  unfold prP
  walk_at "l3"
  refine Cp.rng (fun j => trD (c.1,c.2,c.2 + 1 + (j:Int))) (by omega) ?_ ?_
  ·intro j hj R H4 hs4 hR
   walk_at "l3"
   exact hR H4 Sub3.refl
  intro p2 hp2
  have e:((List.range (n - (c.2 + 1)).toNat).map fun j:Nat => trD (c.1,c.2,c.2 + 1 + (j:Int))) = (thrR n c).map trD:=by unfold thrR; rw [List.map_map]; rfl
  rw [e]
  have e2:(thrR n c).length = (n - (c.2 + 1)).toNat:=by simp [thrR]
  have n2:p1≠p2:=ne3 hH1 hp2
  walk_at "l3"
  refine g_ext (upd3_old hH hp2) upd3_same (Nat.le_of_lt (small10000' (by rw [List.length_map,List.length_map]; omega))) ?_
  walk_at "l3"
  refine ⟨fun b o hb => ?_,?_,?_,_,rfl⟩
  ·rw [upd3_ne (ne3 hb hp)]; exact (hs.trans (Sub3.fresh hp2)) b o hb
  ·rw [upd3_ne (Ne.symm n1)]; exact upd3_old hH1 hp2
  ·rw [upd3_same,List.take_add_one,hc]
   show _ = some (O3.lst ((thrL n ((twoL n).take i++[c])).map trD))
   rw [thrL_snoc,List.map_append]
 ·rintro σ H2 ⟨hs,hH1,hH,x,rfl⟩
  rw [List.length_map,List.take_length] at hH
  walk_at "l3"
  exact g_fin (h p hp) (sub_upd hs hH)
def sp_l_path:Sp3:=fun ds H Q => ∃ x y z,ds = [.tup [.int x,.int y],.str z]∧(∃ ls:List Lt,(z = wStr ls∧ls.length≤500)∧∀ p,H p = none→Q (.ref p) (upd3 H p (.lst ((path (x,y) ls).map prP))))
theorem u_l_path {x y:Int} (ls:List Lt) {H:Hp3} {Q:VK3} (hl:ls.length≤500) (h:∀ p,H p = none→Q (.ref p) (upd3 H p (.lst ((path (x,y) ls).map prP)))):sp_l_path [.tup [.int x,.int y],.str (wStr ls)] H Q:=⟨_,_,_,rfl,⟨ls,⟨rfl,hl⟩,h⟩⟩
theorem len_l_path:∀ (ds:List D) (H:Hp3) (Q:VK3),sp_l_path ds H Q→ds.length = P_l_path.length:=by
 intro ds H Q h
 obtain ⟨_,_,_,rfl,_⟩:=h
 rfl
def lp_l_path_0:TS3:=fo3 (iz3 (v3 1)) (gn3 3) (sq3 (st3 4 (cb3 sp_l_step (cons3 (v3 3) nil3)))
  (dr3 (m3 r3app (v3 2) (cons3 (tp3 (cons3 (o3 r3add (o3 r3ix (o3 r3ix (v3 2) (u3 r3neg (c3 (.int 1)))) (c3 (.int 0))) (o3 r3ix (v3 4) (c3 (.int 0)))) (cons3 (o3 r3add (o3 r3ix (o3 r3ix (v3 2) (u3 r3neg (c3 (.int 1)))) (c3 (.int 1))) (o3 r3ix (v3 4) (c3 (.int 1)))) nil3))) nil3))))
def t_l_path:TS3:=(sq3 (st3 2 (ls3 (cons3 (v3 0) nil3)))
  (sq3 lp_l_path_0
  (rt3 (v3 2))))
theorem rd_l_path:∀ (ds:List D) (H:Hp3) (Q:VK3),sp_l_path ds H Q→t_l_path (fin3 Q) (start3 N_l_path ds) H:=by
 intro ds H Q h
 obtain ⟨x,y,z,rfl,h⟩:=h
 obtain ⟨ls,⟨rfl,hl⟩,h⟩:=h
 simp only [t_l_path,start3,N_l_path,List.map_cons,List.map_nil,List.length_cons,List.length_nil,Nat.reduceAdd,Nat.reduceSub,Nat.zero_add,List.replicate,List.cons_append,List.nil_append]
 walk_at "l3"
 intro p hp
 walk_at "l3"
 unfold lp_l_path_0
 walk_at "l3"
 rw [lets_w]
 refine Lp.by (fun i σ H2 => H2 = upd3 H p (.lst ((path (x,y) (ls.take i)).map prP))∧∃ c d,σ = [some (.tup [.int x,.int y]),some (.str (wStr ls)),some (.ref p),c,d]) ⟨by rw [List.take_zero]; rfl,_,_,rfl⟩ (fun _ _ _ _ _ => trivial) ?_ ?_
 ·rintro i d σ H2 hd ⟨rfl,c,e,rfl⟩
  rw [List.getElem?_map,Option.map_eq_some_iff] at hd
  obtain ⟨l,hl2,rfl⟩:=hd
  walk_at "l3"
  refine u_l_step l ?_
  walk_at "l3"
  refine g_ixL upd3_same (path_last _ _) ?_
  walk_at "l3"
  refine g_ixL upd3_same (path_last _ _) ?_
  walk_at "l3"
  refine g_app upd3_same (small1000' (by rw [List.length_map,path_len,List.length_take]; omega)) ?_
  rw [upd3_upd3]
  walk_at "l3"
  have ht:ls.take (i + 1) = ls.take i++[l]:=by rw [List.take_add_one,hl2]; rfl
  refine ⟨?_,_,_,rfl⟩
  rw [ht,path_snoc,List.map_append]
  rfl
 ·rintro σ H2 ⟨rfl,c,e,rfl⟩
  rw [List.length_map,List.take_of_length_le (Nat.le_refl _)]
  walk_at "l3"
  exact g_fin (h p hp) Sub3.refl
def sp_l_letters:Sp3:=fun ds H Q => ∃ xs a n z,ds = [.fl xs,.int a,.int n,.str z]∧((match intsOf xs with
  | some ns => ∃ m:List Lt,(z = wStr m∧m≠[]∧m.length≤10∧0≤a∧a < 1000∧0≤n∧n≤20∧ns.length≤63)∧∀ w:List Lt,(w.length:Int) = n→Q (.str (wStr w)) H
  | none => False))
theorem u_l_letters {ns:List Int} {a n:Int} (m:List Lt) {z:Str} {H:Hp3} {Q:VK3} (hz:z = wStr m) (hm:m≠[]) (hm1:m.length≤10) (a0:0≤a) (a1:a < 1000) (n0:0≤n) (n1:n≤20) (hl:ns.length≤63) (h:∀ w:List Lt,(w.length:Int) = n→Q (.str (wStr w)) H):sp_l_letters [.fl (ns.map D.int),.int a,.int n,.str z] H Q:=by
 refine ⟨_,_,_,_,rfl,?_⟩
 simp only [intsOf_map]; exact ⟨m,⟨hz,hm,hm1,a0,a1,n0,n1,hl⟩,h⟩
theorem atW {m:List Lt} {i:Int} (h0:0≤i) (h1:i < m.length):∃ l,atI (wStr m).cps.toList i = some (cp l):=by
 have e:(wStr m).cps.toList = m.map cp:=by unfold wStr; rw [List.toList_toArray]
 refine ⟨m[i.toNat]'(by omega),?_⟩
 rw [e]
 unfold atI ixN
 rw [List.length_map,if_pos h0,if_pos h1,Option.bind_some,List.getElem?_map,List.getElem?_eq_getElem (by omega)]; rfl
theorem atW_last {m:List Lt} (h:m≠[]):∃ l,atI (wStr m).cps.toList (-1) = some (cp l):=by
 have e:(wStr m).cps.toList = m.map cp:=by unfold wStr; rw [List.toList_toArray]
 have hp:=List.length_pos_iff.mpr h
 refine ⟨m[m.length - 1]'(by omega),?_⟩
 rw [e]
 unfold atI ixN
 rw [List.length_map,if_neg (by omega),if_pos (by omega),Option.bind_some,List.getElem?_map,show (-1 + (m.length:Int)).toNat = m.length - 1 from by omega,List.getElem?_eq_getElem (by omega)]; rfl
theorem len_l_letters:∀ (ds:List D) (H:Hp3) (Q:VK3),sp_l_letters ds H Q→ds.length = P_l_letters.length:=by
 intro ds H Q h
 obtain ⟨_,_,_,_,rfl,_⟩:=h
 rfl
def lp_l_letters_0:TS3:=fo3 (ir1 (v3 2)) (gn3 5) (sq3 (st3 6 (o3 r3ix (v3 3) (o3 i3mod (cb3 sp_l_cell_at (cons3 (v3 0) (cons3 (o3 r3add (v3 1) (v3 5)) nil3))) (cb3 r3len (cons3 (v3 3) nil3)))))
  (sq3 (is3 (an3 (ts3 (o3 r3ne (v3 4) (c3 (.str "")))) (ts3 (o3 r3eq (v3 6) (cb3 sp_l_back (cons3 (o3 r3ix (v3 4) (u3 r3neg (c3 (.int 1)))) nil3))))) (st3 6 (o3 r3ix (v3 3) (c3 (.int 0)))) nx3)
  (st3 4 (o3 r3add (v3 4) (v3 6)))))
def t_l_letters:TS3:=(sq3 (st3 4 (c3 (.str "")))
  (sq3 lp_l_letters_0
  (rt3 (v3 4))))
theorem rd_l_letters:∀ (ds:List D) (H:Hp3) (Q:VK3),sp_l_letters ds H Q→t_l_letters (fin3 Q) (start3 N_l_letters ds) H:=by
 intro ds H Q h
 obtain ⟨xs,a,n,z,rfl,h⟩:=h
 split at h
 case h_2 => exact h.elim
 rename_i ns e
 have e':=intsOf_inv e
 subst e'
 obtain ⟨m,⟨rfl,hm,hm1,a0,a1,n0,n1,hl⟩,h⟩:=h
 have hp:=List.length_pos_iff.mpr hm
 simp only [t_l_letters,start3,N_l_letters,List.map_cons,List.map_nil,List.length_cons,List.length_nil,Nat.reduceAdd,Nat.reduceSub,Nat.zero_add,List.replicate,List.cons_append,List.nil_append]
 walk_at "l3"
 unfold lp_l_letters_0
 walk_at "l3"
 refine Lp.rng (fun i σ H2 => H2 = H∧∃ w:List Lt,∃ x y,w.length = i∧σ = [some (.fl (ns.map D.int)),some (.int a),some (.int n),some (.str (wStr m)),some (.str (wStr w)),x,y]) ⟨rfl,[],_,_,rfl,rfl⟩ ?_ ?_
 ·rintro i σ H2 hi ⟨rfl,w,x,y,hw,rfl⟩
  rw [Int.zero_add]
  have last:∀ (l:Lt) (q:Option D),(st3 4 (o3 r3add (v3 4) (v3 6))) { (fin3 Q) with nx:=fun σ H3 => H3 = H2∧∃ w:List Lt,∃ x y,w.length = i + 1∧σ = [some (.fl (ns.map D.int)),some (.int a),some (.int n),some (.str (wStr m)),some (.str (wStr w)),x,y] }
    [some (.fl (ns.map D.int)),some (.int a),some (.int n),some (.str (wStr m)),some (.str (wStr w)),q,some (.str (lt1 l))] H2:=by
   intro l q
   walk_at "l3"
   refine g_addZ (by rw [wStr_len,sizeLine_n]; show _ + 1≤_; omega) ?_
   rw [show wStr w++lt1 l = wStr (w++[l]) from by rw [← wStr_app]; rfl]
   walk_at "l3"
   exact ⟨rfl,_,_,_,by rw [List.length_append,hw]; rfl,rfl⟩
  walk_at "l3"
  refine g_lenW (by omega) ?_
  refine g_mod (by omega) ?_
  obtain ⟨l,el⟩:=atW (m:=m) (i:=cat ns (a + (i:Int)).toNat % (m.length:Int)) (Int.emod_nonneg _ (by omega)) (Int.emod_lt_of_pos _ (by omega))
  refine g_ixZ (wStr_le m (by omega)) el ?_
  walk_at "l3"
  refine g_neW (bs:=[]) ?_
  refine g_bt ?_
  refine ifN (fun hwn => ?_) fun hwn => ?_
  ·obtain ⟨l2,el2⟩:=atW_last hwn
   walk_at "l3"
   refine g_ixZ (wStr_le w (by omega)) el2 ?_
   walk_at "l3"
   refine u_l_back [l2] (by show 1≤500; omega) ?_
   walk_at "l3"
   refine g_eqW (as:=[l]) ?_
   walk_at "l3"
   refine ifD (fun _ => ?_) fun _ => ?_
   ·obtain ⟨l3,el3⟩:=atW (m:=m) (i:=0) (by omega) (by omega)
    walk_at "l3"
    refine g_ixZ (wStr_le m (by omega)) el3 ?_
    walk_at "l3"
    exact last l3 _
   ·walk_at "l3"
    exact last l _
  ·walk_at "l3"
   exact last l _
 ·rintro σ H2 ⟨rfl,w,x,y,hw,rfl⟩
  walk_at "l3"
  exact g_fin (h w (by omega)) Sub3.refl
def ltOf (c:Int):Lt:=match (c % 4).toNat with
 | 0 => 0
 | 1 => 1
 | 2 => 2
 | _ => 3
theorem enws_ix (c:Int):atI (Str.ofString "enws").cps.toList (c % 4) = some (cp (ltOf c)):=by
 have:c % 4 = 0∨c % 4 = 1∨c % 4 = 2∨c % 4 = 3:=by omega
 unfold ltOf
 rcases this with e | e | e | e <;> rw [e] <;> rfl
def strD (w:List Lt):D:=.str (wStr w)
theorem flat_filt:∀ ws:List (List Lt),(ws.filter fun w => !decide (w = [])).flatten = ws.flatten
 | [] => rfl
 | w::ws => by
  by_cases h:w = []
  ·subst h; simpa using flat_filt ws
  ·rw [List.filter_cons_of_pos (by simp [h]),List.flatten_cons,List.flatten_cons,flat_filt ws]
def sp_l_free:Sp3:=fun ds H Q => ∃ xs a,ds = [.fl xs,.int a]∧((match intsOf xs with
  | some ns => (0≤a∧a < 500∧ns.length≤63)∧∀ p (ws:List (List Lt)),H p = none→ws.length≤3→(∀ w∈ws,w≠[])→ws.flatten.length≤11→Q (.ref p) (upd3 H p (.lst (ws.map strD)))
  | none => False))
theorem u_l_free {ns:List Int} {a:Int} {H:Hp3} {Q:VK3} (a0:0≤a) (a1:a < 500) (hl:ns.length≤63) (h:∀ p (ws:List (List Lt)),H p = none→ws.length≤3→(∀ w∈ws,w≠[])→ws.flatten.length≤11→Q (.ref p) (upd3 H p (.lst (ws.map strD)))):sp_l_free [.fl (ns.map D.int),.int a] H Q:=by
 refine ⟨_,_,rfl,?_⟩
 simp only [intsOf_map]; exact ⟨⟨a0,a1,hl⟩,h⟩
theorem len_l_free:∀ (ds:List D) (H:Hp3) (Q:VK3),sp_l_free ds H Q→ds.length = P_l_free.length:=by
 intro ds H Q h
 obtain ⟨_,_,rfl,_⟩:=h
 rfl
def t_l_free:TS3:=(sq3 (st3 2 (cb3 sp_l_cell_at (cons3 (v3 0) (cons3 (v3 1) nil3))))
  (sq3 (st3 3 (mz3 r3join (c3 (.str "")) (cons3 (cp3 (ir1 (o3 r3add (c3 (.int 2)) (o3 i3mod (v3 2) (c3 (.int 10))))) (gn3 0) yes3 (o3 r3ix (c3 (.str "enws")) (o3 i3mod (cb3 sp_l_cell_at (cons3 (v3 1) (cons3 (o3 r3add (o3 r3add (v3 2) (c3 (.int 1))) (v3 0)) nil3))) (c3 (.int 4)))) ["_law_k"] [(0, "_law_script"),(1, "_law_at")]) nil3)))
  (sq3 (st3 4 (cb3 r3sortI (cons3 (ls3 (cons3 (o3 i3mod (o3 i3divW (v3 2) (c3 (.int 10))) (o3 r3add (cb3 r3len (cons3 (v3 3) nil3)) (c3 (.int 1)))) (cons3 (o3 i3mod (o3 i3divW (v3 2) (c3 (.int 1000))) (o3 r3add (cb3 r3len (cons3 (v3 3) nil3)) (c3 (.int 1)))) nil3))) nil3)))
  (sq3 (st3 5 (ls3 (cons3 (sl3 r3slZ (v3 3) np3 (pt3 (o3 r3ix (v3 4) (c3 (.int 0))))) (cons3 (sl3 r3slZ (v3 3) (pt3 (o3 r3ix (v3 4) (c3 (.int 0)))) (pt3 (o3 r3ix (v3 4) (c3 (.int 1))))) (cons3 (sl3 r3slZ (v3 3) (pt3 (o3 r3ix (v3 4) (c3 (.int 1)))) np3) nil3)))))
  (rt3 (cp3 (il3 (v3 5)) (gn3 0) (ts3 (o3 r3ne (v3 0) (c3 (.str "")))) (v3 0) ["_law_one"] []))))))
theorem rd_l_free:∀ (ds:List D) (H:Hp3) (Q:VK3),sp_l_free ds H Q→t_l_free (fin3 Q) (start3 N_l_free ds) H:=by
 intro ds H Q h
 obtain ⟨xs,a,rfl,h⟩:=h
 split at h
 case h_2 => exact h.elim
 rename_i ns e
 have e':=intsOf_inv e
 subst e'
 obtain ⟨⟨a0,a1,hns⟩,h⟩:=h
 simp only [t_l_free,start3,N_l_free,List.map_cons,List.map_nil,List.length_cons,List.length_nil,Nat.reduceAdd,Nat.reduceSub,Nat.zero_add,List.replicate,List.cons_append,List.nil_append]
 walk_at "l3"
 generalize cat ns a.toNat = c
 obtain ⟨m,hm⟩:=Int.eq_ofNat_of_zero_le (show 0≤2 + c % 10 by omega)
 have hm2:2≤m:=by omega
 have hm11:m≤11:=by omega
 rw [hm,Int.toNat_natCast]
 refine Cp.rng (fun k => .str (lt1 (ltOf (cat ns (a + 1 + (k:Int)).toNat)))) (by omega) ?_ ?_
 ·intro k hk R H2 hs hR
  rw [Int.zero_add]
  walk_at "l3"
  refine g_ixZ (by rw [sizeLine_n]; decide) (enws_ix _) ?_
  exact hR H2 Sub3.refl
 intro p hp
 walk_at "l3"
 have ej:joinZ (Str.ofString "") ((List.range m).map fun k:Nat => lt1 (ltOf (cat ns (a + 1 + (k:Int)).toNat))) = wStr ((List.range m).map fun k:Nat => ltOf (cat ns (a + 1 + (k:Int)).toNat)):=by
  have:=joinZ_lets (z:=Str.ofString "") rfl (((List.range m).map fun k:Nat => ltOf (cat ns (a + 1 + (k:Int)).toNat)).map cp)
  rw [List.map_map,List.map_map] at this
  exact this
 refine g_join (ys:=(List.range m).map fun k:Nat => lt1 (ltOf (cat ns (a + 1 + (k:Int)).toNat))) (by rw [upd3_same,List.map_map]; rfl) ?_ ?_
 ·rw [List.map_map,List.length_map,List.length_range]
  have:((List.range m).map ((fun y:Str => y.cps.size)∘fun k:Nat => lt1 (ltOf (cat ns (a + 1 + (k:Int)).toNat)))).sum = m:=by
   rw [show ((fun y:Str => y.cps.size)∘fun k:Nat => lt1 (ltOf (cat ns (a + 1 + (k:Int)).toNat))) = fun _ => 1 from rfl,List.map_const',List.sum_replicate_nat,List.length_range]; omega
  rw [this]
  have:(Str.ofString "").cps.size = 0:=rfl
  rw [this]
  omega
 rw [ej]
 have hw:((List.range m).map fun k:Nat => ltOf (cat ns (a + 1 + (k:Int)).toNat)).length = m:=by rw [List.length_map,List.length_range]
 generalize ((List.range m).map fun k:Nat => ltOf (cat ns (a + 1 + (k:Int)).toNat)) = w at hw
 have sb1:Sub3 H (upd3 H p (.lst (List.map (fun k:Nat => D.str (lt1 (ltOf (cat ns (a + 1 + (k:Int)).toNat)))) (List.range m)))):=Sub3.fresh hp
 generalize upd3 H p (.lst (List.map (fun k:Nat => D.str (lt1 (ltOf (cat ns (a + 1 + (k:Int)).toNat)))) (List.range m))) = H1 at sb1
 walk_at "l3"
 refine g_lenW (by omega) ?_
 walk_at "l3"
 refine g_lenW (by omega) ?_
 walk_at "l3"
 intro p1 hp1
 walk_at "l3"
 rw [hw]
 have c1:=Int.emod_nonneg (c / 10) (b:=(m:Int) + 1) (by omega)
 have c2:=Int.emod_lt_of_pos (c / 10) (b:=(m:Int) + 1) (by omega)
 have c3:=Int.emod_nonneg (c / 1000) (b:=(m:Int) + 1) (by omega)
 have c4:=Int.emod_lt_of_pos (c / 1000) (b:=(m:Int) + 1) (by omega)
 refine g_sortI (ns:=[c / 10 % ((m:Int) + 1),c / 1000 % ((m:Int) + 1)]) upd3_same (by simp) fun ms p2 hpm hs hp2 => ?_
 have hb:∀ x∈ms,0≤x∧x≤m:=fun x hx => by
  have:=hpm.mem_iff.mp hx
  simp only [List.mem_cons,List.not_mem_nil,or_false] at this
  rcases this with rfl | rfl
  ·exact ⟨c1,by omega⟩
  ·exact ⟨c3,by omega⟩
 have hml:=hpm.length_eq
 obtain ⟨x,y,rfl⟩:∃ x y,ms = [x,y]:=by
  rcases ms with _ | ⟨x,_ | ⟨y,_ | ⟨z,ms⟩⟩⟩
  ·simp at hml
  ·simp at hml
  ·exact ⟨x,y,rfl⟩
  ·simp at hml
 have hx:=hb x (by simp)
 have hy:=hb y (by simp)
 have hxy:x≤y:=by simpa using hs
 have sb2:Sub3 H (upd3 (upd3 H1 p1 (.lst [.int (c / 10 % ((m:Int) + 1)),.int (c / 1000 % ((m:Int) + 1))])) p2 (.lst ([x,y].map D.int))):=sb1.trans ((Sub3.fresh hp1).trans (Sub3.fresh hp2))
 have k2:upd3 (upd3 H1 p1 (.lst [.int (c / 10 % ((m:Int) + 1)),.int (c / 1000 % ((m:Int) + 1))])) p2 (.lst ([x,y].map D.int)) p2 = some (.lst [.int x,.int y]):=upd3_same
 generalize upd3 (upd3 H1 p1 (.lst [.int (c / 10 % ((m:Int) + 1)),.int (c / 1000 % ((m:Int) + 1))])) p2 (.lst ([x,y].map D.int)) = H2 at sb2 k2
 walk_at "l3"
 refine g_ixL k2 (d:=.int x) rfl ?_
 walk_at "l3"
 refine g_slZ (wStr_le _ (by omega)) ?_
 obtain ⟨nx,rfl⟩:=Int.eq_ofNat_of_zero_le hx.1
 obtain ⟨ny,rfl⟩:=Int.eq_ofNat_of_zero_le hy.1
 rw [cut_take]
 walk_at "l3"
 refine g_ixL k2 (d:=.int nx) rfl ?_
 walk_at "l3"
 refine g_ixL k2 (d:=.int ny) rfl ?_
 walk_at "l3"
 refine g_slZ (wStr_le _ (by omega)) ?_
 rw [cut_sub w hx.1 hxy (by omega)]
 walk_at "l3"
 refine g_ixL k2 (d:=.int ny) rfl ?_
 walk_at "l3"
 refine g_slZ (wStr_le _ (by omega)) ?_
 rw [cut_drop]
 walk_at "l3"
 intro p3 hp3
 have hf:([w.take nx,sub w nx ny,w.drop ny]:List (List Lt)).flatten.length≤11:=by
  simp only [List.flatten_cons,List.flatten_nil,List.append_nil,List.length_append,List.length_take,List.length_drop]
  unfold sub
  rw [List.length_take,List.length_drop]
  omega
 have hw3:([w.take nx,sub w nx ny,w.drop ny]:List (List Lt)).length = 3:=rfl
 have k3:upd3 H2 p3 (.lst [.str (wStr (w.take nx)),.str (wStr (sub w nx ny)),.str (wStr (w.drop ny))]) p3 = some (.lst (([w.take nx,sub w nx ny,w.drop ny]:List (List Lt)).map strD)):=upd3_same
 have sb3:=sb2.trans (Sub3.fresh (o:=.lst [.str (wStr (w.take nx)),.str (wStr (sub w nx ny)),.str (wStr (w.drop ny))]) hp3)
 generalize upd3 H2 p3 (.lst [.str (wStr (w.take nx)),.str (wStr (sub w nx ny)),.str (wStr (w.drop ny))]) = H3 at k3 sb3
 generalize ([w.take nx,sub w nx ny,w.drop ny]:List (List Lt)) = ws at k3 hf hw3
 walk_at "l3"
 refine Cp.filt (E:=strD) strD (fun w => !decide (w = [])) (fun H3 hs => hs _ _ k3) (by omega) ?_ ?_
 ·intro i w hiw R1 R0 H3 hs hy hno
  unfold strD
  walk_at "l3"
  refine g_neW (bs:=[]) ?_
  refine g_bt ?_
  refine ifN (fun z => ?_) fun z => ?_
  ·walk_at "l3"
   exact hy (by simp [z]) H3 Sub3.refl
  ·exact hno (by simp [z]) H3 Sub3.refl
 intro p4 hp4
 have h4:H p4 = none:=sub_back sb3 hp4
 refine g_fin (h p4 (ws.filter fun w => !decide (w = [])) h4 ?_ (fun w hw' => ?_) ?_) (sub_upd (sb3.upd h4) upd3_same)
 ·have:=List.length_filter_le (fun w:List Lt => !decide (w = [])) ws
  omega
 ·have:=List.mem_filter.mp hw'
  simpa using this.2
 ·rw [flat_filt]; exact hf
theorem spn_get {cs:List Int} {L:Int} {i:Nat} (hn:cs≠[]) (h:i < cs.length):(spn cs L)[i]? = some (cs[i],if (i:Int) < (cs.length:Int) - 1 then cs.getD (i + 1) 0 else cs.headD 0 + L):=by
 unfold spn
 rw [List.getElem?_zip_eq_some]
 refine ⟨List.getElem?_eq_getElem h,?_⟩
 unfold ends
 by_cases z:i + 1 < cs.length
 ·rw [List.getElem?_append_left (by rw [List.length_drop]; omega),List.getElem?_drop,if_pos (by omega),show 1 + i = i + 1 from by omega,List.getElem?_eq_getElem z,List.getD_eq_getElem?_getD,List.getElem?_eq_getElem z]; rfl
 ·rw [List.getElem?_append_right (by rw [List.length_drop]; omega),List.length_drop,show i - (cs.length - 1) = 0 from by omega,if_neg (by omega)]; rfl
def wAt (W:List Lt) (t:Nat):Lt:=W.getD (t % W.length) 0
section
variable {W U A s B A' B':List Lt} {L t j q b:Nat}
theorem wAt_lt (h:t < W.length):W[t]? = some (wAt W t):=by
 unfold wAt
 rw [Nat.mod_eq_of_lt h,List.getD_eq_getElem?_getD,List.getElem?_eq_getElem h]; rfl
theorem wAt_2 (h:t < W.length + W.length):(W++W)[t]? = some (wAt W t):=by
 by_cases z:t < W.length
 ·rw [List.getElem?_append_left z]; exact wAt_lt z
 ·rw [List.getElem?_append_right (by omega),wAt_lt (t:=t - W.length) (by omega)]
  unfold wAt
  rw [show t % W.length = (t - W.length) % W.length from by rw [Nat.mod_eq_sub_mod (by omega)]]
theorem wAt_3 (h:t < W.length + W.length + W.length):(W++W++W)[t]? = some (wAt W t):=by
 by_cases z:t < W.length + W.length
 ·rw [List.getElem?_append_left (by rw [List.length_append]; exact z)]; exact wAt_2 z
 ·rw [List.getElem?_append_right (by rw [List.length_append]; omega),List.length_append,wAt_lt (t:=t - (W.length + W.length)) (by omega)]
  unfold wAt
  rw [show t % W.length = (t - (W.length + W.length)) % W.length from by rw [Nat.mod_eq_sub_mod (a:=t) (by omega),Nat.mod_eq_sub_mod (a:=t - W.length) (by omega),Nat.sub_sub]]
theorem wAt_beg (hb:b≤W.length):wAt (beg W b) t = wAt W (t + b):=by
 by_cases h0:W.length = 0
 ·have:W = []:=List.length_eq_zero_iff.mp h0
  subst this
  simp at hb; subst hb; rfl
 have hl:=beg_len W b hb
 have hm:t % W.length < W.length:=Nat.mod_lt _ (by omega)
 unfold wAt
 rw [hl,List.getD_eq_getElem?_getD,List.getD_eq_getElem?_getD]
 congr 1
 unfold beg
 by_cases z:t % W.length < W.length - b
 ·rw [List.getElem?_append_left (by rw [List.length_drop]; exact z),List.getElem?_drop]
  congr 1
  rw [Nat.add_mod,Nat.mod_eq_of_lt (a:=t % W.length + b % W.length)]
  ·by_cases e:b = W.length
   ·omega
   ·rw [Nat.mod_eq_of_lt (by omega:b < W.length)]; omega
  ·by_cases e:b = W.length
   ·omega
   ·rw [Nat.mod_eq_of_lt (by omega:b < W.length)]; omega
 ·rw [List.getElem?_append_right (by rw [List.length_drop]; omega),List.length_drop,List.getElem?_take,if_pos (by omega)]
  congr 1
  by_cases e:b = W.length
  ·rw [e,Nat.add_mod_right]; omega
  ·have hb':b < W.length:=by omega
   have e1:(t + b) % W.length = (t % W.length + b) % W.length:=by rw [Nat.add_mod,Nat.mod_eq_of_lt hb']
   have e2:(t % W.length + b) % W.length = t % W.length + b - W.length:=by rw [Nat.mod_eq_sub_mod (a:=t % W.length + b) (by omega),Nat.mod_eq_of_lt (by omega)]
   omega
theorem bk_at {l:List Lt} (h:j < l.length):(bk l)[j]? = (l[l.length - 1 - j]?).map opp:=by
 unfold bk
 rw [List.getElem?_reverse (by rw [List.length_map]; exact h),List.length_map,List.getElem?_map]
theorem sub_at {l:List Lt} {c p:Int} (h0:0≤c) (h:(j:Int) < p - c):(sub l c p)[j]? = l[c.toNat + j]?:=by
 unfold sub
 rw [List.getElem?_take,if_pos (by omega),List.getElem?_drop]
theorem fel_bk {c p M:Int} (c0:0≤c) (cp:c≤p) (M0:0≤M) (hp:p + M≤W.length + W.length) (h:∀ j:Nat,(j:Int) < p - c→wAt W (c.toNat + M.toNat + j) = opp (wAt W (p.toNat - 1 - j))):bk (sub (W++W) c p) = sub (W++W++W) (c + M) (p + M):=by
 have l1:(sub (W++W) c p).length = (p - c).toNat:=subW_len c0 cp (by rw [List.length_append]; omega)
 have l2:(sub (W++W++W) (c + M) (p + M)).length = (p - c).toNat:=by rw [subW_len (by omega) (by omega) (by rw [List.length_append,List.length_append]; omega)]; omega
 refine List.ext_getElem? fun j => ?_
 by_cases hj:(j:Int) < p - c
 ·rw [bk_at (by rw [l1]; omega),l1,sub_at c0 (by omega),sub_at (by omega) (by omega),wAt_2 (by omega),wAt_3 (by omega),Option.map_some]
  congr 1
  rw [show (c + M).toNat + j = c.toNat + M.toNat + j from by omega,h j hj]
  congr 2
  omega
 ·rw [List.getElem?_eq_none (by rw [bk_len,l1]; omega),List.getElem?_eq_none (by rw [l2]; omega)]
theorem fel_U (hU:U = A++s++B++(A'++bk s++B')) (hA:A'.length = A.length) (hB:B'.length = B.length) (hL:L = A.length + s.length + B.length) (hj:j < s.length):wAt U (A.length + (q + 1) * L + j) = opp (wAt U (A.length + s.length - 1 - j + q * L)):=by
 have lU:U.length = L + L:=by rw [hU]; simp only [List.length_append,bk_len]; omega
 have base:∀ i,i < s.length→U[L + A.length + i]? = (U[A.length + s.length - 1 - i]?).map opp:=by
  intro i hi
  have e1:U[L + A.length + i]? = (bk s)[i]?:=by
   rw [hU,List.getElem?_append_right (by simp only [List.length_append]; omega),List.getElem?_append_left (by simp only [List.length_append,bk_len]; omega),List.getElem?_append_right (by simp only [List.length_append]; omega)]
   congr 1
   simp only [List.length_append]; omega
  have e2:U[A.length + s.length - 1 - i]? = s[s.length - 1 - i]?:=by
   rw [hU,List.getElem?_append_left (by simp only [List.length_append]; omega),List.getElem?_append_left (by simp only [List.length_append]; omega),List.getElem?_append_right (by omega)]
   congr 1
   omega
  rw [e1,e2,bk_at hi]
 have val:∀ i,i < s.length→wAt U (L + A.length + i) = opp (wAt U (A.length + s.length - 1 - i)):=by
  intro i hi
  have:=base i hi
  rw [wAt_lt (by omega),wAt_lt (by omega),Option.map_some] at this
  exact Option.some.inj this
 have per:∀ t k,wAt U (t + k * (L + L)) = wAt U t:=by
  intro t k
  unfold wAt
  rw [lU,Nat.add_mul_mod_self_right]
 rcases Nat.mod_two_eq_zero_or_one q with hq | hq
 ·obtain ⟨k,rfl⟩:∃ k,q = 2 * k:=⟨q / 2,by omega⟩
  rw [show A.length + (2 * k + 1) * L + j = L + A.length + j + k * (L + L) from by rw [Nat.add_mul,Nat.mul_add,Nat.mul_assoc,Nat.mul_comm 2]; omega,per,show A.length + s.length - 1 - j + 2 * k * L = A.length + s.length - 1 - j + k * (L + L) from by rw [Nat.mul_add,Nat.mul_assoc,Nat.mul_comm 2]; omega,per]
  exact val j hj
 ·obtain ⟨k,rfl⟩:∃ k,q = 2 * k + 1:=⟨q / 2,by omega⟩
  rw [show A.length + (2 * k + 1 + 1) * L + j = A.length + j + (k + 1) * (L + L) from by rw [Nat.add_mul,Nat.add_mul,Nat.add_mul,Nat.mul_add,Nat.mul_assoc,Nat.mul_comm 2]; omega,per,show A.length + s.length - 1 - j + (2 * k + 1) * L = L + A.length + (s.length - 1 - j) + k * (L + L) from by rw [Nat.add_mul,Nat.mul_add,Nat.mul_assoc,Nat.mul_comm 2]; omega,per,val _ (by omega),opp_opp]
  congr 1
  omega
end
structure Blt (W:List Lt) (cs:List Int):Prop where
 len:4≤W.length∧W.length≤80
 cts:Cts cs ((W.length:Int) / 2)
 fel:∀ s∈spn cs ((W.length:Int) / 2),bk (sub (W++W) s.1 s.2) = sub (W++W++W) (s.1 + (W.length:Int) / 2) (s.2 + (W.length:Int) / 2)
theorem fel_span {U A s B A' B':List Lt} {L b:Nat} {c p β q:Int} (hU:U = A++s++B++(A'++bk s++B')) (hA:A'.length = A.length) (hB:B'.length = B.length) (hL:L = A.length + s.length + B.length) (hb:b≤U.length) (hβ:(b:Int) = β % (L + L:Int)) (β0:0≤β)
  (c0:0≤c) (q0:0≤q) (hc:c + β = A.length + q * L) (hp:p + β = A.length + s.length + q * L) (hpL:p + L≤(L + L) + (L + L)):bk (sub (beg U b++beg U b) c p) = sub (beg U b++beg U b++beg U b) (c + L) (p + L):=by
 have lU:U.length = L + L:=by rw [hU]; simp only [List.length_append,bk_len]; omega
 have lb:(beg U b).length = L + L:=by rw [beg_len U b hb,lU]
 by_cases hL0:L = 0
 ·have:s = []:=List.length_eq_zero_iff.mp (by omega)
  subst this
  have:c = p:=by simp only [List.length_nil] at hp; omega
  subst this
  unfold sub
  rw [Int.sub_self,Int.sub_self]; rfl
 obtain ⟨β',rfl⟩:=Int.eq_ofNat_of_zero_le β0
 obtain ⟨q',rfl⟩:=Int.eq_ofNat_of_zero_le q0
 obtain ⟨c',rfl⟩:=Int.eq_ofNat_of_zero_le c0
 have hβn:b = β' % (L + L):=by exact_mod_cast hβ
 have hcn:c' + β' = A.length + q' * L:=by exact_mod_cast hc
 have hp1:p = (c':Int) + s.length:=by omega
 have hp0:0≤p:=by omega
 obtain ⟨p',rfl⟩:=Int.eq_ofNat_of_zero_le hp0
 have hpn:p' + β' = A.length + s.length + q' * L:=by exact_mod_cast hp
 refine fel_bk (by omega) (by omega) (by omega) (by rw [lb]; omega) fun j hj => ?_
 have per:∀ t,wAt (beg U b) t = wAt U (t + β'):=by
  intro t
  rw [wAt_beg hb]
  unfold wAt
  rw [lU,hβn,Nat.add_mod,Nat.mod_mod,← Nat.add_mod]
 rw [per,per]
 simp only [Int.toNat_natCast]
 have:=fel_U (q:=q') (j:=j) hU hA hB hL (by omega)
 rw [show c' + L + j + β' = A.length + (q' + 1) * L + j from by rw [Nat.add_mul]; omega,show p' - 1 - j + β' = A.length + s.length - 1 - j + q' * L from by omega]
 exact this
theorem cut_q {a β L x:Int} (L0:0 < L) (a0:0≤a) (aL:a < L) (hx:x = (0 - β) % L):(a - β) % L = if x + a < L then x + a else x + a - L:=by
 have x0:0≤x:=by rw [hx]; exact Int.emod_nonneg _ (by omega)
 have x1:x < L:=by rw [hx]; exact Int.emod_lt_of_pos _ L0
 have e:(a - β) % L = (x + a) % L:=by
  rw [hx,show a - β = (0 - β) + a from by omega,Int.emod_add_emod]
 rw [e]
 split
 ·rename_i z; exact Int.emod_eq_of_lt (by omega) z
 ·rw [← Int.sub_emod_right,Int.emod_eq_of_lt (by omega) (by omega)]
theorem uniqI {ms ns es:List Int} (h1:ms.Perm ns) (h2:es.Perm ns) (w1:ms.Pairwise (·≤·)) (w2:es.Pairwise (·≤·)):ms = es:=(h1.trans h2.symm).eq_of_pairwise (fun _ _ _ _ a b => Int.le_antisymm a b) w1 w2
theorem fel_0 {U A s B A' B':List Lt} {L b:Nat} {x β:Int} (hU:U = A++s++B++(A'++bk s++B')) (hA:A'.length = A.length) (hB:B'.length = B.length) (hL:L = A.length + s.length + B.length) (hb:b≤U.length) (hβ:(b:Int) = β % (L + L:Int)) (β0:0≤β) (L0:0 < L) (hx:x = (0 - β) % (L:Int)) (c p:Int)
  (h:c = x + A.length∧p = x + A.length + s.length∨(L:Int)≤x + A.length∧A.length < L∧c = x + A.length - L∧p = x + A.length + s.length - L):bk (sub (beg U b++beg U b) c p) = sub (beg U b++beg U b++beg U b) (c + L) (p + L):=by
 have x0:0≤x:=by rw [hx]; exact Int.emod_nonneg _ (by omega)
 have x1:x < L:=by rw [hx]; exact Int.emod_lt_of_pos _ (by omega)
 have hq:x + β = -((0 - β) / (L:Int)) * L:=by
  have:=Int.emod_add_mul_ediv (0 - β) (L:Int)
  rw [← hx,Int.mul_comm] at this
  rw [Int.neg_mul]; omega
 generalize -((0 - β) / (L:Int)) = q at hq
 have q0:0≤q:=by
  by_cases z:q < 0
  ·have:q * L≤-1 * (L:Int):=Int.mul_le_mul_of_nonneg_right (by omega) (by omega)
   omega
  ·omega
 rcases h with ⟨rfl,rfl⟩ | ⟨h1,h2,rfl,rfl⟩
 ·exact fel_span hU hA hB hL hb hβ β0 (by omega) q0 (by omega) (by omega) (by omega)
 ·have q1:0≤q - 1:=by
   by_cases z:q = 0
   ·subst z; rw [Int.zero_mul] at hq; omega
   ·omega
  have e:(q - 1) * (L:Int) = q * L - L:=by rw [Int.sub_mul]; omega
  exact fel_span hU hA hB hL hb hβ β0 (by omega) q1 (by omega) (by omega) (by omega)
theorem blt2 {s1 s2:List Lt} {β L:Int} {ms:List Int} (h1:0 < s1.length) (h2:0 < s2.length) (l1:s1.length≤12) (l2:s2.length≤12) (β0:0≤β) (hL:L = (s1.length:Int) + s2.length) (hp:ms.Perm [(0 - β) % L,((s1.length:Int) - β) % L]) (hw:ms.Pairwise (·≤·)):Blt (beg (s1++s2++(bk s1++bk s2)) (β % (L + L)).toNat) ms:=by
 obtain ⟨M,rfl⟩:=Int.eq_ofNat_of_zero_le (show 0≤L by omega)
 have hM:M = s1.length + s2.length:=by omega
 have u0:=Int.emod_nonneg β (b:=(M + M:Int)) (by omega)
 have u1:=Int.emod_lt_of_pos β (b:=(M + M:Int)) (by omega)
 generalize hU:s1++s2++(bk s1++bk s2) = U
 have lU:U.length = M + M:=by rw [← hU]; simp only [List.length_append,bk_len]; omega
 generalize hb:(β % (M + M:Int)).toNat = b
 have hbU:b≤U.length:=by omega
 have hbβ:(b:Int) = β % (M + M:Int):=by omega
 have lW:(beg U b).length = M + M:=by rw [beg_len U b hbU,lU]
 have hh:((beg U b).length:Int) / 2 = M:=by omega
 generalize hx:(0 - β) % (M:Int) = x at hp
 have x0:0≤x:=by rw [← hx]; exact Int.emod_nonneg _ (by omega)
 have x1:x < M:=by rw [← hx]; exact Int.emod_lt_of_pos _ (by omega)
 have F1:=fel_0 (A:=[]) (s:=s1) (B:=s2) (A':=[]) (B':=bk s2) (L:=M) (b:=b) (U:=U) (by rw [← hU]; rfl) rfl (bk_len _) (by rw [List.length_nil]; omega) hbU hbβ β0 (by omega) hx.symm
 have F2:=fel_0 (A:=s1) (s:=s2) (B:=[]) (A':=bk s1) (B':=[]) (L:=M) (b:=b) (U:=U) (by rw [← hU]; simp only [List.append_nil]) (bk_len _) rfl (by rw [List.length_nil]; omega) hbU hbβ β0 (by omega) hx.symm
 rw [List.length_nil] at F1
 rw [cut_q (x:=x) (by omega) (by omega) (by omega) hx.symm] at hp
 by_cases z:x + (s1.length:Int) < M
 ·rw [if_pos z] at hp
  obtain rfl:=uniqI hp (List.Perm.refl _) hw (by simp; omega)
  refine ⟨by omega,⟨.inl rfl,by simp; omega,?_⟩,?_⟩
  ·rw [hh]; simp; omega
  ·rw [hh]
   simp only [spn,ends,List.drop_succ_cons,List.drop_zero,List.cons_append,List.nil_append,List.headD_cons,List.zip_cons_cons,List.zip_nil_right,List.mem_cons,List.not_mem_nil,or_false,forall_eq_or_imp,forall_eq]
   exact ⟨F1 _ _ (by omega),F2 _ _ (by omega)⟩
 ·rw [if_neg z] at hp
  obtain rfl:=uniqI hp (List.Perm.swap x _ _) hw (by simp; omega)
  refine ⟨by omega,⟨.inl rfl,by simp; omega,?_⟩,?_⟩
  ·rw [hh]; simp; omega
  ·rw [hh]
   simp only [spn,ends,List.drop_succ_cons,List.drop_zero,List.cons_append,List.nil_append,List.headD_cons,List.zip_cons_cons,List.zip_nil_right,List.mem_cons,List.not_mem_nil,or_false,forall_eq_or_imp,forall_eq]
   exact ⟨F2 _ _ (by omega),F1 _ _ (by omega)⟩
theorem blt3 {s1 s2 s3:List Lt} {β L:Int} {ms:List Int} (h1:0 < s1.length) (h2:0 < s2.length) (h3:0 < s3.length) (l1:s1.length≤12) (l2:s2.length≤12) (l3:s3.length≤12) (β0:0≤β) (hL:L = (s1.length:Int) + s2.length + s3.length) (hp:ms.Perm [(0 - β) % L,((s1.length:Int) - β) % L,((s1.length:Int) + s2.length - β) % L]) (hw:ms.Pairwise (·≤·)):Blt (beg (s1++s2++s3++(bk s1++bk s2++bk s3)) (β % (L + L)).toNat) ms:=by
 obtain ⟨M,rfl⟩:=Int.eq_ofNat_of_zero_le (show 0≤L by omega)
 have hM:M = s1.length + s2.length + s3.length:=by omega
 have u0:=Int.emod_nonneg β (b:=(M + M:Int)) (by omega)
 have u1:=Int.emod_lt_of_pos β (b:=(M + M:Int)) (by omega)
 generalize hU:s1++s2++s3++(bk s1++bk s2++bk s3) = U
 have lU:U.length = M + M:=by rw [← hU]; simp only [List.length_append,bk_len]; omega
 generalize hb:(β % (M + M:Int)).toNat = b
 have hbU:b≤U.length:=by omega
 have hbβ:(b:Int) = β % (M + M:Int):=by omega
 have lW:(beg U b).length = M + M:=by rw [beg_len U b hbU,lU]
 have hh:((beg U b).length:Int) / 2 = M:=by omega
 generalize hx:(0 - β) % (M:Int) = x at hp
 have x0:0≤x:=by rw [← hx]; exact Int.emod_nonneg _ (by omega)
 have x1:x < M:=by rw [← hx]; exact Int.emod_lt_of_pos _ (by omega)
 have F1:=fel_0 (A:=[]) (s:=s1) (B:=s2++s3) (A':=[]) (B':=bk s2++bk s3) (L:=M) (b:=b) (U:=U) (by rw [← hU]; simp only [List.append_assoc,List.nil_append]) rfl (by rw [List.length_append,List.length_append,bk_len,bk_len]) (by rw [List.length_nil,List.length_append]; omega) hbU hbβ β0 (by omega) hx.symm
 have F2:=fel_0 (A:=s1) (s:=s2) (B:=s3) (A':=bk s1) (B':=bk s3) (L:=M) (b:=b) (U:=U) hU.symm (bk_len _) (bk_len _) hM hbU hbβ β0 (by omega) hx.symm
 have F3:=fel_0 (A:=s1++s2) (s:=s3) (B:=[]) (A':=bk s1++bk s2) (B':=[]) (L:=M) (b:=b) (U:=U) (by rw [← hU]; simp only [List.append_nil]) (by rw [List.length_append,List.length_append,bk_len,bk_len]) rfl (by rw [List.length_nil,List.length_append]; omega) hbU hbβ β0 (by omega) hx.symm
 rw [List.length_nil] at F1
 rw [List.length_append] at F3
 rw [cut_q (x:=x) (by omega) (by omega) (by omega) hx.symm,cut_q (a:=(s1.length:Int) + s2.length) (x:=x) (by omega) (by omega) (by omega) hx.symm] at hp
 by_cases z:x + ((s1.length:Int) + s2.length) < M
 ·rw [if_pos (by omega),if_pos z] at hp
  obtain rfl:=uniqI hp (List.Perm.refl _) hw (by simp; omega)
  refine ⟨by omega,⟨.inr rfl,by simp; omega,?_⟩,?_⟩
  ·rw [hh]; simp; omega
  ·rw [hh]
   simp only [spn,ends,List.drop_succ_cons,List.drop_zero,List.cons_append,List.nil_append,List.headD_cons,List.zip_cons_cons,List.zip_nil_right,List.mem_cons,List.not_mem_nil,or_false,forall_eq_or_imp,forall_eq]
   exact ⟨F1 _ _ (by omega),F2 _ _ (by omega),F3 _ _ (by omega)⟩
 ·by_cases y:x + (s1.length:Int) < M
  ·rw [if_pos y,if_neg z] at hp
   obtain rfl:=uniqI hp ((List.Perm.swap x _ _).trans ((List.Perm.swap _ _ _).cons x)) hw (by simp; omega)
   refine ⟨by omega,⟨.inr rfl,by simp; omega,?_⟩,?_⟩
   ·rw [hh]; simp; omega
   ·rw [hh]
    simp only [spn,ends,List.drop_succ_cons,List.drop_zero,List.cons_append,List.nil_append,List.headD_cons,List.zip_cons_cons,List.zip_nil_right,List.mem_cons,List.not_mem_nil,or_false,forall_eq_or_imp,forall_eq]
    exact ⟨F3 _ _ (by omega),F1 _ _ (by omega),F2 _ _ (by omega)⟩
  ·rw [if_neg y,if_neg z] at hp
   obtain rfl:=uniqI hp (((List.Perm.swap x _ _).cons _).trans (List.Perm.swap x _ _)) hw (by simp; omega)
   refine ⟨by omega,⟨.inr rfl,by simp; omega,?_⟩,?_⟩
   ·rw [hh]; simp; omega
   ·rw [hh]
    simp only [spn,ends,List.drop_succ_cons,List.drop_zero,List.cons_append,List.nil_append,List.headD_cons,List.zip_cons_cons,List.zip_nil_right,List.mem_cons,List.not_mem_nil,or_false,forall_eq_or_imp,forall_eq]
    exact ⟨F2 _ _ (by omega),F3 _ _ (by omega),F1 _ _ (by omega)⟩
theorem pw_step {W:List Lt} {i:Nat} (hW:endp (0,0) W = (0,0)) (h0:0 < W.length):pw W (i + 1) = adp (step (wAt W i)) (pw W i):=by
 have hm:=Nat.mod_lt i h0
 unfold pw wAt
 have ht:W.take (i % W.length + 1) = W.take (i % W.length)++[W.getD (i % W.length) 0]:=by
  rw [List.take_add_one,List.getD_eq_getElem?_getD,List.getElem?_eq_getElem hm]; rfl
 rw [← endp_snoc,← ht]
 by_cases z:i % W.length + 1 < W.length
 ·rw [Nat.add_mod,Nat.mod_eq_of_lt (a:=i % W.length + 1 % W.length)]
  ·rw [Nat.mod_eq_of_lt (a:=1) (by omega)]
  ·rw [Nat.mod_eq_of_lt (a:=1) (by omega)]; exact z
 ·rw [List.take_of_length_le (i:=i % W.length + 1) (by omega),hW]
  have e:(i + 1) % W.length = 0:=by
   rw [← Nat.div_add_mod i W.length,Nat.add_assoc,show i % W.length + 1 = W.length from by omega,Nat.mul_add_mod,Nat.mod_self]
  rw [e]; rfl
theorem endp_bk (c:Pt):∀ ls:List Lt,endp (endp c ls) (bk ls) = c:=by
 intro ls
 induction ls generalizing c with
 | nil => rfl
 | cons l ls ih =>
  have e1:endp c (l::ls) = endp (adp (step l) c) ls:=rfl
  have e2:bk (l::ls) = bk ls++[opp l]:=by unfold bk; rw [List.map_cons,List.reverse_cons]
  rw [e1,e2,endp_snoc,ih,step_opp]
theorem clo_ws:∀ ws:List (List Lt),adp (endp (0,0) (ws.map bk).flatten) (endp (0,0) ws.flatten) = (0,0)
 | [] => rfl
 | w::ws => by
  have ih:=clo_ws ws
  have e:=endp_bk (0,0) w
  rw [endp_way] at e
  rw [List.map_cons,List.flatten_cons,List.flatten_cons,endp_app,endp_app,endp_way (endp (0,0) w),endp_way (endp (0,0) (bk w))]
  have i1:(endp (0,0) ws.flatten).1 + (endp (0,0) (ws.map bk).flatten).1 = 0:=congrArg Prod.fst ih
  have i2:(endp (0,0) ws.flatten).2 + (endp (0,0) (ws.map bk).flatten).2 = 0:=congrArg Prod.snd ih
  have j1:(endp (0,0) w).1 + (endp (0,0) (bk w)).1 = 0:=congrArg Prod.fst e
  have j2:(endp (0,0) w).2 + (endp (0,0) (bk w)).2 = 0:=congrArg Prod.snd e
  generalize endp (0,0) ws.flatten = A at *
  generalize endp (0,0) (ws.map bk).flatten = B at *
  generalize endp (0,0) w = C at *
  generalize endp (0,0) (bk w) = D at *
  exact Prod.ext (by show C.1 + A.1 + (D.1 + B.1) = 0; omega) (by show C.2 + A.2 + (D.2 + B.2) = 0; omega)
theorem clo_beg (ws:List (List Lt)) (n:Nat):endp (0,0) (beg (ws.flatten++(ws.map bk).flatten) n) = (0,0):=by
 rw [endp_beg,endp_app,endp_way]; exact clo_ws ws
theorem joinW {ws:List (List Lt)} {a:Addr} {H:Hp3} {Q:VK3} (ha:H a = some (.lst (ws.map strD))) (hl:ws.flatten.length≤1000) (q:Q (.str (wStr ws.flatten)) H):r3join (.str (Str.ofString "")) [.ref a] H Q:=by
 have ej:joinZ (Str.ofString "") (ws.map wStr) = wStr ws.flatten:=by
  rw [joinZ_nil (z:=Str.ofString "") rfl,List.map_map]
  unfold wStr
  rw [List.map_flatten]; rfl
 have es:∀ us:List (List Lt),(us.map ((fun y:Str => y.cps.size)∘wStr)).sum = us.flatten.length:=by
  intro us
  induction us with
  | nil => rfl
  | cons u us ih =>
   rw [List.map_cons,List.sum_cons,ih,List.flatten_cons,List.length_append]
   congr 1
   exact wStr_len u
 refine g_join (ys:=ws.map wStr) (by rw [ha,List.map_map]; rfl) ?_ (by rw [ej]; exact q)
 rw [List.map_map,es,show (Str.ofString "").cps.size = 0 from rfl]
 omega
def sp_l_built:Sp3:=fun ds H Q => ∃ a b,ds = [.ref a,.int b]∧(∃ ws:List (List Lt),(H a = some (.lst (ws.map strD))∧(ws.length = 2∨ws.length = 3)∧(∀ w∈ws,0 < w.length∧w.length≤12))∧0≤b∧∀ W cs,Blt W cs→endp (0,0) W = (0,0)→W.length = ws.flatten.length + ws.flatten.length→Q (.tup [.str (wStr W),.tup (cs.map D.int)]) H)
theorem u_l_built {a:Addr} {b:Int} {H:Hp3} {Q:VK3} (ws:List (List Lt)) (ha:H a = some (.lst (ws.map strD))) (hl:ws.length = 2∨ws.length = 3) (hw:∀ w∈ws,0 < w.length∧w.length≤12) (b0:0≤b) (q:∀ W cs,Blt W cs→endp (0,0) W = (0,0)→W.length = ws.flatten.length + ws.flatten.length→Q (.tup [.str (wStr W),.tup (cs.map D.int)]) H):sp_l_built [.ref a,.int b] H Q:=⟨_,_,rfl,⟨ws,⟨ha,hl,hw⟩,b0,q⟩⟩
def ctk (ws:List (List Lt)) (b:Int) (k:Nat):Int:=(((ws.take k).flatten.length:Int) - b) % (ws.flatten.length:Int)
theorem blt_ws {ws:List (List Lt)} {b:Int} {ms:List Int} (hl:ws.length = 2∨ws.length = 3) (hw:∀ w∈ws,0 < w.length∧w.length≤12) (b0:0≤b) (hp:ms.Perm ((List.range ws.length).map (ctk ws b))) (hs:ms.Pairwise (·≤·)):Blt (beg (ws.flatten++(ws.map bk).flatten) (b % ((ws.flatten++(ws.map bk).flatten).length:Int)).toNat) ms:=by
 rcases ws with _ | ⟨s1,_ | ⟨s2,_ | ⟨s3,_ | _⟩⟩⟩ <;> simp at hl
 ·have a1:=hw s1 (by simp)
  have a2:=hw s2 (by simp)
  have:=blt2 (s1:=s1) (s2:=s2) (β:=b) (L:=(s1.length:Int) + s2.length) (ms:=ms) a1.1 a2.1 a1.2 a2.2 b0 rfl ?_ hs
  ·simp only [List.flatten_cons,List.flatten_nil,List.append_nil,List.map_cons,List.map_nil]
   rw [show (((s1++s2++(bk s1++bk s2)).length:Nat):Int) = (s1.length:Int) + s2.length + ((s1.length:Int) + s2.length) from by simp only [List.length_append,bk_len]; omega]
   exact this
  ·simp only [ctk,List.length_cons,List.length_nil,List.range_succ,List.range_zero,List.nil_append,List.cons_append,List.map_cons,List.map_nil,List.take_zero,List.take_succ_cons,List.flatten_cons,List.flatten_nil,List.append_nil,List.length_append,Int.natCast_add] at hp
   exact hp
 ·have a1:=hw s1 (by simp)
  have a2:=hw s2 (by simp)
  have a3:=hw s3 (by simp)
  have:=blt3 (s1:=s1) (s2:=s2) (s3:=s3) (β:=b) (L:=(s1.length:Int) + s2.length + s3.length) (ms:=ms) a1.1 a2.1 a3.1 a1.2 a2.2 a3.2 b0 rfl ?_ hs
  ·simp only [List.flatten_cons,List.flatten_nil,List.append_nil,List.map_cons,List.map_nil,← List.append_assoc]
   simp only [← List.append_assoc] at this
   rw [show (((s1++s2++s3++bk s1++bk s2++bk s3).length:Nat):Int) = (s1.length:Int) + s2.length + s3.length + ((s1.length:Int) + s2.length + s3.length) from by simp only [List.length_append,bk_len]; omega]
   exact this
  ·simp only [ctk,List.length_cons,List.length_nil,List.range_succ,List.range_zero,List.nil_append,List.cons_append,List.map_cons,List.map_nil,List.take_zero,List.take_succ_cons,List.flatten_cons,List.flatten_nil,List.append_nil,List.length_append,Int.natCast_add,← Int.add_assoc] at hp
   exact hp
theorem flat_le {ws:List (List Lt)} (hl:ws.length = 2∨ws.length = 3) (hw:∀ w∈ws,0 < w.length∧w.length≤12):2≤ws.flatten.length∧ws.flatten.length≤36∧(ws.map bk).flatten.length = ws.flatten.length:=by
 rcases ws with _ | ⟨s1,_ | ⟨s2,_ | ⟨s3,_ | _⟩⟩⟩ <;> simp at hl
 ·have a1:=hw s1 (by simp)
  have a2:=hw s2 (by simp)
  simp only [List.flatten_cons,List.flatten_nil,List.append_nil,List.map_cons,List.map_nil,List.length_append,bk_len,and_true]
  omega
 ·have a1:=hw s1 (by simp)
  have a2:=hw s2 (by simp)
  have a3:=hw s3 (by simp)
  simp only [List.flatten_cons,List.flatten_nil,List.append_nil,List.map_cons,List.map_nil,List.length_append,bk_len,and_true]
  omega
theorem len_l_built:∀ (ds:List D) (H:Hp3) (Q:VK3),sp_l_built ds H Q→ds.length = P_l_built.length:=by
 intro ds H Q h
 obtain ⟨_,_,rfl,_⟩:=h
 rfl
def lp_l_built_0:TS3:=fo3 (il3 (v3 0)) (gn3 6) (sq3 (dr3 (m3 r3app (v3 4) (cons3 (o3 i3mod (o3 i3sub (v3 5) (v3 1)) (cb3 r3len (cons3 (v3 2) nil3))) nil3)))
  (st3 5 (o3 r3add (v3 5) (cb3 r3len (cons3 (v3 6) nil3)))))
def t_l_built:TS3:=(sq3 (st3 2 (mz3 r3join (c3 (.str "")) (cons3 (v3 0) nil3)))
  (sq3 (st3 3 (o3 r3add (v3 2) (mz3 r3join (c3 (.str "")) (cons3 (cp3 (il3 (v3 0)) (gn3 0) yes3 (cb3 sp_l_back (cons3 (v3 0) nil3)) ["_law_one"] []) nil3))))
  (sq3 (st3 4 (ls3 nil3))
  (sq3 (st3 5 (c3 (.int 0)))
  (sq3 lp_l_built_0
  (sq3 (st3 1 (o3 i3mod (v3 1) (cb3 r3len (cons3 (v3 3) nil3))))
  (rt3 (tp3 (cons3 (o3 r3add (sl3 r3slZ (v3 3) (pt3 (v3 1)) np3) (sl3 r3slZ (v3 3) np3 (pt3 (v3 1)))) (cons3 (cb3 r3tuple (cons3 (cb3 r3sortI (cons3 (v3 4) nil3)) nil3)) nil3))))))))))
theorem rd_l_built:∀ (ds:List D) (H:Hp3) (Q:VK3),sp_l_built ds H Q→t_l_built (fin3 Q) (start3 N_l_built ds) H:=by
 intro ds H Q h
 obtain ⟨a,b,rfl,h⟩:=h
 obtain ⟨ws,⟨ha,hl,hw⟩,b0,h⟩:=h
 obtain ⟨f2,f12,fb⟩:=flat_le hl hw
 simp only [t_l_built,start3,N_l_built,List.map_cons,List.map_nil,List.length_cons,List.length_nil,Nat.reduceAdd,Nat.reduceSub,Nat.zero_add,List.replicate,List.cons_append,List.nil_append]
 walk_at "l3"
 refine joinW ha (by omega) ?_
 walk_at "l3"
 refine Cp.map (E:=strD) (as:=ws) (fun w => strD (bk w)) (fun H3 hs => hs _ _ ha) (by omega) ?_ ?_
 ·intro i w hiw R H2 hs hR
  unfold strD
  walk_at "l3"
  refine u_l_back w (by have:=(hw w (List.mem_of_getElem? hiw)).2; omega) ?_
  exact hR H2 Sub3.refl
 intro p hp
 walk_at "l3"
 refine joinW (ws:=ws.map bk) (by rw [upd3_same,List.map_map]; rfl) (by omega) ?_
 walk_at "l3"
 refine g_addZ (by rw [wStr_len,wStr_len,sizeLine_n]; omega) ?_
 rw [wStr_app]
 walk_at "l3"
 intro p1 hp1
 walk_at "l3"
 unfold lp_l_built_0
 walk_at "l3"
 have s1:Sub3 H (upd3 H p (.lst (ws.map fun w => strD (bk w)))):=Sub3.fresh hp
 generalize upd3 H p (.lst (ws.map fun w => strD (bk w))) = H1 at *
 have ha1:=s1 _ _ ha
 have na:a≠p1:=ne3 ha1 hp1
 generalize hU:ws.flatten++(ws.map bk).flatten = U at *
 have lU:U.length = ws.flatten.length + ws.flatten.length:=by rw [← hU,List.length_append,fb]
 refine Lp.by (fun i σ H2 => H2 = upd3 H1 p1 (.lst ((List.range i).map fun k => D.int (ctk ws b k)))∧∃ x,σ = [some (.ref a),some (.int b),some (.str (wStr ws.flatten)),some (.str (wStr U)),some (.ref p1),some (.int (ws.take i).flatten.length),x]) ⟨rfl,_,rfl⟩ (fun i σ H2 _ z => by rw [z.1]; exact upd3_old ha1 hp1) ?_ ?_
 ·rintro i d σ H2 hd ⟨rfl,x,rfl⟩
  rw [List.getElem?_map,Option.map_eq_some_iff] at hd
  obtain ⟨w,hg,rfl⟩:=hd
  unfold strD
  walk_at "l3"
  refine g_lenW (by omega) ?_
  walk_at "l3"
  refine g_app upd3_same (small1000' (by rw [List.length_map,List.length_range]; have:=(List.getElem?_eq_some_iff.mp hg).1; omega)) ?_
  rw [upd3_upd3]
  walk_at "l3"
  refine g_lenW (by have:=(hw w (List.mem_of_getElem? hg)).2; omega) ?_
  walk_at "l3"
  refine ⟨by rw [List.range_succ,List.map_append]; rfl,some (.str (wStr w)),?_⟩
  rw [List.take_add_one,hg]
  simp only [Option.toList_some,List.flatten_append,List.flatten_cons,List.flatten_nil,List.append_nil,List.length_append,Int.natCast_add]
 ·rintro σ H2 ⟨rfl,x,rfl⟩
  rw [List.length_map]
  walk_at "l3"
  refine g_lenW (by omega) ?_
  have m0:=Int.emod_nonneg b (b:=(U.length:Int)) (by omega)
  have m1:=Int.emod_lt_of_pos b (b:=(U.length:Int)) (by omega)
  have key:=fun ms hpm hs => blt_ws (ms:=ms) hl hw b0 hpm hs
  rw [hU] at key
  obtain ⟨n,hn⟩:=Int.eq_ofNat_of_zero_le m0
  rw [hn,Int.toNat_natCast] at key
  walk_at "l3"
  rw [hn]
  walk_at "l3"
  refine g_slZ (wStr_le _ (by omega)) ?_
  rw [cut_drop]
  walk_at "l3"
  refine g_slZ (wStr_le _ (by omega)) ?_
  rw [cut_take]
  walk_at "l3"
  refine g_addZ (by rw [wStr_len,wStr_len,List.length_drop,List.length_take,sizeLine_n]; omega) ?_
  rw [wStr_app]
  walk_at "l3"
  refine g_sortI (ns:=(List.range ws.length).map (ctk ws b)) (by rw [upd3_same,List.map_map]; rfl) (by rw [List.length_map,List.length_range]; omega) fun ms p2 hpm hs hp2 => ?_
  walk_at "l3"
  have hcl:=clo_beg ws n
  rw [hU] at hcl
  exact g_fin (h _ ms (key ms hpm hs) hcl (by show (beg U n).length = _; rw [beg_len U n (by omega),lU])) (s1.trans ((Sub3.fresh hp1).trans (Sub3.fresh hp2)))
def sp_l_is_grid:Sp3:=fun ds H Q => ∃ a b d n,ds = [.tup [.int a,.int b,.int d],.int n]∧((GrOk a b d∧a * d = n)∧Q (.bl true) H)
theorem u_l_is_grid {a b d n:Int} {H:Hp3} {Q:VK3} (hg:GrOk a b d) (hn:a * d = n) (h:Q (.bl true) H):sp_l_is_grid [.tup [.int a,.int b,.int d],.int n] H Q:=⟨_,_,_,_,rfl,⟨⟨hg,hn⟩,h⟩⟩
theorem len_l_is_grid:∀ (ds:List D) (H:Hp3) (Q:VK3),sp_l_is_grid ds H Q→ds.length = P_l_is_grid.length:=by
 intro ds H Q h
 obtain ⟨_,_,_,_,rfl,_⟩:=h
 rfl
def t_l_is_grid:TS3:=(sq3 (is3 (or3 (no3 (ts3 (cb3 r3isi (cons3 (v3 0) (cons3 (c3 (.ty "tuple")) nil3))))) (or3 (ts3 (o3 r3ne (cb3 r3len (cons3 (v3 0) nil3)) (c3 (.int 3)))) (no3 (ts3 (cb3 r3all (cons3 (cp3 (it3 (v3 0)) (gn3 0) yes3 (cb3 sp_l_whole (cons3 (v3 0) nil3)) ["_law_number"] []) nil3)))))) (rt3 (c3 (.bl false))) nx3)
  (rt3 (av3 (o3 i3gt (o3 r3ix (v3 0) (c3 (.int 0))) (c3 (.int 0))) (av3 (ch3 i3le r3lt (c3 (.int 0)) (o3 r3ix (v3 0) (c3 (.int 1))) (o3 r3ix (v3 0) (c3 (.int 0)))) (av3 (o3 i3gt (o3 r3ix (v3 0) (c3 (.int 2))) (c3 (.int 0))) (o3 r3eq (o3 i3mulW (o3 r3ix (v3 0) (c3 (.int 0))) (o3 r3ix (v3 0) (c3 (.int 2)))) (v3 1)))))))
theorem rd_l_is_grid:∀ (ds:List D) (H:Hp3) (Q:VK3),sp_l_is_grid ds H Q→t_l_is_grid (fin3 Q) (start3 N_l_is_grid ds) H:=by
 intro ds H Q h
 obtain ⟨a,b,d,n,rfl,h⟩:=h
 obtain ⟨⟨hg,hn⟩,h⟩:=h
 obtain ⟨g1,g2,g3,g4,g5,g6⟩:=id hg
 simp only [t_l_is_grid,start3,N_l_is_grid,List.map_cons,List.map_nil,List.length_cons,List.length_nil,Nat.reduceAdd,Nat.reduceSub,Nat.zero_add,List.replicate,List.cons_append,List.nil_append]
 walk_at "l3"
 refine ifX rfl ?_
 walk_at "l3"
 refine ifX rfl ?_
 walk_at "l3"
 refine Cp.map (E:=D.int) (as:=[a,b,d]) (fun _ => D.bl true) (fun _ _ => trivial) (by simp) ?_ ?_
 ·intro i c hc R H3 hs3 hR
  walk_at "l3"
  exact hR H3 Sub3.refl
 intro p hp
 walk_at "l3"
 refine g_tr (bs:=[true,true,true]) upd3_same ?_
 walk_at "l3"
 refine ifX rfl ?_
 walk_at "l3"
 refine ifD (fun _ => ?_) fun z => absurd g1 z
 walk_at "l3"
 refine ifD (fun _ => ?_) fun z => absurd g2 z
 walk_at "l3"
 refine ifD (fun _ => ?_) fun z => absurd g3 z
 walk_at "l3"
 refine ifD (fun _ => ?_) fun z => absurd g4 z
 walk_at "l3"
 rw [decide_eq_true hn]
 exact g_fin h (Sub3.fresh hp)
def prt (W:List Lt):List (List Int):=if W.length % 2 = 1 then [] else (allC ((W.length:Int) / 2)).filter (isP W)
theorem allC_cts {h:Int} {cs:List Int}:cs∈allC h↔Cts cs h:=by
 unfold allC
 rw [List.mem_append,List.mem_map,List.mem_map]
 constructor
 ·rintro (⟨p,hp,rfl⟩ | ⟨q,hq,rfl⟩)
  ·have:=mem_twoN.mp hp
   exact ⟨.inl rfl,by simp; omega,by simp; omega⟩
  ·obtain ⟨p,hp,k1,k2,k3,k4⟩:=mem_thrL.mp hq
   have:=mem_twoN.mp hp
   exact ⟨.inr rfl,by simp; omega,by simp; omega⟩
 ·intro c
  obtain ⟨hl,hs,hr⟩:=c
  rcases cs with _ | ⟨a,_ | ⟨b,_ | ⟨d,_ | _⟩⟩⟩ <;> simp at hl
  ·have ha:=hr a (by simp)
   have hb:=hr b (by simp)
   simp only [List.pairwise_cons,List.mem_cons,List.not_mem_nil,or_false,forall_eq] at hs
   exact .inl ⟨(a,b),mem_twoN.mpr (by dsimp only; omega),rfl⟩
  ·have ha:=hr a (by simp)
   have hb:=hr b (by simp)
   have hd:=hr d (by simp)
   simp only [List.pairwise_cons,List.mem_cons,List.not_mem_nil,or_false,forall_eq_or_imp,forall_eq] at hs
   exact .inr ⟨(a,b,d),mem_thrL.mpr ⟨(a,b),mem_twoN.mpr (by dsimp only; omega),rfl,rfl,by dsimp only; omega,by dsimp only; omega⟩,rfl⟩
def sp_partings_of:Sp3:=fun ds H Q => ∃ z,ds = [.str z]∧(∃ W:List Lt,(z = wStr W∧W.length≤42)∧∀ p,H p = none→Q (.ref p) (upd3 H p (.lst ((prt W).map cutD))))
theorem u_partings_of {W:List Lt} {H:Hp3} {Q:VK3} (hl:W.length≤42) (h:∀ p,H p = none→Q (.ref p) (upd3 H p (.lst ((prt W).map cutD)))):sp_partings_of [.str (wStr W)] H Q:=⟨_,rfl,⟨W,⟨rfl,hl⟩,h⟩⟩
theorem len_partings_of:∀ (ds:List D) (H:Hp3) (Q:VK3),sp_partings_of ds H Q→ds.length = P_partings_of.length:=by
 intro ds H Q h
 obtain ⟨_,rfl,_⟩:=h
 rfl
def t_partings_of:TS3:=(sq3 (is3 (ts3 (o3 r3eq (o3 i3mod (cb3 r3len (cons3 (v3 0) nil3)) (c3 (.int 2))) (c3 (.int 1)))) (rt3 (ls3 nil3)) nx3)
  (sq3 (st3 1 (o3 i3divW (cb3 r3len (cons3 (v3 0) nil3)) (c3 (.int 2))))
  (rt3 (cp3 (il3 (o3 r3add (cb3 sp_cuts_of_two (cons3 (v3 1) nil3)) (cb3 sp_cuts_of_three (cons3 (v3 1) nil3)))) (gn3 0) (ts3 (cb3 sp_is_parting (cons3 (v3 1) (cons3 (v3 0) nil3)))) (v3 0) ["cuts"] [(0, "word")]))))
theorem rd_partings_of:∀ (ds:List D) (H:Hp3) (Q:VK3),sp_partings_of ds H Q→t_partings_of (fin3 Q) (start3 N_partings_of ds) H:=by
 intro ds H Q h
 obtain ⟨_,rfl,h⟩:=h
 obtain ⟨W,⟨rfl,hl⟩,h⟩:=h
 simp only [t_partings_of,start3,N_partings_of,List.map_cons,List.map_nil,List.length_cons,List.length_nil,Nat.reduceAdd,Nat.reduceSub,Nat.zero_add,List.replicate,List.cons_append,List.nil_append]
 walk_at "l3"
 refine g_lenW (by omega) ?_
 walk_at "l3"
 unfold prt at h
 refine ifD (fun z => ?_) fun z => ?_
 ·rw [if_pos (by omega)] at h
  walk_at "l3"
  intro p hp
  exact g_fin (h p hp) Sub3.refl
 ·rw [if_neg (by omega)] at h
  walk_at "l3"
  refine g_lenW (by omega) ?_
  walk_at "l3"
  have h0:0≤(W.length:Int) / 2:=by omega
  have h1:(W.length:Int) / 2≤21:=by omega
  refine u_cuts_of_two h0 h1 fun p1 hp1 => ?_
  walk_at "l3"
  refine u_cuts_of_three h0 h1 fun p2 hp2 => ?_
  walk_at "l3"
  refine g_cat (upd3_old upd3_same hp2) upd3_same (by rw [List.length_map,List.length_map,sizeLine_n]; have:=twoL_len h0 h1; have:=thr_all h0 h1; omega) fun p3 hp3 => ?_
  rw [allC_D]
  walk_at "l3"
  refine Cp.filtX (E:=cutD) cutD (isP W) (fun H3 hs => hs _ _ upd3_same) (allC_len h0 h1) ?_ ?_
  ·intro i cs hi R1 R0 H3 hs hy hno
   unfold cutD
   walk_at "l3"
   refine u_is_parting (by omega) (allC_cts.mp (List.mem_of_getElem? hi)) ?_
   walk_at "l3"
   refine ifB (fun z => ?_) fun z => ?_
   ·walk_at "l3"
    exact hy z H3 Sub3.refl
   ·exact hno z H3 Sub3.refl
  ·intro p4 hp4
   have hs:=((Sub3.fresh (o:=.lst ((twoL ((W.length:Int) / 2)).map prP)) hp1).trans (Sub3.fresh (o:=.lst ((thrL ((W.length:Int) / 2) (twoL ((W.length:Int) / 2))).map trD)) hp2)).trans (Sub3.fresh (o:=.lst ((allC ((W.length:Int) / 2)).map cutD)) hp3)
   have h4:H p4 = none:=sub_back hs hp4
   exact g_fin (h p4 h4) (sub_upd (hs.upd h4) upd3_same)
theorem upd3_id {H:Hp3} {a:Addr} {o:O3} (h:H a = some o):upd3 H a o = H:=by
 funext q
 by_cases z:q = a
 ·rw [z,upd3_same,h]
 ·rw [upd3_ne z]
theorem path_pw {W:List Lt} {i:Int} (hW:endp (0,0) W = (0,0)) (i0:0≤i) (h:i < W.length):atI ((path (0,0) W).map prP) i = some (.tup [.int (pw W i.toNat).1,.int (pw W i.toNat).2]):=by
 have hl:=path_len (0,0) W
 rw [atI_map i0 (by rw [hl]; omega)]
 have:=path_get (0,0) W i.toNat
 rw [if_pos (by omega),List.getElem?_eq_getElem (by rw [hl]; omega)] at this
 rw [Option.some.inj this,pw_lt (by omega)]; rfl
theorem path_pw2 {W:List Lt} {i:Int} (hW:endp (0,0) W = (0,0)) (i0:0≤i) (h:i≤W.length + W.length):atI ((path (0,0) (W++W)).map prP) i = some (.tup [.int (pw W i.toNat).1,.int (pw W i.toNat).2]):=by
 have hl:=path_len (0,0) (W++W)
 rw [List.length_append] at hl
 rw [atI_map i0 (by rw [hl]; omega)]
 have:=path_get (0,0) (W++W) i.toNat
 rw [List.length_append,if_pos (by omega),List.getElem?_eq_getElem (by rw [hl]; omega)] at this
 rw [Option.some.inj this,pw_2 hW (by omega)]; rfl
def sp_shifts_by:Sp3:=fun ds H Q => ∃ z xs,ds = [.str z,.tup xs]∧(∃ (W:List Lt) (cs:List Int),(z = wStr W∧xs = cs.map D.int∧4≤W.length∧W.length≤240∧Cts cs ((W.length:Int) / 2)∧endp (0,0) W = (0,0))∧∀ p,H p = none→Q (.ref p) (upd3 H p (.lst ((spn cs ((W.length:Int) / 2)).map fun s => prP (sh W ((W.length:Int) / 2) s)))))
theorem u_shifts_by {W:List Lt} {cs:List Int} {H:Hp3} {Q:VK3} (h4:4≤W.length) (hl:W.length≤240) (hc:Cts cs ((W.length:Int) / 2)) (hW:endp (0,0) W = (0,0)) (h:∀ p,H p = none→Q (.ref p) (upd3 H p (.lst ((spn cs ((W.length:Int) / 2)).map fun s => prP (sh W ((W.length:Int) / 2) s))))):sp_shifts_by [.str (wStr W),.tup (cs.map D.int)] H Q:=⟨_,_,rfl,⟨W,cs,⟨rfl,rfl,h4,hl,hc,hW⟩,h⟩⟩
theorem len_shifts_by:∀ (ds:List D) (H:Hp3) (Q:VK3),sp_shifts_by ds H Q→ds.length = P_shifts_by.length:=by
 intro ds H Q h
 obtain ⟨_,_,rfl,_⟩:=h
 rfl
def lp_shifts_by_0:TS3:=fo3 (il3 (cb3 sp_spans_of (cons3 (v3 0) (cons3 (v3 1) nil3)))) (gn3 5) (sq3 (st3 6 (o3 i3mod (o3 r3add (o3 r3ix (v3 5) (c3 (.int 1))) (v3 3)) (cb3 r3len (cons3 (v3 0) nil3))))
  (dr3 (m3 r3app (v3 4) (cons3 (cb3 sp_taken (cons3 (o3 r3ix (v3 2) (o3 r3ix (v3 5) (c3 (.int 0)))) (cons3 (o3 r3ix (v3 2) (v3 6)) nil3))) nil3))))
def t_shifts_by:TS3:=(sq3 (st3 2 (cb3 sp_corners_of (cons3 (tp3 (cons3 (c3 (.int 0)) (cons3 (c3 (.int 0)) nil3))) (cons3 (v3 0) nil3))))
  (sq3 (st3 3 (o3 i3divW (cb3 r3len (cons3 (v3 0) nil3)) (c3 (.int 2))))
  (sq3 (st3 4 (ls3 nil3))
  (sq3 lp_shifts_by_0
  (rt3 (v3 4))))))
theorem rd_shifts_by:∀ (ds:List D) (H:Hp3) (Q:VK3),sp_shifts_by ds H Q→t_shifts_by (fin3 Q) (start3 N_shifts_by ds) H:=by
 intro ds H Q h
 obtain ⟨_,_,rfl,h⟩:=h
 obtain ⟨W,cs,⟨rfl,rfl,h4,hl,hc,hW⟩,h⟩:=h
 have hcl:=hc.len
 simp only [t_shifts_by,start3,N_shifts_by,List.map_cons,List.map_nil,List.length_cons,List.length_nil,Nat.reduceAdd,Nat.reduceSub,Nat.zero_add,List.replicate,List.cons_append,List.nil_append]
 walk_at "l3"
 refine u_corners_of W (by omega) fun p hp => ?_
 walk_at "l3"
 refine g_lenW (by omega) ?_
 walk_at "l3"
 intro p1 hp1
 walk_at "l3"
 unfold lp_shifts_by_0
 walk_at "l3"
 refine u_spans_of (by omega) hc.ne (by omega) fun p2 hp2 => ?_
 generalize hL:(W.length:Int) / 2 = L at *
 walk_at "l3"
 have q1:p≠p1:=ne3 upd3_same hp1
 have q2:p≠p2:=ne3 (upd3_old upd3_same hp1) hp2
 have q3:p1≠p2:=ne3 upd3_same hp2
 refine Lp.by (fun i σ H2 => H2 = upd3 (upd3 (upd3 (upd3 H p (.lst ((path (0,0) W).map prP))) p1 (.lst [])) p2 (.lst ((spn cs L).map prP))) p1 (.lst (((spn cs L).take i).map fun s => prP (sh W L s)))∧∃ x y,σ = [some (.str (wStr W)),some (.tup (cs.map D.int)),some (.ref p),some (.int L),some (.ref p1),x,y]) ⟨by rw [List.take_zero]; exact (upd3_id (by rw [upd3_ne q3]; exact upd3_same)).symm,_,_,rfl⟩ (fun i σ H2 _ z => by rw [z.1,upd3_ne q3.symm]; exact upd3_same) ?_ ?_
 ·rintro i d σ H2 hd ⟨rfl,x,y,rfl⟩
  rw [List.getElem?_map,Option.map_eq_some_iff] at hd
  obtain ⟨s,hs,rfl⟩:=hd
  obtain ⟨b1,b2,b3,b4⟩:=hc.spn s (List.mem_of_getElem? hs)
  unfold prP
  walk_at "l3"
  refine g_lenW (by omega) ?_
  walk_at "l3"
  have m0:=Int.emod_nonneg (s.2 + L) (b:=(W.length:Int)) (by omega)
  have m1:=Int.emod_lt_of_pos (s.2 + L) (b:=(W.length:Int)) (by omega)
  refine g_ixL (by rw [upd3_ne q1,upd3_ne q2,upd3_ne q1]; exact upd3_same) (path_pw hW b1 (by omega)) ?_
  walk_at "l3"
  refine g_ixL (by rw [upd3_ne q1,upd3_ne q2,upd3_ne q1]; exact upd3_same) (path_pw hW m0 m1) ?_
  walk_at "l3"
  refine g_app upd3_same (small1000' (by rw [List.length_map,List.length_take,spn_len hc.ne]; omega)) ?_
  rw [upd3_upd3]
  walk_at "l3"
  refine ⟨?_,_,_,rfl⟩
  rw [List.take_add_one,hs,List.map_append]
  have e:pw W ((s.2 + L) % (W.length:Int)).toNat = pw W (s.2 + L).toNat:=by
   have t:((s.2 + L) % (W.length:Int)).toNat = (s.2 + L).toNat % W.length:=by
    obtain ⟨n,hn⟩:=Int.eq_ofNat_of_zero_le (show 0≤s.2 + L by omega)
    rw [hn]; rfl
   unfold pw
   rw [t,Nat.mod_mod]
  rw [e]; rfl
 ·rintro σ H2 ⟨rfl,x,y,rfl⟩
  rw [List.length_map,List.take_of_length_le (Nat.le_refl _)]
  walk_at "l3"
  have h1:H p1 = none:=sub_back (Sub3.fresh hp) hp1
  refine g_fin (h p1 h1) (sub_upd (fun q o hq => ?_) upd3_same)
  have z:q≠p1:=ne3 hq h1
  rw [upd3_ne z]
  exact upd3_old (upd3_old (upd3_old hq hp) hp1) hp2
def sp_l_stretches:Sp3:=fun ds H Q => ∃ xs a,ds = [.fl xs,.int a]∧((match intsOf xs with
  | some ns => (0≤a∧a < 500∧ns.length≤63)∧∀ p (ws:List (List Lt)),H p = none→ws.length≤3→(∀ w∈ws,w≠[]∧w.length≤4)→Q (.ref p) (upd3 H p (.lst (ws.map strD)))
  | none => False))
theorem u_l_stretches {ns:List Int} {a:Int} {H:Hp3} {Q:VK3} (a0:0≤a) (a1:a < 500) (hl:ns.length≤63) (h:∀ p (ws:List (List Lt)),H p = none→ws.length≤3→(∀ w∈ws,w≠[]∧w.length≤4)→Q (.ref p) (upd3 H p (.lst (ws.map strD)))):sp_l_stretches [.fl (ns.map D.int),.int a] H Q:=by
 refine ⟨_,_,rfl,?_⟩
 simp only [intsOf_map]; exact ⟨⟨a0,a1,hl⟩,h⟩
theorem menu_at {i:Nat} {d:D} (h:[D.str "eeens",.str "nnnew",.str "wwwns"][i]? = some d):i < 3∧∃ m:List Lt,d = .str (wStr m)∧m≠[]∧m.length≤10:=by
 have hi:=(List.getElem?_eq_some_iff.mp h).1
 refine ⟨hi,?_⟩
 match i,hi with
 | 0,_ => cases h; exact ⟨[0,0,0,1,3],rfl,by simp,by simp⟩
 | 1,_ => cases h; exact ⟨[1,1,1,0,2],rfl,by simp,by simp⟩
 | 2,_ => cases h; exact ⟨[2,2,2,1,3],rfl,by simp,by simp⟩
theorem size_at {c:Int} {i:Nat} (h:i < 3):∃ n:Int,atI [D.int (c % 5),.int (c / 5 % 5),.int (c / 25 % 5)] (i:Int) = some (.int n)∧0≤n∧n≤4:=by
 match i,h with
 | 0,_ => exact ⟨_,rfl,by omega,by omega⟩
 | 1,_ => exact ⟨_,rfl,by omega,by omega⟩
 | 2,_ => exact ⟨_,rfl,by omega,by omega⟩
theorem len_l_stretches:∀ (ds:List D) (H:Hp3) (Q:VK3),sp_l_stretches ds H Q→ds.length = P_l_stretches.length:=by
 intro ds H Q h
 obtain ⟨_,_,rfl,_⟩:=h
 rfl
def lp_l_stretches_0:TS3:=fo3 (ien (ls3 (cons3 (c3 (.str "eeens")) (cons3 (c3 (.str "nnnew")) (cons3 (c3 (.str "wwwns")) nil3))))) (g2_3 4 5) (dr3 (m3 r3app (v3 3) (cons3 (cb3 sp_l_letters (cons3 (v3 0) (cons3 (o3 r3add (o3 r3add (v3 1) (c3 (.int 1))) (o3 i3mulW (c3 (.int 4)) (v3 4))) (cons3 (o3 r3ix (ls3 (cons3 (o3 i3mod (v3 2) (c3 (.int 5))) (cons3 (o3 i3mod (o3 i3divW (v3 2) (c3 (.int 5))) (c3 (.int 5))) (cons3 (o3 i3mod (o3 i3divW (v3 2) (c3 (.int 25))) (c3 (.int 5))) nil3)))) (v3 4)) (cons3 (v3 5) nil3))))) nil3)))
def t_l_stretches:TS3:=(sq3 (st3 2 (cb3 sp_l_cell_at (cons3 (v3 0) (cons3 (v3 1) nil3))))
  (sq3 (st3 3 (ls3 nil3))
  (sq3 lp_l_stretches_0
  (rt3 (cp3 (il3 (v3 3)) (gn3 0) (ts3 (o3 r3ne (v3 0) (c3 (.str "")))) (v3 0) ["_law_one"] [])))))
theorem rd_l_stretches:∀ (ds:List D) (H:Hp3) (Q:VK3),sp_l_stretches ds H Q→t_l_stretches (fin3 Q) (start3 N_l_stretches ds) H:=by
 intro ds H Q h
 obtain ⟨xs,a,rfl,h⟩:=h
 split at h
 case h_2 => exact h.elim
 rename_i ns e
 have e':=intsOf_inv e
 subst e'
 obtain ⟨⟨a0,a1,hl⟩,h⟩:=h
 simp only [t_l_stretches,start3,N_l_stretches,List.map_cons,List.map_nil,List.length_cons,List.length_nil,Nat.reduceAdd,Nat.reduceSub,Nat.zero_add,List.replicate,List.cons_append,List.nil_append]
 walk_at "l3"
 intro p hp
 walk_at "l3"
 unfold lp_l_stretches_0
 walk_at "l3"
 intro p1 hp1
 walk_at "l3"
 generalize cat ns a.toNat = c
 have n1:p≠p1:=ne3 upd3_same hp1
 refine Lp.by (fun i σ H2 => Sub3 H H2∧H2 p1 = some (.lst [D.str "eeens",.str "nnnew",.str "wwwns"])∧∃ ws:List (List Lt),∃ x y,ws.length = i∧(∀ w∈ws,w.length≤4)∧H2 p = some (.lst (ws.map strD))∧σ = [some (.fl (ns.map D.int)),some (.int a),some (.int c),some (.ref p),x,y]) ⟨(Sub3.fresh hp).trans (Sub3.fresh hp1),upd3_same,[],_,_,rfl,by simp,upd3_old upd3_same hp1,rfl⟩ (fun i σ H2 _ z => z.2.1) ?_ ?_
 ·rintro i d σ H2 hd ⟨sb,hp1',ws,x,y,hw,hw4,hH,rfl⟩
  obtain ⟨d',hd',rfl⟩:=en_get hd
  obtain ⟨hi,m,rfl,hm,hm1⟩:=menu_at hd'
  obtain ⟨n,en,n0,n4⟩:=size_at (c:=c) hi
  walk_at "l3"
  intro p2 hp2
  walk_at "l3"
  refine g_ixL upd3_same en ?_
  walk_at "l3"
  refine u_l_letters m rfl hm hm1 (by omega) (by omega) n0 (by omega) hl fun w hwl => ?_
  walk_at "l3"
  have np:p≠p2:=ne3 hH hp2
  have np1:p1≠p2:=ne3 hp1' hp2
  refine g_app (upd3_old hH hp2) (small1000' (by rw [List.length_map]; omega)) ?_
  walk_at "l3"
  have h2:H p2 = none:=sub_back sb hp2
  refine ⟨fun q o hq => ?_,by rw [upd3_ne n1.symm,upd3_ne np1]; exact hp1',ws++[w],_,_,by rw [List.length_append,hw]; rfl,fun v hv => ?_,by rw [upd3_same,List.map_append]; rfl,rfl⟩
  ·rw [upd3_ne (fun e => by rw [e,hp] at hq; cases hq)]
   exact upd3_old (sb q o hq) hp2
  ·rcases List.mem_append.mp hv with hv | hv
   ·exact hw4 v hv
   ·rw [List.mem_singleton.mp hv]; omega
 ·rintro σ H2 ⟨sb,hp1',ws,x,y,hw,hw4,hH,rfl⟩
  rw [en_len] at hw
  walk_at "l3"
  refine Cp.filt (E:=strD) strD (fun w => !decide (w = [])) (fun H3 hs => hs _ _ hH) (by show _≤1000; simp at hw; omega) ?_ ?_
  ·intro i w hiw R1 R0 H3 hs hy hno
   unfold strD
   walk_at "l3"
   refine g_neW (bs:=[]) ?_
   refine g_bt ?_
   refine ifN (fun z => ?_) fun z => ?_
   ·walk_at "l3"
    exact hy (by simp [z]) H3 Sub3.refl
   ·exact hno (by simp [z]) H3 Sub3.refl
  ·intro p3 hp3
   have h3:H p3 = none:=sub_back sb hp3
   refine g_fin (h p3 (ws.filter fun w => !decide (w = [])) h3 ?_ fun w hw' => ?_) (sub_upd (sb.upd h3) upd3_same)
   ·have:=List.length_filter_le (fun w:List Lt => !decide (w = [])) ws
    simp at hw; omega
   ·have:=List.mem_filter.mp hw'
    exact ⟨by simpa using this.2,hw4 w this.1⟩
theorem step_x (l:Lt):(step l).1.natAbs≤1∧(step l).2.natAbs≤1:=by revert l; decide
theorem endp_x (c:Pt) (ls:List Lt):(endp c ls).1.natAbs≤c.1.natAbs + ls.length:=by
 induction ls generalizing c with
 | nil => show c.1.natAbs≤_; omega
 | cons l ls ih =>
  have h:=ih (adp (step l) c)
  have hs:=(step_x l).1
  have e:(adp (step l) c).1.natAbs≤c.1.natAbs + 1:=by unfold adp; dsimp only; omega
  rw [List.length_cons]
  exact Nat.le_trans h (by omega)
def sp_l_area:Sp3:=fun ds H Q => ∃ z,ds = [.str z]∧(∃ ls:List Lt,(z = wStr ls∧ls.length≤500)∧Q (.int (ar (0,0) ls)) H)
theorem u_l_area (ls:List Lt) {H:Hp3} {Q:VK3} (hl:ls.length≤500) (h:Q (.int (ar (0,0) ls)) H):sp_l_area [.str (wStr ls)] H Q:=⟨_,rfl,⟨ls,⟨rfl,hl⟩,h⟩⟩
theorem len_l_area:∀ (ds:List D) (H:Hp3) (Q:VK3),sp_l_area ds H Q→ds.length = P_l_area.length:=by
 intro ds H Q h
 obtain ⟨_,rfl,_⟩:=h
 rfl
def lp_l_area_0:TS3:=fo3 (itz (v3 0) (cb3 sp_l_path (cons3 (tp3 (cons3 (c3 (.int 0)) (cons3 (c3 (.int 0)) nil3))) (cons3 (v3 0) nil3)))) (g2_3 2 3) (st3 1 (o3 r3add (v3 1) (o3 i3mulW (o3 r3ix (v3 3) (c3 (.int 0))) (o3 r3ix (cb3 sp_l_step (cons3 (v3 2) nil3)) (c3 (.int 1))))))
def t_l_area:TS3:=(sq3 (st3 1 (c3 (.int 0)))
  (sq3 lp_l_area_0
  (rt3 (v3 1))))
theorem rd_l_area:∀ (ds:List D) (H:Hp3) (Q:VK3),sp_l_area ds H Q→t_l_area (fin3 Q) (start3 N_l_area ds) H:=by
 intro ds H Q h
 obtain ⟨z,rfl,h⟩:=h
 obtain ⟨ls,⟨rfl,hl⟩,h⟩:=h
 simp only [t_l_area,start3,N_l_area,List.map_cons,List.map_nil,List.length_cons,List.length_nil,Nat.reduceAdd,Nat.reduceSub,Nat.zero_add,List.replicate,List.cons_append,List.nil_append]
 walk_at "l3"
 unfold lp_l_area_0
 walk_at "l3"
 refine u_l_path ls hl fun p hp => ?_
 walk_at "l3"
 refine g_tzk upd3_same (asc_w ls) ?_
 rw [lets_w,zipD_map]
 refine Lp.by (fun i σ H2 => H2 = upd3 H p (.lst ((path (0,0) ls).map prP))∧∃ c d,σ = [some (.str (wStr ls)),some (.int (ar (0,0) (ls.take i))),c,d]) ⟨rfl,_,_,rfl⟩ (fun i σ H2 _ z => by rw [z.1]; exact upd3_same) ?_ ?_
 ·rintro i dd σ H2 hd ⟨rfl,c,d,rfl⟩
  rw [List.getElem?_map,Option.map_eq_some_iff] at hd
  obtain ⟨⟨l,q⟩,hq,rfl⟩:=hd
  obtain ⟨e1,e2⟩:=zip_at' hq
  dsimp only at e1 e2
  subst e1
  have ht:ls.take (i + 1) = ls.take i++[l]:=by rw [List.take_add_one,e2]; rfl
  unfold prP
  walk_at "l3"
  refine u_l_step l ?_
  walk_at "l3"
  rw [ht,ar_snoc]
  have b1:=endp_x (0,0) (ls.take i)
  have b2:=(step_x l).2
  have b3:(ls.take i).length≤500:=by rw [List.length_take]; omega
  refine g_mulW (CMulW.of (m:=10) (n:=2) (by unfold Bt; have:((0:Int),(0:Int)).1.natAbs = 0:=rfl; show _ < 2 ^ 10; omega) (by unfold Bt; show _ < 2 ^ 2; omega) (by decide)) ?_
  walk_at "l3"
  exact ⟨rfl,_,_,rfl⟩
 ·rintro σ H2 ⟨rfl,c,d,rfl⟩
  rw [List.length_map,zip_len',List.take_of_length_le (Nat.le_refl _)]
  walk_at "l3"
  exact g_fin h (Sub3.fresh hp)
def upN (c q:Pt) (d:Nat):Int:=if d = 1 then (if q.2 = c.2∧c.1 < q.1 then 1 else 0) else 0
def upS (c q:Pt) (d:Nat):Int:=if d = 3 then (if q.2 = c.2 + 1∧c.1 < q.1 then 1 else 0) else 0
theorem upc_NS (c q:Pt) (d:Nat):upc c q d = upN c q d - upS c q d:=by
 unfold upc upN upS; (repeat' split) <;> omega
theorem upS_nn (c q:Pt) (d:Nat):0≤upS c q d:=by unfold upS; (repeat' split) <;> omega
def dW (W:List Lt) (i:Nat):Nat:=(wAt W i).val
def wnW (W:List Lt) (c:Pt):Int:=wn (pw W) (dW W) W.length c
def sN (W:List Lt) (c:Pt) (k:Nat):Int:=sm (fun i => upN c (pw W i) (dW W i)) 0 k
def sS (W:List Lt) (c:Pt) (k:Nat):Int:=sm (fun i => upS c (pw W i) (dW W i)) 0 k
theorem wn_NS (W:List Lt) (c:Pt):wnW W c = sN W c W.length - sS W c W.length:=by
 unfold wnW wn sN sS
 rw [← sm_sub]
 exact sm_congr fun k _ => upc_NS _ _ _
theorem sS_mono (W:List Lt) (c:Pt) {k:Nat} (m:Nat):sS W c k≤sS W c (k + m):=by
 unfold sS
 rw [sm_add]
 have:0≤sm (fun i => upS c (pw W i) (dW W i)) (0 + k) m:=by
  induction m with
  | zero => exact Int.le_refl _
  | succ m ih => show 0≤sm _ _ m + _; have:=upS_nn c (pw W (0 + k + m)) (dW W (0 + k + m)); dsimp only; omega
 omega
theorem cnt_rw (y:Int) (c:Pt):∀ m:Nat,(((List.range m).map fun i:Nat => ((-12 + (i:Int),y):Pt)).count c:Int) = if c.2 = y∧-12≤c.1∧c.1 < -12 + m then 1 else 0
 | 0 => by rw [if_neg (by omega)]; rfl
 | m + 1 => by
  rw [List.range_succ,List.map_append,List.count_append,Int.natCast_add,cnt_rw y c m,List.map_singleton,List.count_singleton]
  by_cases z:((-12 + (m:Int),y):Pt) = c
  ·subst z
   rw [if_pos (beq_self_eq_true _),if_neg (by dsimp only; omega),if_pos (by dsimp only; omega)]; rfl
  ·have h1:(((-12 + (m:Int),y):Pt) == c) = false:=beq_eq_false_iff_ne.mpr z
   have h2:¬ (c.2 = y∧c.1 = -12 + m):=fun w => z (Prod.ext w.2.symm w.1.symm)
   rw [h1]
   show _ + ((0:Nat):Int) = _
   (repeat' split) <;> omega
def sp_l_cells:Sp3:=fun ds H Q => ∃ z,ds = [.str z]∧(∃ W:List Lt,(z = wStr W∧W.length≤24∧0 < W.length∧endp (0,0) W = (0,0)∧(∀ i,-12≤(pw W i).1∧(pw W i).1≤12)∧∀ c,0≤wnW W c)∧∀ p (L:List Pt),H p = none→(∀ c,(L.count c:Int) = if -12≤c.1 then wnW W c else 0)→Q (.ref p) (upd3 H p (.lst (L.map prP))))
theorem u_l_cells {W:List Lt} {H:Hp3} {Q:VK3} (hl:W.length≤24) (h0:0 < W.length) (hW:endp (0,0) W = (0,0)) (hx:∀ i,-12≤(pw W i).1∧(pw W i).1≤12) (hn:∀ c,0≤wnW W c) (h:∀ p (L:List Pt),H p = none→(∀ c,(L.count c:Int) = if -12≤c.1 then wnW W c else 0)→Q (.ref p) (upd3 H p (.lst (L.map prP)))):sp_l_cells [.str (wStr W)] H Q:=⟨_,rfl,⟨W,⟨rfl,hl,h0,hW,hx,hn⟩,h⟩⟩
theorem en_lt {W:List Lt} {i:Nat} {d:D} (h:(zipD (rng 0 (W.map fun l => D.str (lt1 l)).length) (W.map fun l => D.str (lt1 l)))[i]? = some d):i < W.length∧d = .tup [.int i,.str (lt1 (wAt W i))]:=by
 unfold rng at h
 rw [zipD_map,List.getElem?_map] at h
 obtain ⟨⟨n,l⟩,h1,rfl⟩:=Option.map_eq_some_iff.mp h
 rw [List.getElem?_zip_eq_some] at h1
 obtain ⟨h1,h2⟩:=h1
 dsimp only at h1 h2
 have hi:=(List.getElem?_eq_some_iff.mp h2).1
 rw [List.length_map,List.getElem?_range (by omega)] at h1
 rw [wAt_lt hi] at h2
 cases h1; cases h2
 exact ⟨hi,by rw [Int.zero_add]⟩
theorem en_ln {W:List Lt}:(zipD (rng 0 (W.map fun l => D.str (lt1 l)).length) (W.map fun l => D.str (lt1 l))).length = W.length:=by
 unfold zipD
 rw [List.length_zipWith,rng_len,List.length_map]; omega
theorem len_l_cells:∀ (ds:List D) (H:Hp3) (Q:VK3),sp_l_cells ds H Q→ds.length = P_l_cells.length:=by
 intro ds H Q h
 obtain ⟨_,rfl,_⟩:=h
 rfl
def lp_l_cells_0:TS3:=fo3 (iez (v3 0)) (g2_3 3 4) (is3 (ts3 (o3 r3eq (v3 4) (c3 (.str "n")))) (dr3 (m3 r3ext (v3 1) (cons3 (cp3 (ir2 (u3 r3neg (c3 (.int 12))) (o3 r3ix (o3 r3ix (v3 2) (v3 3)) (c3 (.int 0)))) (gn3 0) yes3 (tp3 (cons3 (v3 0) (cons3 (o3 r3ix (o3 r3ix (v3 1) (v3 2)) (c3 (.int 1))) nil3))) ["_law_x"] [(2, "_law_path_here"),(3, "_law_k")]) nil3))) nx3)
def lp_l_cells_1:TS3:=fo3 (ir2 (u3 r3neg (c3 (.int 12))) (o3 r3ix (o3 r3ix (v3 2) (v3 3)) (c3 (.int 0)))) (gn3 5) (dr3 (m3 r3rem (v3 1) (cons3 (tp3 (cons3 (v3 5) (cons3 (o3 i3sub (o3 r3ix (o3 r3ix (v3 2) (v3 3)) (c3 (.int 1))) (c3 (.int 1))) nil3))) nil3)))
def lp_l_cells_2:TS3:=fo3 (iez (v3 0)) (g2_3 3 4) (is3 (ts3 (o3 r3eq (v3 4) (c3 (.str "s")))) lp_l_cells_1 nx3)
def t_l_cells:TS3:=(sq3 (st3 1 (ls3 nil3))
  (sq3 (st3 2 (cb3 sp_l_path (cons3 (tp3 (cons3 (c3 (.int 0)) (cons3 (c3 (.int 0)) nil3))) (cons3 (v3 0) nil3))))
  (sq3 lp_l_cells_0
  (sq3 lp_l_cells_2
  (rt3 (v3 1))))))
theorem rd_l_cells:∀ (ds:List D) (H:Hp3) (Q:VK3),sp_l_cells ds H Q→t_l_cells (fin3 Q) (start3 N_l_cells ds) H:=by
 intro ds H Q h
 obtain ⟨z,rfl,h⟩:=h
 obtain ⟨W,⟨rfl,hl,h0,hW,hx,hn⟩,h⟩:=h
 simp only [t_l_cells,start3,N_l_cells,List.map_cons,List.map_nil,List.length_cons,List.length_nil,Nat.reduceAdd,Nat.reduceSub,Nat.zero_add,List.replicate,List.cons_append,List.nil_append]
 walk_at "l3"
 intro p hp
 walk_at "l3"
 refine u_l_path W (by omega) fun p1 hp1 => ?_
 have n1:p≠p1:=ne3 upd3_same hp1
 walk_at "l3"
 unfold lp_l_cells_0
 walk_at "l3"
 refine g_ezk (asc_w W) ?_
 rw [lets_w]
 have sb0:Sub3 H (upd3 (upd3 H p (.lst [])) p1 (.lst ((path (0,0) W).map prP))):=(Sub3.fresh hp).trans (Sub3.fresh hp1)
 refine Lp.by (fun i σ H2 => Sub3 H H2∧H2 p1 = some (.lst ((path (0,0) W).map prP))∧∃ L:List Pt,∃ x y z,L.length≤24 * i∧H2 p = some (.lst (L.map prP))∧(∀ c,(L.count c:Int) = if -12≤c.1 then sN W c i else 0)∧σ = [some (.str (wStr W)),some (.ref p),some (.ref p1),x,y,z]) ⟨sb0,upd3_same,[],_,_,_,Nat.zero_le _,upd3_old upd3_same hp1,fun c => ?_,rfl⟩ (fun _ _ _ _ _ => trivial) ?_ ?_
 ·show (0:Int) = if _ then (0:Int) else 0
  split <;> rfl
 ·rintro i d σ H2 hd ⟨sb,k1,L,x,y,z,hL,k,hc,rfl⟩
  obtain ⟨hi,rfl⟩:=en_lt hd
  walk_at "l3"
  have pk:atI ((path (0,0) W).map prP) (i:Int) = some (.tup [.int (pw W i).1,.int (pw W i).2]):=by
   have:=path_pw (W:=W) (i:=(i:Int)) hW (by omega) (by omega)
   rwa [Int.toNat_natCast] at this
  have hxi:=hx i
  refine g_eqN ?_
  walk_at "l3"
  refine ifD (fun zn => ?_) fun zn => ?_
  ·have dn:dW W i = 1:=congrArg Fin.val zn
   walk_at "l3"
   refine g_ixL k1 pk ?_
   walk_at "l3"
   have hm:((pw W i).1 - -12).toNat≤24:=by omega
   refine Cp.rng (fun t => prP (-12 + (t:Int),(pw W i).2)) (by omega) ?_ ?_
   ·intro t ht R H4 hs hR
    walk_at "l3"
    refine g_ixL (hs _ _ k1) pk ?_
    walk_at "l3"
    exact hR H4 Sub3.refl
   intro p3 hp3
   walk_at "l3"
   have e3:(List.range ((pw W i).1 - -12).toNat).map (fun t:Nat => prP (-12 + (t:Int),(pw W i).2)) = ((List.range ((pw W i).1 - -12).toNat).map fun t:Nat => ((-12 + (t:Int),(pw W i).2):Pt)).map prP:=by rw [List.map_map]; rfl
   refine g_ext (upd3_old k hp3) (by rw [upd3_same]) (by rw [List.length_map,List.length_map,List.length_range,sizeLine_n]; omega) ?_
   walk_at "l3"
   have np:p1≠p3:=ne3 k1 hp3
   refine ⟨fun q o hq => ?_,by rw [upd3_ne n1.symm,upd3_ne np]; exact k1,L++(List.range ((pw W i).1 - -12).toNat).map (fun t:Nat => ((-12 + (t:Int),(pw W i).2):Pt)),_,_,_,?_,by rw [upd3_same,e3,List.map_append],fun c => ?_,rfl⟩
   ·rw [upd3_ne (fun e => by rw [e,hp] at hq; cases hq)]
    exact upd3_old (sb q o hq) hp3
   ·rw [List.length_append,List.length_map,List.length_range]; omega
   ·rw [List.count_append,Int.natCast_add,hc,cnt_rw]
    have es:sN W c (i + 1) = sN W c i + upN c (pw W i) (dW W i):=by
     show sN W c i + upN c (pw W (0 + i)) (dW W (0 + i)) = _
     rw [Nat.zero_add]
    rw [es,dn]
    unfold upN
    rw [if_pos rfl]
    generalize sN W c i = v
    (repeat' split) <;> omega
  ·have dn:dW W i≠1:=fun e => zn (Fin.ext e)
   refine g_nx3 (g_nx ?_)
   refine ⟨sb,k1,L,_,_,_,by omega,k,fun c => ?_,rfl⟩
   have es:sN W c (i + 1) = sN W c i + upN c (pw W i) (dW W i):=by
    show sN W c i + upN c (pw W (0 + i)) (dW W (0 + i)) = _
    rw [Nat.zero_add]
   rw [hc,es]
   unfold upN
   rw [if_neg dn,Int.add_zero]
 ·rintro σ H2 ⟨sb,k1,L,x,y,z,hL,k,hc,rfl⟩
  rw [en_ln] at hL hc
  walk_at "l3"
  unfold lp_l_cells_2
  walk_at "l3"
  refine g_ezk (asc_w W) ?_
  rw [lets_w]
  refine Lp.by (fun i σ H2 => Sub3 H H2∧H2 p1 = some (.lst ((path (0,0) W).map prP))∧∃ L:List Pt,∃ x y z,H2 p = some (.lst (L.map prP))∧(∀ c,(L.count c:Int) = if -12≤c.1 then sN W c W.length - sS W c i else 0)∧σ = [some (.str (wStr W)),some (.ref p),some (.ref p1),x,y,z]) ⟨sb,k1,L,_,_,_,k,fun c => ?_,rfl⟩ (fun _ _ _ _ _ => trivial) ?_ ?_
  ·rw [hc]
   show (if -12≤c.1 then sN W c W.length else 0) = if -12≤c.1 then sN W c W.length - 0 else 0
   rw [Int.sub_zero]
  ·clear hL hc k sb k1
   rintro i d σ H2 hd ⟨sb,k1,L,x,y,z,k,hc,rfl⟩
   obtain ⟨hi,rfl⟩:=en_lt hd
   have pk:atI ((path (0,0) W).map prP) (i:Int) = some (.tup [.int (pw W i).1,.int (pw W i).2]):=by
    have:=path_pw (W:=W) (i:=(i:Int)) hW (by omega) (by omega)
    rwa [Int.toNat_natCast] at this
   have hxi:=hx i
   have es:∀ c,sS W c (i + 1) = sS W c i + upS c (pw W i) (dW W i):=fun c => by
    show sS W c i + upS c (pw W (0 + i)) (dW W (0 + i)) = _
    rw [Nat.zero_add]
   walk_at "l3"
   refine g_eqS ?_
   walk_at "l3"
   refine ifD (fun zn => ?_) fun zn => ?_
   ·have dn:dW W i = 3:=congrArg Fin.val zn
    unfold lp_l_cells_1
    walk_at "l3"
    refine g_ixL k1 pk ?_
    walk_at "l3"
    obtain ⟨m,hm⟩:=Int.eq_ofNat_of_zero_le (show 0≤(pw W i).1 - -12 by omega)
    rw [hm,Int.toNat_natCast]
    refine Lp.rng (fun j σ H2 => Sub3 H H2∧H2 p1 = some (.lst ((path (0,0) W).map prP))∧∃ L:List Pt,∃ z,H2 p = some (.lst (L.map prP))∧(∀ c,(L.count c:Int) = (if -12≤c.1 then sN W c W.length - sS W c i else 0) - if c.2 = (pw W i).2 - 1∧-12≤c.1∧c.1 < -12 + (j:Int) then 1 else 0)∧σ = [some (.str (wStr W)),some (.ref p),some (.ref p1),some (.int i),some (.str (lt1 (wAt W i))),z]) ⟨sb,k1,L,_,k,fun c => ?_,rfl⟩ ?_ ?_
    ·rw [hc,if_neg (c:=c.2 = _∧_) (by omega),Int.sub_zero]
    ·clear hc k sb k1
     rintro j σ H2 hj ⟨sb,k1,L,z,k,hc,rfl⟩
     walk_at "l3"
     refine g_ixL k1 pk ?_
     walk_at "l3"
     have cc:=hc (-12 + (j:Int),(pw W i).2 - 1)
     dsimp only at cc
     rw [if_pos (by omega),if_neg (by omega)] at cc
     have hw:=hn (-12 + (j:Int),(pw W i).2 - 1)
     rw [wn_NS] at hw
     have hm1:=sS_mono W (-12 + (j:Int),(pw W i).2 - 1) (k:=i + 1) (W.length - (i + 1))
     rw [show i + 1 + (W.length - (i + 1)) = W.length from by omega,es,dn] at hm1
     have hu:upS (-12 + (j:Int),(pw W i).2 - 1) (pw W i) 3 = 1:=by
      unfold upS
      rw [if_pos rfl,if_pos (by dsimp only; omega)]
     refine g_rem k (List.count_pos_iff.mp (by omega)) fun qs hq => ?_
     walk_at "l3"
     refine ⟨fun q o hq => ?_,by rw [upd3_ne n1.symm]; exact k1,qs,_,upd3_same,fun c => ?_,rfl⟩
     ·rw [upd3_ne (fun e => by rw [e,hp] at hq; cases hq)]
      exact sb q o hq
     ·have e:=hc c
      rw [hq.count_eq,List.count_cons,Int.natCast_add] at e
      by_cases z:((-12 + (j:Int),(pw W i).2 - 1):Pt) = c
      ·subst z
       rw [if_pos (beq_self_eq_true _)] at e
       dsimp only at e ⊢
       rw [if_neg (c:=_∧_) (by omega)] at e
       rw [if_pos (c:=_∧_) (by omega)]
       omega
      ·have h1:(((-12 + (j:Int),(pw W i).2 - 1):Pt) == c) = false:=beq_eq_false_iff_ne.mpr z
       have h2:¬ (c.2 = (pw W i).2 - 1∧c.1 = -12 + (j:Int)):=fun w => z (Prod.ext w.2.symm w.1.symm)
       rw [h1] at e
       have e':((qs.count c:Nat):Int) = (if -12≤c.1 then sN W c W.length - sS W c i else 0) - if c.2 = (pw W i).2 - 1∧-12≤c.1∧c.1 < -12 + (j:Int) then 1 else 0:=by
        rw [← e]; exact (Int.add_zero _).symm
       rw [e']
       generalize (if -12≤c.1 then sN W c W.length - sS W c i else 0) = v
       (repeat' split) <;> omega
    ·clear hc k sb k1
     rintro σ H2 ⟨sb,k1,L,z,k,hc,rfl⟩
     walk_at "l3"
     refine ⟨sb,k1,L,_,_,_,k,fun c => ?_,rfl⟩
     rw [hc,es,dn]
     unfold upS
     rw [if_pos rfl]
     generalize sN W c W.length = v
     generalize sS W c i = u
     (repeat' split) <;> omega
   ·have dn:dW W i≠3:=fun e => zn (Fin.ext e)
    refine g_nx3 (g_nx ?_)
    refine ⟨sb,k1,L,_,_,_,k,fun c => ?_,rfl⟩
    rw [hc,es]
    unfold upS
    rw [if_neg dn,Int.add_zero]
  ·clear hL hc k sb k1
   rintro σ H2 ⟨sb,k1,L,x,y,z,k,hc,rfl⟩
   rw [en_ln] at hc
   walk_at "l3"
   exact g_fin (h p L hp fun c => by rw [hc,wn_NS]) (sub_upd sb k)
def sp_l_shifts:Sp3:=fun ds H Q => ∃ z xs,ds = [.str z,.tup xs]∧(∃ (W:List Lt) (cs:List Int),(z = wStr W∧xs = cs.map D.int∧4≤W.length∧W.length≤200∧Cts cs ((W.length:Int) / 2)∧endp (0,0) W = (0,0))∧∀ p,H p = none→Q (.ref p) (upd3 H p (.lst (((spn cs ((W.length:Int) / 2)).map (sh W ((W.length:Int) / 2))).map prP))))
theorem u_l_shifts {W:List Lt} {cs:List Int} {H:Hp3} {Q:VK3} (h4:4≤W.length) (hl:W.length≤200) (hc:Cts cs ((W.length:Int) / 2)) (hW:endp (0,0) W = (0,0)) (h:∀ p,H p = none→Q (.ref p) (upd3 H p (.lst (((spn cs ((W.length:Int) / 2)).map (sh W ((W.length:Int) / 2))).map prP)))):sp_l_shifts [.str (wStr W),.tup (cs.map D.int)] H Q:=⟨_,_,rfl,⟨W,cs,⟨rfl,rfl,h4,hl,hc,hW⟩,h⟩⟩
theorem len_l_shifts:∀ (ds:List D) (H:Hp3) (Q:VK3),sp_l_shifts ds H Q→ds.length = P_l_shifts.length:=by
 intro ds H Q h
 obtain ⟨_,_,rfl,_⟩:=h
 rfl
def lp_l_shifts_0:TS3:=fo3 (ir1 (cb3 r3len (cons3 (v3 1) nil3))) (gn3 5) (sq3 (st3 6 (o3 r3add (o3 r3ix (v3 1) (c3 (.int 0))) (v3 2)))
  (sq3 (is3 (ts3 (o3 r3lt (v3 5) (o3 i3sub (cb3 r3len (cons3 (v3 1) nil3)) (c3 (.int 1))))) (st3 6 (o3 r3ix (v3 1) (o3 r3add (v3 5) (c3 (.int 1))))) nx3)
  (sq3 (st3 7 (o3 r3ix (v3 3) (o3 r3ix (v3 1) (v3 5))))
  (sq3 (st3 8 (o3 r3ix (v3 3) (o3 r3add (v3 6) (v3 2))))
  (dr3 (m3 r3app (v3 4) (cons3 (tp3 (cons3 (o3 i3sub (o3 r3ix (v3 7) (c3 (.int 0))) (o3 r3ix (v3 8) (c3 (.int 0)))) (cons3 (o3 i3sub (o3 r3ix (v3 7) (c3 (.int 1))) (o3 r3ix (v3 8) (c3 (.int 1)))) nil3))) nil3)))))))
def t_l_shifts:TS3:=(sq3 (st3 2 (o3 i3divW (cb3 r3len (cons3 (v3 0) nil3)) (c3 (.int 2))))
  (sq3 (st3 3 (cb3 sp_l_path (cons3 (tp3 (cons3 (c3 (.int 0)) (cons3 (c3 (.int 0)) nil3))) (cons3 (o3 r3add (v3 0) (v3 0)) nil3))))
  (sq3 (st3 4 (ls3 nil3))
  (sq3 lp_l_shifts_0
  (rt3 (v3 4))))))
theorem rd_l_shifts:∀ (ds:List D) (H:Hp3) (Q:VK3),sp_l_shifts ds H Q→t_l_shifts (fin3 Q) (start3 N_l_shifts ds) H:=by
 intro ds H Q h
 obtain ⟨_,_,rfl,h⟩:=h
 obtain ⟨W,cs,⟨rfl,rfl,h4,hl,hc,hW⟩,h⟩:=h
 have hcl:=hc.len
 have hne:=hc.ne
 simp only [t_l_shifts,start3,N_l_shifts,List.map_cons,List.map_nil,List.length_cons,List.length_nil,Nat.reduceAdd,Nat.reduceSub,Nat.zero_add,List.replicate,List.cons_append,List.nil_append]
 walk_at "l3"
 refine g_lenW (by omega) ?_
 walk_at "l3"
 refine g_addZ (by rw [wStr_len,sizeLine_n]; omega) ?_
 rw [wStr_app]
 walk_at "l3"
 refine u_l_path (W++W) (by rw [List.length_append]; omega) fun p1 hp1 => ?_
 walk_at "l3"
 intro p hp
 walk_at "l3"
 unfold lp_l_shifts_0
 walk_at "l3"
 have n1:p1≠p:=ne3 upd3_same hp
 have sb:Sub3 H (upd3 (upd3 H p1 (.lst ((path (0,0) (W++W)).map prP))) p (.lst [])):=(Sub3.fresh hp1).trans (Sub3.fresh hp)
 have hh:H p = none:=sub_back (Sub3.fresh hp1) hp
 generalize hL:(W.length:Int) / 2 = L at *
 have hsl:=spn_len (L:=L) hne
 rw [List.length_map,Int.toNat_natCast]
 refine Lp.rng (fun i σ H2 => H2 = upd3 (upd3 (upd3 H p1 (.lst ((path (0,0) (W++W)).map prP))) p (.lst [])) p (.lst (((spn cs L).take i).map fun s => prP (sh W L s)))∧∃ x y z w,σ = [some (.str (wStr W)),some (.tup (cs.map D.int)),some (.int L),some (.ref p1),some (.ref p),x,y,z,w]) ⟨by rw [List.take_zero]; exact (upd3_id upd3_same).symm,_,_,_,_,rfl⟩ ?_ ?_
 ·rintro i σ H2 hi ⟨rfl,x,y,z,w,rfl⟩
  have hs:=spn_get (L:=L) hne hi
  obtain ⟨b1,b2,b3,b4⟩:=hc.spn _ (List.mem_of_getElem? hs)
  dsimp only at b1 b2 b3 b4
  rw [Int.zero_add]
  have k1:upd3 (upd3 (upd3 H p1 (.lst ((path (0,0) (W++W)).map prP))) p (.lst [])) p (.lst (((spn cs L).take i).map fun s => prP (sh W L s))) p1 = some (.lst ((path (0,0) (W++W)).map prP)):=by rw [upd3_ne n1,upd3_ne n1,upd3_same]
  walk_at "l3"
  refine g_ixT (atI_0 hne) ?_
  walk_at "l3"
  rw [List.length_map]
  refine ifD (fun zi => ?_) fun zi => ?_
  ·rw [if_pos zi] at b2 b3 hs
   walk_at "l3"
   refine g_ixT (d:=.int (cs.getD (i + 1) 0)) (by rw [atI_map (by omega) (by omega)]; congr 1; rw [List.getD_eq_getElem?_getD,List.getElem?_eq_getElem (by omega)]; rfl) ?_
   walk_at "l3"
   refine g_ixT (d:=.int cs[i]) (by rw [atI_map (by omega) (by rw [Int.toNat_natCast]; exact hi)]; rfl) ?_
   walk_at "l3"
   refine g_ixL k1 (path_pw2 hW b1 (by omega)) ?_
   walk_at "l3"
   refine g_ixL k1 (path_pw2 hW (by omega) (by omega)) ?_
   walk_at "l3"
   refine g_app upd3_same (small1000' (by rw [List.length_map,List.length_take]; omega)) ?_
   walk_at "l3"
   refine ⟨?_,_,_,_,_,rfl⟩
   simp only [upd3_upd3]
   rw [List.take_add_one,hs,List.map_append]; rfl
  ·rw [if_neg zi] at b2 b3 hs
   refine g_nx3 (g_nx ?_)
   walk_at "l3"
   refine g_ixT (d:=.int cs[i]) (by rw [atI_map (by omega) (by rw [Int.toNat_natCast]; exact hi)]; rfl) ?_
   walk_at "l3"
   refine g_ixL k1 (path_pw2 hW b1 (by omega)) ?_
   walk_at "l3"
   refine g_ixL k1 (path_pw2 hW (by omega) (by omega)) ?_
   walk_at "l3"
   refine g_app upd3_same (small1000' (by rw [List.length_map,List.length_take]; omega)) ?_
   walk_at "l3"
   refine ⟨?_,_,_,_,_,rfl⟩
   simp only [upd3_upd3]
   rw [List.take_add_one,hs,List.map_append]; rfl
 ·rintro σ H2 ⟨rfl,x,y,z,w,rfl⟩
  walk_at "l3"
  rw [List.take_of_length_le (by omega)]
  refine g_fin (h p hh) (sub_upd (fun q o hq => ?_) ?_)
  ·rw [upd3_ne (ne3 hq hh)]
   exact sb q o hq
  ·rw [upd3_same,List.map_map]; rfl
def sp_grid_by:Sp3:=fun ds H Q => ∃ z xs,ds = [.str z,.tup xs]∧(∃ (W:List Lt) (cs:List Int),(z = wStr W∧xs = cs.map D.int∧4≤W.length∧W.length≤240∧Cts cs ((W.length:Int) / 2)∧endp (0,0) W = (0,0)∧(∀ p∈(spn cs ((W.length:Int) / 2)).map (sh W ((W.length:Int) / 2)),Bt 400 p.1∧Bt 400 p.2)∧Wide ((spn cs ((W.length:Int) / 2)).map (sh W ((W.length:Int) / 2))))∧∀ e b d,GrOf ((spn cs ((W.length:Int) / 2)).map (sh W ((W.length:Int) / 2))) e b d→Q (.tup [.int e,.int b,.int d]) H)
theorem u_grid_by {W:List Lt} {cs:List Int} {H:Hp3} {Q:VK3} (h4:4≤W.length) (hl:W.length≤240) (hc:Cts cs ((W.length:Int) / 2)) (hW:endp (0,0) W = (0,0)) (hb:∀ p∈(spn cs ((W.length:Int) / 2)).map (sh W ((W.length:Int) / 2)),Bt 400 p.1∧Bt 400 p.2) (hw:Wide ((spn cs ((W.length:Int) / 2)).map (sh W ((W.length:Int) / 2)))) (h:∀ e b d,GrOf ((spn cs ((W.length:Int) / 2)).map (sh W ((W.length:Int) / 2))) e b d→Q (.tup [.int e,.int b,.int d]) H):sp_grid_by [.str (wStr W),.tup (cs.map D.int)] H Q:=⟨_,_,rfl,⟨W,cs,⟨rfl,rfl,h4,hl,hc,hW,hb,hw⟩,h⟩⟩
theorem len_grid_by:∀ (ds:List D) (H:Hp3) (Q:VK3),sp_grid_by ds H Q→ds.length = P_grid_by.length:=by
 intro ds H Q h
 obtain ⟨_,_,rfl,_⟩:=h
 rfl
def t_grid_by:TS3:=(rt3 (cb3 sp_grid_of (cons3 (cb3 sp_shifts_by (cons3 (v3 0) (cons3 (v3 1) nil3))) nil3)))
theorem rd_grid_by:∀ (ds:List D) (H:Hp3) (Q:VK3),sp_grid_by ds H Q→t_grid_by (fin3 Q) (start3 N_grid_by ds) H:=by
 intro ds H Q h
 obtain ⟨_,_,rfl,h⟩:=h
 obtain ⟨W,cs,⟨rfl,rfl,h4,hl,hc,hW,hb,hw⟩,h⟩:=h
 have hsl:((spn cs ((W.length:Int) / 2)).map (sh W ((W.length:Int) / 2))).length≤100:=by rw [List.length_map,spn_len hc.ne]; have:=hc.len; omega
 simp only [t_grid_by,start3,N_grid_by,List.map_cons,List.map_nil,List.length_cons,List.length_nil,Nat.reduceAdd,Nat.reduceSub,Nat.zero_add,List.replicate,List.cons_append,List.nil_append]
 walk_at "l3"
 refine u_shifts_by h4 hl hc hW fun p hp => ?_
 walk_at "l3"
 refine u_grid_of ((spn cs ((W.length:Int) / 2)).map (sh W ((W.length:Int) / 2))) (by rw [upd3_same,List.map_map]; rfl) hsl hb hw fun e b d G => ?_
 walk_at "l3"
 exact g_fin (h e b d G) (Sub3.fresh hp)
def sp_law:Sp3:=fun ds H Q => ∃ xs,ds = [.fl xs]∧((match intsOf xs with
  | some ns => (ns.length≤63)∧∀ H':Hp3,Q (.bl true) H'
  | none => False))
theorem begin_law {ns:List Int} (h:ns.length≤63):sp_law [.fl (ns.map D.int)] (fun _ => none) (fun d _ => d = .bl true):=by
 refine ⟨_,rfl,?_⟩
 simp only [intsOf_map]
 exact ⟨h,fun _ => trivial⟩
theorem GrOf.det {ps:List Pt} {e b d n:Int} {u x:Pt} (G:GrOf ps e b d) (hu:u∈ps) (hx:x∈ps) (hall:∀ p∈ps,In2 u x p) (hc:crs u x = n) (hn:0 < n):e * d = n:=by
 obtain ⟨g1,g2⟩:=G.grp (In2 u x) (In2.grp u x) hall
 obtain ⟨k,hk⟩:=crs_in g1 g2
 obtain ⟨l,hl⟩:=crs_in (G.ins u hu) (G.ins x hx)
 have e1:crs (e,0) (b,d) = e * d:=by show e * d - 0 * b = e * d; rw [Int.zero_mul,Int.sub_zero]
 rw [e1] at hk hl
 rw [hc] at hk hl
 have:=Int.mul_pos G.e0 G.d0
 exact Int.dvd_antisymm (by omega) (by omega) ⟨l,by rw [hl,Int.mul_comm]⟩ ⟨k,by rw [hk,Int.mul_comm]⟩
inductive Prt (P:Nat→Pt) (D:Nat→Nat) (h:Nat):List Nat→List Pt→Prop
 | two {a b:Nat} {u v:Pt} (hb:b < h) (s1:Sp P D h a b u) (s2:Sp P D h b (a + h) v):Prt P D h [a,b] [u,v]
 | thr {a b c:Nat} {u v x:Pt} (hc:c < h) (s1:Sp P D h a b u) (s2:Sp P D h b c v) (s3:Sp P D h c (a + h) x):Prt P D h [a,b,c] [u,v,x]
section
variable {P:Nat→Pt} {D:Nat→Nat} {h:Nat} {cs:List Nat} {vs:List Pt}
theorem Prt.zero (w:Wk P D h) (p:Prt P D h cs vs) {F:Pt→Nat→Int} (hF:∀ v∈vs,∀ q d,d < 4→F q d + F (dif (go1 q d) v) (od d) = 0):sm (fun i => F (P i) (D i)) 0 (h + h) = 0:=by
 cases p with
 | two hb s1 s2 => exact two_zero w s1 s2 (hF _ (by simp)) (hF _ (by simp))
 | thr hc s1 s2 s3 => exact three_zero w s1 s2 s3 (hF _ (by simp)) (hF _ (by simp)) (hF _ (by simp))
theorem Prt.base (w:Wk P D h) (p:Prt P D h cs vs):∃ u∈vs,∃ x∈vs,(∀ v∈vs,In2 u x v)∧crs u x = sm (fun i => (P i).1 * (stp (D i)).2) 0 (h + h):=by
 cases p with
 | @two a b u v hb s1 s2 =>
  refine ⟨u,by simp,v,by simp,fun y hy => ?_,(two_area w s1 s2).symm⟩
  simp only [List.mem_cons,List.not_mem_nil,or_false] at hy
  rcases hy with rfl | rfl
  ·exact In2.left _ _
  ·exact In2.right _ _
 | @thr a b c u v x hc s1 s2 s3 =>
  obtain ⟨ev,e⟩:=three_area w s1 s2 s3
  refine ⟨u,by simp,x,by simp,fun y hy => ?_,e.symm⟩
  simp only [List.mem_cons,List.not_mem_nil,or_false] at hy
  rcases hy with rfl | rfl | rfl
  ·exact In2.left _ _
  ·exact ⟨1,1,by rw [ev]; show u.1 + x.1 = _; omega,by rw [ev]; show u.2 + x.2 = _; omega⟩
  ·exact In2.right _ _
end
theorem rnd_wk {S:List Pt} {q:Pt} {h:Nat} (r:Rnd S q (h + h)):Wk (itr S q) (fun i => outD S (itr S q i)) h:=by
 have per:∀ i,itr S q (i + (h + h)) = itr S q i:=fun i => by rw [Nat.add_comm,itr_add,r.back]
 exact ⟨fun _ => rfl,fun _ => outD_lt,per,fun i => congrArg (outD S) (per i)⟩
section
variable {S:List Pt} {q:Pt} {h:Nat} {cs:List Nat} {vs:List Pt} {e b d:Int}
theorem sm_area (r:Rnd S q (h + h)) (dg:Dg S) (nd:S.Nodup) (hq:Crn S q):sm (fun i => (itr S q i).1 * (stp (outD S (itr S q i))).2) 0 (h + h) = S.length:=by
 rw [← area_len dg nd hq r,ar_wd,sm_list]; rfl
theorem Prt.lays (dg:Dg S) (nd:S.Nodup) (hq:Crn S q) (r:Rnd S q (h + h)) (hl:S.length≤1000) (p:Prt (itr S q) (fun i => outD S (itr S q i)) h cs vs) (G:GrOf vs e b d):e * d = S.length∧GrOk e b d∧Dst (e,b,d) S∧∀ z,rst (e,b,d) z∈S.map (rst (e,b,d)):=by
 have w:=rnd_wk r
 have hpos:(0:Int) < S.length:=by
  obtain ⟨k,ed⟩:=hq
  have:=List.length_pos_of_mem ed.l
  omega
 obtain ⟨u,hu,x,hx,hall,hc⟩:=p.base w
 have hn:e * d = S.length:=by
  refine G.det hu hx hall (hc.trans (sm_area r dg nd hq)) hpos
 have e0:=G.e0
 have d0:=G.d0
 have h1:e * 1≤e * d:=Int.mul_le_mul_of_nonneg_left (by omega) (by omega)
 have h2:1 * d≤e * d:=Int.mul_le_mul_of_nonneg_right (by omega) (by omega)
 have small:∀ n:Int,0 < n→n≤1000→Bt 4000 n:=fun n h0 hn => Bt.mono (m:=10) (by unfold Bt; show n.natAbs < 2 ^ 10; omega) (by decide)
 have hg:GrOk e b d:=⟨e0,G.b0,G.b1,d0,small e e0 (by omega),small d d0 (by omega)⟩
 have all:=tile_all dg nd hq r (g:=(e,b,d)) hg fun F hF => p.zero w fun v hv => hF v (G.ins v hv)
 exact ⟨hn,hg,tile_dst (g:=(e,b,d)) hg hn all,all⟩
theorem Prt.wide (dg:Dg S) (nd:S.Nodup) (hq:Crn S q) (r:Rnd S q (h + h)) (p:Prt (itr S q) (fun i => outD S (itr S q i)) h cs vs):Wide vs:=by
 obtain ⟨u,hu,x,hx,_,hc⟩:=p.base (rnd_wk r)
 refine ⟨u,hu,x,hx,?_⟩
 rw [hc,sm_area r dg nd hq]
 obtain ⟨k,ed⟩:=hq
 have:=List.length_pos_of_mem ed.l
 omega
end
theorem sub_atI {l:List Lt} {c p:Int} {j:Nat} (h:(j:Int) < p - c):(sub l c p)[j]? = l[c.toNat + j]?:=by
 unfold sub
 rw [List.getElem?_take,if_pos (by omega),List.getElem?_drop]
section
variable {S:List Pt} {q:Pt} {h:Nat}
theorem wd_at {t i:Nat} (hi:i < t):(wd S q t)[i]? = some (ltN (outD S (itr S q i))):=by
 unfold wd
 rw [List.getElem?_map,List.getElem?_range hi]; rfl
theorem ww_at {t i:Nat} (hb:itr S q t = q) (hi:i < t + t):(wd S q t++wd S q t)[i]? = some (ltN (outD S (itr S q i))):=by
 have hl:=wd_len S q t
 by_cases z:i < t
 ·rw [List.getElem?_append_left (by omega),wd_at z]
 ·rw [List.getElem?_append_right (by omega),hl,wd_at (by omega)]
  have:=itr_add (S:=S) (p:=q) t (i - t)
  rw [hb,show t + (i - t) = i from by omega] at this
  rw [this]
theorem ltN_opp {d e:Nat} (hd:d < 4) (he:e < 4) (k:ltN e = opp (ltN d)):e = od d:=by
 rcases c4 hd with rfl | rfl | rfl | rfl <;> rcases c4 he with rfl | rfl | rfl | rfl <;> first | rfl | (exact absurd k (by decide))
theorem pw_wd (r:Rnd S q (h + h)) (i:Nat):pw (wd S q (h + h)) i = dif (itr S q i) q:=by
 have hp:=r.pos
 have hl:=wd_len S q (h + h)
 have hm:=Nat.mod_lt i hp
 have e1:=endp_wd S q (i % (h + h))
 rw [endp_way] at e1
 have per:∀ k m,itr S q (m + k * (h + h)) = itr S q m:=by
  intro k
  induction k with
  | zero => intro m; rw [Nat.zero_mul]; rfl
  | succ k ih => intro m; rw [show m + (k + 1) * (h + h) = m + k * (h + h) + (h + h) from by rw [Nat.add_mul]; omega,(rnd_wk r).per,ih]
 have e2:=per (i / (h + h)) (i % (h + h))
 rw [show i % (h + h) + i / (h + h) * (h + h) = i from by rw [Nat.mul_comm]; exact Nat.mod_add_div i (h + h)] at e2
 unfold pw
 rw [hl,wd_take S q (Nat.le_of_lt hm),e2,← e1]
 unfold dif adp
 exact Prod.ext (by dsimp only; omega) (by dsimp only; omega)
theorem sh_wd (r:Rnd S q (h + h)) (c p:Int):sh (wd S q (h + h)) (h:Int) (c,p) = dif (itr S q c.toNat) (itr S q (p + h).toNat):=by
 unfold sh
 dsimp only
 rw [pw_wd r,pw_wd r]
 unfold dif
 exact Prod.ext (by dsimp only; omega) (by dsimp only; omega)
theorem half_wd:((wd S q (h + h)).length:Int) / 2 = h:=by rw [wd_len]; omega
theorem sp_wd (r:Rnd S q (h + h)) {c p:Int} (c0:0≤c) (hcp:c < p) (hle:p≤c + h) (hlt:c < h) (hb:prtB (wd S q (h + h)) (c,p) = true):Sp (itr S q) (fun i => outD S (itr S q i)) h c.toNat p.toNat (sh (wd S q (h + h)) (h:Int) (c,p)):=by
 have hl:=wd_len S q (h + h)
 unfold prtB at hb
 rw [decide_eq_true_iff,half_wd] at hb
 dsimp only at hb
 have dir:∀ k,k < p.toNat - c.toNat→outD S (itr S q (p.toNat + h - 1 - k)) = od (outD S (itr S q (c.toNat + k))):=by
  intro k hk
  have l1:(sub (wd S q (h + h)++wd S q (h + h)) c p).length = (p - c).toNat:=subW_len c0 (by omega) (by rw [List.length_append,hl]; omega)
  have e:=congrArg (fun l:List Lt => l[p.toNat - c.toNat - 1 - k]?) hb
  rw [bk_at (by rw [l1]; omega),l1,sub_atI (by omega),sub_atI (by omega),ww_at r.back (by omega),ww_at r.back (by omega),Option.map_some] at e
  have e':=Option.some.inj e
  rw [show (c + (h:Int)).toNat + (p.toNat - c.toNat - 1 - k) = p.toNat + h - 1 - k from by omega,show c.toNat + ((p - c).toNat - 1 - (p.toNat - c.toNat - 1 - k)) = c.toNat + k from by omega] at e'
  exact ltN_opp outD_lt outD_lt e'
 have w:=rnd_wk r
 have pos:∀ k,k≤p.toNat - c.toNat→itr S q (p.toNat + h - k) = dif (itr S q (c.toNat + k)) (sh (wd S q (h + h)) (h:Int) (c,p)):=by
  intro k
  induction k with
  | zero =>
   intro _
   rw [sh_wd r,show (p + (h:Int)).toNat = p.toNat + h from by omega,Nat.sub_zero,Nat.add_zero]
   unfold dif
   exact Prod.ext (by dsimp only; omega) (by dsimp only; omega)
  | succ k ih =>
   intro hk
   have e1:=ih (by omega)
   have e2:=w.go (p.toNat + h - (k + 1))
   have e3:=w.go (c.toNat + k)
   rw [show p.toNat + h - (k + 1) + 1 = p.toNat + h - k from by omega,e1,show p.toNat + h - (k + 1) = p.toNat + h - 1 - k from by omega,dir k (by omega)] at e2
   rw [show p.toNat + h - (k + 1) = p.toNat + h - 1 - k from by omega,← Nat.add_assoc,e3]
   have hd:=outD_lt (S:=S) (p:=itr S q (c.toNat + k))
   generalize sh (wd S q (h + h)) (h:Int) (c,p) = v at *
   generalize outD S (itr S q (c.toNat + k)) = d at *
   generalize itr S q (c.toNat + k) = A at *
   generalize itr S q (p.toNat + h - 1 - k) = B at *
   have x1:=congrArg Prod.fst e2
   have x2:=congrArg Prod.snd e2
   rcases c4 hd with rfl | rfl | rfl | rfl
   ·have y1:A.1 - v.1 = B.1 + -1:=x1
    have y2:A.2 - v.2 = B.2 + 0:=x2
    exact Prod.ext (by show B.1 = A.1 + 1 - v.1; omega) (by show B.2 = A.2 + 0 - v.2; omega)
   ·have y1:A.1 - v.1 = B.1 + 0:=x1
    have y2:A.2 - v.2 = B.2 + -1:=x2
    exact Prod.ext (by show B.1 = A.1 + 0 - v.1; omega) (by show B.2 = A.2 + 1 - v.2; omega)
   ·have y1:A.1 - v.1 = B.1 + 1:=x1
    have y2:A.2 - v.2 = B.2 + 0:=x2
    exact Prod.ext (by show B.1 = A.1 + -1 - v.1; omega) (by show B.2 = A.2 + 0 - v.2; omega)
   ·have y1:A.1 - v.1 = B.1 + 0:=x1
    have y2:A.2 - v.2 = B.2 + 1:=x2
    exact Prod.ext (by show B.1 = A.1 + 0 - v.1; omega) (by show B.2 = A.2 + -1 - v.2; omega)
 refine ⟨by omega,by omega,fun k hk => ?_,dir⟩
 have:=pos (k + 1) (by omega)
 rw [show p.toNat + h - (k + 1) = p.toNat + h - 1 - k from by omega,← Nat.add_assoc] at this
 exact this
theorem prt_wd (r:Rnd S q (h + h)) {cs:List Int} (hc:Cts cs h) (hp:isP (wd S q (h + h)) cs = true):Prt (itr S q) (fun i => outD S (itr S q i)) h (cs.map Int.toNat) ((spn cs h).map (sh (wd S q (h + h)) h)):=by
 obtain ⟨hl,hs,hr⟩:=hc
 unfold isP at hp
 rw [half_wd,List.all_eq_true] at hp
 rcases cs with _ | ⟨a,_ | ⟨b,_ | ⟨d,_ | _⟩⟩⟩ <;> simp at hl
 ·have ha:=hr a (by simp)
  have hb:=hr b (by simp)
  simp only [List.pairwise_cons,List.mem_cons,List.not_mem_nil,or_false,forall_eq] at hs
  simp only [spn,ends,List.drop_succ_cons,List.drop_zero,List.cons_append,List.nil_append,List.headD_cons,List.zip_cons_cons,List.zip_nil_right,List.mem_cons,List.not_mem_nil,or_false,forall_eq_or_imp,forall_eq,List.map_cons,List.map_nil] at hp ⊢
  have s1:=sp_wd r ha.1 hs.1 (by omega) ha.2 hp.1
  have s2:=sp_wd r hb.1 (by omega) (by omega) hb.2 hp.2
  rw [show (a + (h:Int)).toNat = a.toNat + h from by omega] at s2
  exact .two (by omega) s1 s2
 ·have ha:=hr a (by simp)
  have hb:=hr b (by simp)
  have hd:=hr d (by simp)
  simp only [List.pairwise_cons,List.mem_cons,List.not_mem_nil,or_false,forall_eq_or_imp,forall_eq] at hs
  simp only [spn,ends,List.drop_succ_cons,List.drop_zero,List.cons_append,List.nil_append,List.headD_cons,List.zip_cons_cons,List.zip_nil_right,List.mem_cons,List.not_mem_nil,or_false,forall_eq_or_imp,forall_eq,List.map_cons,List.map_nil] at hp ⊢
  have s1:=sp_wd r ha.1 hs.1.1 (by omega) ha.2 hp.1
  have s2:=sp_wd r hb.1 hs.2.1 (by omega) hb.2 hp.2.1
  have s3:=sp_wd r hd.1 (by omega) (by omega) hd.2 hp.2.2
  rw [show (a + (h:Int)).toNat = a.toNat + h from by omega] at s3
  exact .thr (by omega) s1 s2 s3
end
theorem py_ints:∀ (n:Nat) (cs:List Int),mapO (pyN n) (cs.map D.int) = some (cs.map PyData.int)
 | _,[] => rfl
 | n,c::cs => by
  have e:pyN n (.int c) = some (.int c):=by cases n <;> rfl
  simp only [List.map_cons,mapO,e,py_ints n cs]
theorem eqv_ints:∀ cs ds:List Int,PyData.eqvAll (cs.map PyData.int) (ds.map PyData.int) = decide (cs = ds)
 | [],[] => by simp [PyData.eqvAll]
 | [],_::_ => by simp [PyData.eqvAll]
 | _::_,[] => by simp [PyData.eqvAll]
 | c::cs,d::ds => by
  simp only [List.map_cons,PyData.eqvAll,eqv_ints cs ds,PyData.eqv,List.cons.injEq,Bool.decide_and]
  rfl
theorem g_ninC {cs:List Int} {css:List (List Int)} {a:Addr} {H:Hp3} {Q:VK3} (ha:H a = some (.lst (css.map cutD))) (hm:cs∈css) (q:Q (.bl false) H):r3inX true (.tup (cs.map D.int)) (.ref a) H Q:=by
 refine .inl ?_
 have e:pyN 4 (.tup (cs.map D.int)) = some (.tuple (cs.map PyData.int)):=by
  show (mapO (pyN 3) (cs.map D.int)).map PyData.tuple = _
  rw [py_ints]; rfl
 have hs:(seqH H (.ref a)).bind (mapO (pyN 4)) = some (css.map fun ds => PyData.tuple (ds.map PyData.int)):=by
  rw [seq_ref ha,Option.bind_some]
  clear ha hm
  induction css with
  | nil => rfl
  | cons d css ih =>
   have e1:pyN 4 (cutD d) = some (.tuple (d.map PyData.int)):=by
    show (mapO (pyN 3) (d.map D.int)).map PyData.tuple = _
    rw [py_ints]; rfl
   simp only [List.map_cons,mapO,e1,ih]
 (delta r3in; simp only [e,hs,if_true])
 have:(css.map fun ds => PyData.tuple (ds.map PyData.int)).any (fun q => PyData.eqv q (PyData.tuple (cs.map PyData.int))) = true:=by
  rw [List.any_eq_true]
  exact ⟨_,List.mem_map.mpr ⟨cs,hm,rfl⟩,by simp only [PyData.eqv,eqv_ints,decide_true]⟩
 rw [this]
 exact q
theorem step_val (l:Lt):step l = stp l.val:=by revert l; decide
theorem ltN_of (l:Lt):ltN l.val = l:=by revert l; decide
section
variable {W:List Lt}
theorem word_smp (hW:endp (0,0) W = (0,0)) (h3:3≤W.length) (nd:((path (0,0) W).drop 1).Nodup):Smp (pw W) (dW W) W.length:=by
 refine ⟨fun i => ?_,fun i => (wAt W i).isLt,fun i => ?_,fun i => ?_,fun i j hi hj e => ?_,h3⟩
 ·rw [pw_step hW (by omega),step_val]; rfl
 ·unfold pw; rw [Nat.add_mod_right]
 ·unfold dW wAt; rw [Nat.add_mod_right]
 ·have key:∀ i,i < W.length→((path (0,0) W).drop 1)[(if i = 0 then W.length else i) - 1]? = some (pw W i):=fun i hi => by
   rw [List.getElem?_drop,path_get]
   by_cases z:i = 0
   ·subst z
    rw [if_pos rfl,if_pos (by omega),show 1 + (W.length - 1) = W.length from by omega,List.take_length,hW,pw_lt hi]; rfl
   ·rw [if_neg z,if_pos (by omega),show 1 + (i - 1) = i from by omega,pw_lt hi]
  have h1:=key i hi
  have h2:=key j hj
  rw [← e] at h2
  have hb:=(List.getElem?_eq_some_iff.mp h1).1
  have:=(List.getElem?_inj hb nd).mp (h1.trans h2.symm)
  split at this <;> split at this <;> omega
theorem endp_y (c:Pt) (ls:List Lt):(endp c ls).2.natAbs≤c.2.natAbs + ls.length:=by
 induction ls generalizing c with
 | nil => show c.2.natAbs≤_; omega
 | cons l ls ih =>
  have h:=ih (adp (step l) c)
  have hs:=(step_x l).2
  have e:(adp (step l) c).2.natAbs≤c.2.natAbs + 1:=by unfold adp; dsimp only; omega
  rw [List.length_cons]
  exact Nat.le_trans h (by omega)
theorem pw_box (hW:endp (0,0) W = (0,0)) (hl:W.length≤24) (i:Nat):(-12≤(pw W i).1∧(pw W i).1≤12)∧-12≤(pw W i).2∧(pw W i).2≤12:=by
 unfold pw
 generalize i % W.length = k
 have e:=endp_app (0,0) (W.take k) (W.drop k)
 rw [List.take_append_drop,hW,endp_way] at e
 have e1:(0:Int) = (endp (0,0) (W.take k)).1 + (endp (0,0) (W.drop k)).1:=congrArg Prod.fst e
 have e2:(0:Int) = (endp (0,0) (W.take k)).2 + (endp (0,0) (W.drop k)).2:=congrArg Prod.snd e
 have a1:=endp_x (0,0) (W.take k)
 have a2:=endp_x (0,0) (W.drop k)
 have a3:=endp_y (0,0) (W.take k)
 have a4:=endp_y (0,0) (W.drop k)
 rw [List.length_take] at a1 a3
 rw [List.length_drop] at a2 a4
 have z1:((0:Int),(0:Int)).1.natAbs = 0:=rfl
 have z2:((0:Int),(0:Int)).2.natAbs = 0:=rfl
 omega
theorem ar_sm:ar (0,0) W = sm (fun i => (pw W i).1 * (stp (dW W i)).2) 0 W.length:=by
 have key:∀ k,k≤W.length→ar (0,0) (W.take k) = sm (fun i => (pw W i).1 * (stp (dW W i)).2) 0 k:=by
  intro k
  induction k with
  | zero => intro _; rfl
  | succ k ih =>
   intro hk
   rw [List.take_add_one,wAt_lt (by omega),Option.toList_some,ar_snoc,ih (by omega),step_val,← pw_lt (by omega)]
   show _ = sm _ 0 k + (pw W (0 + k)).1 * (stp (dW W (0 + k))).2
   rw [Nat.zero_add]; rfl
 have:=key W.length (Nat.le_refl _)
 rwa [List.take_length] at this
end
section
variable {P:Nat→Pt} {D:Nat→Nat} {n:Nat}
theorem Smp.left0 (s:Smp P D n) {c:Pt} (h:∀ i,c.1 < (P i).1):wn P D n c = 0:=by
 have tel:=sm_tel (fun i => if c.2 < (P i).2 then (1:Int) else 0) 1 0 n
 rw [Nat.zero_add,s.cl,Int.sub_self,Int.mul_zero] at tel
 unfold wn
 refine Eq.trans (sm_congr fun k _ => ?_) tel
 rw [s.go]
 have hd:=s.lt (0 + k)
 have hx:=h (0 + k)
 generalize P (0 + k) = q at hx
 generalize D (0 + k) = e at hd
 unfold upc
 simp only [go1]
 rcases c4 hd with rfl | rfl | rfl | rfl
 ·simp only [stp0,Int.add_zero,Int.sub_self]; rfl
 ·simp only [stp1]; (repeat' split) <;> first | omega | grind
 ·simp only [stp2,Int.add_zero,Int.sub_self]; rfl
 ·simp only [stp3]; (repeat' split) <;> first | omega | grind
theorem Smp.exS (s:Smp P D n) (hb:∀ i,(-12≤(P i).1∧(P i).1≤12)∧-12≤(P i).2∧(P i).2≤12):∃ S:List Pt,S.Nodup∧∀ c,c∈S↔wn P D n c = 1:=by
 refine ⟨((boxL 30 30).map fun c => (c.1 - 15,c.2 - 15)).filter fun c => decide (wn P D n c = 1),?_,fun c => ?_⟩
 ·have key:((boxL 30 30).map fun c => ((c.1 - 15,c.2 - 15):Pt)).Nodup:=?_
  ·exact key.filter _
  rw [List.nodup_iff_pairwise_ne,List.pairwise_map]
  refine (List.nodup_iff_pairwise_ne.mp (boxL_nd 30 30)).imp fun {a b} hne z => hne ?_
  have z1:a.1 - 15 = b.1 - 15:=congrArg Prod.fst z
  have z2:a.2 - 15 = b.2 - 15:=congrArg Prod.snd z
  exact Prod.ext (by omega) (by omega)
 ·rw [List.mem_filter,decide_eq_true_iff]
  refine ⟨fun z => z.2,fun z => ⟨?_,z⟩⟩
  have h1 : -12≤c.1:=by
   apply Classical.byContradiction
   intro y
   have:=s.left0 (c:=c) fun i => by have:=hb i; omega
   omega
  have h2:∃ i,(c.1 < (P i).1)∧((P i).2 = c.2∨(P i).2 = c.2 + 1):=by
   have hne:wn P D n c≠0:=by omega
   obtain ⟨k,_,hk⟩:=sm_some hne
   refine ⟨0 + k,?_⟩
   unfold upc at hk
   split at hk
   ·split at hk
    ·omega
    ·exact absurd rfl hk
   ·split at hk
    ·split at hk
     ·omega
     ·exact absurd rfl hk
    ·exact absurd rfl hk
  obtain ⟨i,i1,i2⟩:=h2
  have:=hb i
  refine List.mem_map.mpr ⟨(c.1 + 15,c.2 + 15),?_,Prod.ext (by show c.1 + 15 - 15 = c.1; omega) (by show c.2 + 15 - 15 = c.2; omega)⟩
  unfold boxL
  rw [List.mem_flatten]
  refine ⟨_,List.mem_map.mpr ⟨(c.1 + 15).toNat,List.mem_range.mpr (by omega),rfl⟩,List.mem_map.mpr ⟨(c.2 + 15).toNat,List.mem_range.mpr (by omega),Prod.ext ?_ ?_⟩⟩
  ·show (((c.1 + 15).toNat:Nat):Int) = c.1 + 15; omega
  ·show (((c.2 + 15).toNat:Nat):Int) = c.2 + 15; omega
end
theorem wd_of {W:List Lt} {S:List Pt} (e:∀ i,itr S (pw W 0) i = pw W i∧outD S (pw W i) = dW W i):wd S (pw W 0) W.length = W:=by
 refine List.ext_getElem? fun i => ?_
 unfold wd
 rw [List.getElem?_map]
 by_cases h:i < W.length
 ·rw [List.getElem?_range h,wAt_lt h,Option.map_some,(e i).1,(e i).2]
  exact congrArg some (ltN_of _)
 ·rw [List.getElem?_eq_none (by rw [List.length_range]; omega),List.getElem?_eq_none (by omega)]; rfl
structure Geo (W:List Lt) (vs:List Pt):Prop where
 nn:∀ c,0≤wnW W c
 far:∀ c:Pt,c.1 < -12→wnW W c = 0
 wide:Wide vs
 lays:∃ S:List Pt,S.Nodup∧(∀ c,c∈S↔wnW W c = 1)∧(∀ c,wnW W c = 0∨wnW W c = 1)∧(S.length:Int) = ar (0,0) W∧(∀ c∈S,(-13≤c.1∧c.1≤12)∧-13≤c.2∧c.2≤12)∧∀ e b d,GrOf vs e b d→e * d = S.length∧GrOk e b d∧Dst (e,b,d) S
theorem geo {W:List Lt} {cs:List Int} {h:Nat} (hW:endp (0,0) W = (0,0)) (hh:W.length = h + h) (h4:4≤W.length) (hl:W.length≤24) (nd:((path (0,0) W).drop 1).Nodup) (ha:1≤ar (0,0) W) (ha1:ar (0,0) W≤10) (hc:Cts cs h) (hp:isP W cs = true):Geo W ((spn cs (h:Int)).map (sh W (h:Int))):=by
 have s:=word_smp hW (by omega) nd
 have bx:=pw_box hW hl
 have pos:=s.pos (x0:=-12) (y0:=-12) (M:=24) (L:=24) (fun i => by have:=bx i; omega) (fun i => by have:=bx i; omega) (by rw [← ar_sm]; exact ha)
 have zo:=s.zo (M:=12) (fun i => (bx i).1.2) pos
 obtain ⟨S,nS,hS⟩:=s.exS bx
 have it:=s.itr zo hS
 have r:=s.rnd zo hS
 have dg:=s.dg zo hS
 have cr:=s.crn zo hS
 have e0:pw W 0 = (0,0):=by rw [pw_lt (by omega)]; rfl
 have ew:=wd_of it
 have al:=area_len dg nS cr r
 rw [ew,e0] at al
 rw [hh] at ew r
 rw [← ew] at hp
 have par:=prt_wd r hc hp
 rw [ew] at par
 refine ⟨pos,fun c hc => s.left0 fun i => by have:=bx i; omega,par.wide dg nS cr r,S,nS,hS,zo,al.symm,fun c hc => ?_,fun e b d G => ?_⟩
 ·have h1:=(hS c).mp hc
  have hne:wn (pw W) (dW W) W.length c≠0:=by omega
  have h0 : -12≤c.1:=by
   apply Classical.byContradiction
   intro y
   exact hne (s.left0 (c:=c) fun i => by have:=bx i; omega)
  obtain ⟨k,_,hk⟩:=sm_some hne
  have:=bx (0 + k)
  unfold upc at hk
  split at hk
  ·split at hk
   ·omega
   ·exact absurd rfl hk
  ·split at hk
   ·split at hk
    ·omega
    ·exact absurd rfl hk
   ·exact absurd rfl hk
 ·obtain ⟨h1,h2,h3,_⟩:=par.lays dg nS cr r (by omega) G
  exact ⟨h1,h2,h3⟩
theorem rst_ins {g:Tr} (hg:GrT g) {v:Pt} (hv:In2 (g.1,0) (g.2.1,g.2.2) v):rst g v = (0,0):=by
 have:=rst_mv hg hv v
 rw [← this,show dif v v = (0,0) from Prod.ext (Int.sub_self _) (Int.sub_self _)]
 refine Prod.ext ?_ ?_
 ·show (0 - 0 / g.2.2 * g.2.1) % g.1 = 0
  rw [Int.zero_ediv,Int.zero_mul,Int.sub_self,Int.zero_emod]
 ·show 0 % g.2.2 = 0
  exact Int.zero_emod _
theorem g_lenSetC {ps:List Pt} {a:Addr} {H:Hp3} {Q:VK3} (ha:H a = some (.lst (ps.map prP))) (hl:ps.length≤76) (hm:∀ x∈ps,x∈ps.drop 1) (q:∀ n:Nat,(n = ps.length - 1→(ps.drop 1).Nodup)→Q (.int n) H):r3lenSet [.ref a] H Q:=by
 have e:(ps.map p2l).map tpI = ps.map prP:=by rw [List.map_map]; rfl
 refine ⟨a,ps.map p2l,rfl,by rw [e]; exact ha,by rw [List.length_map]; exact hl,fun ks h1 h2 => q ks.length fun hn => ?_⟩
 have:=nodup_full (m:=(ps.drop 1).map p2l) h1 (fun x hx => by
  obtain ⟨y,hy,rfl⟩:=List.mem_map.mp ((h2 x).mp hx)
  exact List.mem_map.mpr ⟨y,hm y hy,rfl⟩) (by rw [List.length_map,List.length_drop]; omega)
 rw [List.nodup_iff_pairwise_ne,List.pairwise_map] at this
 rw [List.nodup_iff_pairwise_ne]
 exact this.imp fun {x y} z w => z (by rw [w])
theorem path_end {W:List Lt} (hW:endp (0,0) W = (0,0)) (h0:0 < W.length):∀ x∈path (0,0) W,x∈(path (0,0) W).drop 1:=by
 intro x hx
 obtain ⟨i,hi⟩:=List.getElem?_of_mem hx
 by_cases z:i = 0
 ·subst z
  rw [path_get,if_pos (Nat.zero_le _)] at hi
  refine List.mem_of_getElem? (i:=W.length - 1) ?_
  rw [List.getElem?_drop,path_get,if_pos (by omega),show 1 + (W.length - 1) = W.length from by omega,List.take_length,hW,← hi]; rfl
 ·refine List.mem_of_getElem? (i:=i - 1) ?_
  rw [List.getElem?_drop,show 1 + (i - 1) = i from by omega]; exact hi
theorem sub_app {A B:List Lt} {c p:Int} (h0:0≤c) (h1:c≤p) (h:p≤A.length):sub (A++B) c p = sub A c p:=by
 unfold sub
 rw [List.drop_append_of_le_length (by omega),List.take_append_of_le_length (by rw [List.length_drop]; omega)]
theorem Blt.isP {W:List Lt} {cs:List Int} (h:Blt W cs):isP W cs = true:=by
 unfold Law.isP
 rw [List.all_eq_true]
 intro s hs
 have e:=h.fel s hs
 obtain ⟨b1,b2,b3,b4⟩:=h.cts.spn s hs
 rw [sub_app (A:=W++W) (B:=W) (by omega) (by omega) (by rw [List.length_append]; omega)] at e
 unfold prtB
 rw [decide_eq_true_iff]; exact e.symm
theorem flat4:∀ {ws:List (List Lt)} {k:Nat},(∀ w∈ws,w.length≤k)→ws.flatten.length≤k * ws.length
 | [],_,_ => Nat.zero_le _
 | w::ws,k,h => by
  have:=flat4 (ws:=ws) (k:=k) fun v hv => h v (List.mem_cons_of_mem _ hv)
  have:=h w List.mem_cons_self
  rw [List.flatten_cons,List.length_append,List.length_cons,Nat.mul_add]; omega
theorem le_flat:∀ {ws:List (List Lt)} {w:List Lt},w∈ws→w.length≤ws.flatten.length
 | [],_,h => absurd h (by simp)
 | v::ws,w,h => by
  rw [List.flatten_cons,List.length_append]
  rcases List.mem_cons.mp h with rfl | h
  ·omega
  ·have:=le_flat h; omega
theorem flat_rev:∀ ws:List (List Lt),(ws.reverse.map bk).flatten.length = ws.flatten.length
 | [] => rfl
 | w::ws => by
  rw [List.reverse_cons,List.map_append,List.flatten_append,List.length_append,flat_rev ws,List.flatten_cons,List.length_append,List.map_singleton,List.flatten_cons,List.flatten_nil,List.append_nil,bk_len]; omega
theorem cnt_nd {L:List Pt} (h:∀ c,L.count c≤1):L.Nodup:=List.nodup_iff_count.mpr h
theorem len_law:∀ (ds:List D) (H:Hp3) (Q:VK3),sp_law ds H Q→ds.length = P_law.length:=by
 intro ds H Q h
 obtain ⟨_,rfl,_⟩:=h
 rfl
def t_law:TS3:=(sq3 (st3 1 (cb3 sp_l_stretches (cons3 (v3 0) (cons3 (c3 (.int 1)) nil3))))
  (sq3 (is3 (ts3 (o3 r3eq (o3 i3mod (cb3 sp_l_cell_at (cons3 (v3 0) (cons3 (c3 (.int 0)) nil3))) (c3 (.int 2))) (c3 (.int 1)))) (st3 1 (cb3 sp_l_free (cons3 (v3 0) (cons3 (c3 (.int 1)) nil3)))) nx3)
  (sq3 (is3 (ts3 (o3 r3lt (cb3 r3len (cons3 (v3 1) nil3)) (c3 (.int 2)))) (st3 1 (ls3 (cons3 (c3 (.str "e")) (cons3 (c3 (.str "n")) nil3)))) nx3)
  (sq3 (is3 (ts3 (o3 r3lt (cb3 sp_l_area (cons3 (o3 r3ix (cb3 sp_l_built (cons3 (v3 1) (cons3 (c3 (.int 0)) nil3))) (c3 (.int 0))) nil3)) (c3 (.int 0)))) (st3 1 (cp3 (irl (v3 1)) (gn3 0) yes3 (cb3 sp_l_back (cons3 (v3 0) nil3)) ["_law_one"] [])) nx3)
  (sq3 (as3 (cb3 sp_l_built (cons3 (v3 1) (cons3 (o3 i3mod (o3 i3divW (cb3 sp_l_cell_at (cons3 (v3 0) (cons3 (c3 (.int 0)) nil3))) (c3 (.int 2))) (c3 (.int 24))) nil3))) (g2_3 2 3))
  (sq3 (is3 (ts3 (o3 (r3inX true) (v3 3) (cb3 sp_partings_of (cons3 (v3 2) nil3)))) (rt3 (c3 (.bl false))) nx3)
  (sq3 (st3 4 (cb3 sp_l_area (cons3 (v3 2) nil3)))
  (sq3 (st3 5 (cb3 sp_l_path (cons3 (tp3 (cons3 (c3 (.int 0)) (cons3 (c3 (.int 0)) nil3))) (cons3 (v3 2) nil3))))
  (sq3 (is3 (or3 (ts3 (o3 r3ne (cb3 r3lenSet (cons3 (v3 5) nil3)) (cb3 r3len (cons3 (v3 2) nil3)))) (or3 (ts3 (o3 r3lt (v3 4) (c3 (.int 1)))) (ts3 (o3 i3gt (v3 4) (c3 (.int 10)))))) (rt3 (c3 (.bl true))) nx3)
  (sq3 (st3 6 (cb3 sp_grid_by (cons3 (v3 2) (cons3 (v3 3) nil3))))
  (sq3 (is3 (no3 (ts3 (cb3 sp_l_is_grid (cons3 (v3 6) (cons3 (v3 4) nil3))))) (rt3 (c3 (.bl false))) nx3)
  (sq3 (is3 (no3 (ts3 (cb3 r3all (cons3 (cp3 (il3 (cb3 sp_l_shifts (cons3 (v3 2) (cons3 (v3 3) nil3)))) (gn3 0) yes3 (o3 r3eq (cb3 sp_l_rest (cons3 (v3 1) (cons3 (v3 0) nil3))) (tp3 (cons3 (c3 (.int 0)) (cons3 (c3 (.int 0)) nil3)))) ["_law_shift"] [(6, "_law_grid")]) nil3)))) (rt3 (c3 (.bl false))) nx3)
  (sq3 (st3 7 (cb3 sp_l_cells (cons3 (v3 2) nil3)))
  (rt3 (av3 (o3 r3eq (cb3 r3len (cons3 (v3 7) nil3)) (v3 4)) (o3 r3eq (cb3 r3lenSet (cons3 (cp3 (il3 (v3 7)) (gn3 0) yes3 (cb3 sp_l_rest (cons3 (v3 1) (cons3 (v3 0) nil3))) ["_law_cell"] [(6, "_law_grid")]) nil3)) (v3 4)))))))))))))))))
theorem rd_law:∀ (ds:List D) (H:Hp3) (Q:VK3),sp_law ds H Q→t_law (fin3 Q) (start3 N_law ds) H:=by
 intro ds H Q h
 obtain ⟨xs,rfl,h⟩:=h
 split at h
 case h_2 => exact h.elim
 rename_i ns e
 have e':=intsOf_inv e
 subst e'
 obtain ⟨hl,h⟩:=h
 simp only [t_law,start3,N_law,List.map_cons,List.map_nil,List.length_cons,List.length_nil,Nat.reduceAdd,Nat.reduceSub,Nat.zero_add,List.replicate,List.cons_append,List.nil_append]
 have tl3:∀ (p:Addr) (ws:List (List Lt)) (H1:Hp3),H1 p = some (.lst (ws.map strD))→(ws.length = 2∨ws.length = 3)→(∀ w∈ws,0 < w.length∧w.length≤12)→ws.flatten.length≤12 →
   (sq3 (as3 (cb3 sp_l_built (cons3 (v3 1) (cons3 (o3 i3mod (o3 i3divW (cb3 sp_l_cell_at (cons3 (v3 0) (cons3 (c3 (.int 0)) nil3))) (c3 (.int 2))) (c3 (.int 24))) nil3))) (g2_3 2 3)) (sq3 (is3 (ts3 (o3 (r3inX true) (v3 3) (cb3 sp_partings_of (cons3 (v3 2) nil3)))) (rt3 (c3 (.bl false))) nx3) (sq3 (st3 4 (cb3 sp_l_area (cons3 (v3 2) nil3))) (sq3 (st3 5 (cb3 sp_l_path (cons3 (tp3 (cons3 (c3 (.int 0)) (cons3 (c3 (.int 0)) nil3))) (cons3 (v3 2) nil3)))) (sq3 (is3 (or3 (ts3 (o3 r3ne (cb3 r3lenSet (cons3 (v3 5) nil3)) (cb3 r3len (cons3 (v3 2) nil3)))) (or3 (ts3 (o3 r3lt (v3 4) (c3 (.int 1)))) (ts3 (o3 i3gt (v3 4) (c3 (.int 10)))))) (rt3 (c3 (.bl true))) nx3) (sq3 (st3 6 (cb3 sp_grid_by (cons3 (v3 2) (cons3 (v3 3) nil3)))) (sq3 (is3 (no3 (ts3 (cb3 sp_l_is_grid (cons3 (v3 6) (cons3 (v3 4) nil3))))) (rt3 (c3 (.bl false))) nx3) (sq3 (is3 (no3 (ts3 (cb3 r3all (cons3 (cp3 (il3 (cb3 sp_l_shifts (cons3 (v3 2) (cons3 (v3 3) nil3)))) (gn3 0) yes3 (o3 r3eq (cb3 sp_l_rest (cons3 (v3 1) (cons3 (v3 0) nil3))) (tp3 (cons3 (c3 (.int 0)) (cons3 (c3 (.int 0)) nil3)))) ["_law_shift"] [(6, "_law_grid")]) nil3)))) (rt3 (c3 (.bl false))) nx3) (sq3 (st3 7 (cb3 sp_l_cells (cons3 (v3 2) nil3))) (rt3 (av3 (o3 r3eq (cb3 r3len (cons3 (v3 7) nil3)) (v3 4)) (o3 r3eq (cb3 r3lenSet (cons3 (cp3 (il3 (v3 7)) (gn3 0) yes3 (cb3 sp_l_rest (cons3 (v3 1) (cons3 (v3 0) nil3))) ["_law_cell"] [(6, "_law_grid")]) nil3)) (v3 4))))))))))))) (fin3 Q) [some (.fl (ns.map D.int)),some (.ref p),none,none,none,none,none,none] H1:=by
  intro p ws H1 k hlw hw hf
  walk_at "l3"
  refine u_l_built ws k hlw hw (by omega) fun W cs B hW hWl => ?_
  have hWp:=B.len
  have hct:=B.cts
  have hip:=B.isP
  clear k
  walk_at "l3"
  refine u_partings_of (by omega) fun p1 hp1 => ?_
  walk_at "l3"
  refine g_ninC (css:=prt W) upd3_same ?_ ?_
  ·unfold prt
   rw [if_neg (by omega)]
   exact List.mem_filter.mpr ⟨allC_cts.mpr hct,hip⟩
  refine g_bt ?_
  refine ifX rfl ?_
  refine g_nx3 (g_nx ?_)
  generalize upd3 H1 p1 (.lst ((prt W).map cutD)) = H2
  walk_at "l3"
  refine u_l_area W (by omega) ?_
  walk_at "l3"
  refine u_l_path W (by omega) fun p2 hp2 => ?_
  walk_at "l3"
  have bx:=pw_box hW (W:=W) (by omega)
  refine g_lenSetC (ps:=path (0,0) W) upd3_same (by rw [path_len]; omega) (path_end hW (by omega)) fun n hn => ?_
  rw [path_len] at hn
  walk_at "l3"
  refine g_lenW (by omega) ?_
  walk_at "l3"
  refine ifN (fun z => ?_) fun z => ?_
  ·walk_at "l3"
   refine ifY rfl ?_
   walk_at "l3"
   exact g_fin (h _) Sub3.refl
  walk_at "l3"
  refine ifD (fun z1 => ?_) fun z1 => ?_
  ·walk_at "l3"
   refine ifY rfl ?_
   walk_at "l3"
   exact g_fin (h _) Sub3.refl
  walk_at "l3"
  refine ifD (fun z2 => ?_) fun z2 => ?_
  ·walk_at "l3"
   exact g_fin (h _) Sub3.refl
  refine g_nx3 (g_nx ?_)
  have hhalf:(W.length:Int) / 2 = (ws.flatten.length:Int):=by omega
  rw [hhalf] at hct
  have Gd:=geo hW hWl hWp.1 (by omega) (hn (by omega)) (by omega) (by omega) hct hip
  generalize ws.flatten.length = hf' at *
  generalize upd3 H2 p2 (.lst ((path (0,0) W).map prP)) = H3
  obtain ⟨S,nS,hS,zo,hSl,hSb,lays⟩:=Gd.lays
  have hbt:∀ v∈(spn cs (hf':Int)).map (sh W hf'),Bt 400 v.1∧Bt 400 v.2:=by
   intro v hv
   obtain ⟨⟨c1,c2⟩,_,rfl⟩:=List.mem_map.mp hv
   have b1:=bx c1.toNat
   have b2:=bx (c2 + hf').toNat
   unfold sh dif
   dsimp only
   generalize pw W c1.toNat = A at b1
   generalize pw W (c2 + (hf':Int)).toNat = B at b2
   exact ⟨Bt.mono (m:=10) (by unfold Bt; show (A.1 - B.1).natAbs < 2 ^ 10; omega) (by decide),Bt.mono (m:=10) (by unfold Bt; show (A.2 - B.2).natAbs < 2 ^ 10; omega) (by decide)⟩
  walk_at "l3"
  refine u_grid_by hWp.1 (by omega) (by rw [hhalf]; exact hct) hW (by rw [hhalf]; exact hbt) (by rw [hhalf]; exact Gd.wide) fun e b d G => ?_
  rw [hhalf] at G
  obtain ⟨hed,hg,hdst⟩:=lays e b d G
  walk_at "l3"
  refine u_l_is_grid hg (by rw [hed,hSl]) ?_
  walk_at "l3"
  refine ifX rfl ?_
  walk_at "l3"
  refine u_l_shifts hWp.1 (by omega) (by rw [hhalf]; exact hct) hW fun p3 hp3 => ?_
  rw [hhalf]
  have hvl:((spn cs (hf':Int)).map (sh W hf')).length≤10:=by rw [List.length_map,spn_len hct.ne]; have:=hct.len; omega
  generalize (spn cs (hf':Int)).map (sh W hf') = vs at *
  walk_at "l3"
  refine Cp.map (E:=prP) (as:=vs) (fun _ => D.bl true) (fun H4 hs => hs _ _ upd3_same) (by omega) ?_ ?_
  ·intro i v hv R H4 hs4 hR
   have hb:=hbt v (List.mem_of_getElem? hv)
   unfold prP
   walk_at "l3"
   refine u_l_rest hg (hb.1.mono (by decide)) (hb.2.mono (by decide)) ?_
   rw [rst_ins (g:=(e,b,d)) hg (G.ins v (List.mem_of_getElem? hv))]
   walk_at "l3"
   exact hR H4 Sub3.refl
  intro p4 hp4
  walk_at "l3"
  refine g_tr (bs:=vs.map fun _ => true) (by rw [upd3_same,List.map_map]; rfl) ?_
  have ht:(vs.map fun _ => true).all id = true:=by rw [List.all_map,List.all_eq_true]; exact fun _ _ => rfl
  rw [ht]
  refine g_bt ?_
  refine ifX rfl ?_
  refine g_nx3 (g_nx ?_)
  generalize upd3 (upd3 H3 p3 (.lst (vs.map prP))) p4 (.lst (vs.map fun _ => D.bl true)) = H4
  walk_at "l3"
  refine u_l_cells (by omega) (by omega) hW (fun i => (bx i).1) Gd.nn fun p5 L hp5 hcnt => ?_
  have hmem:∀ c,c∈L↔c∈S:=fun c => by
   rw [hS,← List.count_pos_iff]
   have:=hcnt c
   have hz:=zo c
   by_cases y : -12≤c.1
   ·rw [if_pos y] at this; omega
   ·rw [if_neg y] at this
    have:=Gd.far c (by omega)
    omega
  have ndL:L.Nodup:=cnt_nd fun c => by
   have:=hcnt c
   have hz:=zo c
   split at this <;> omega
  have hperm:L.Perm S:=(List.perm_ext_iff_of_nodup ndL nS).mpr hmem
  have hLl:L.length = S.length:=hperm.length_eq
  walk_at "l3"
  rw [List.length_map]
  refine ifD (fun _ => ?_) fun y => absurd (by rw [hLl,hSl]) y
  walk_at "l3"
  refine Cp.map (E:=prP) (as:=L) (fun c => prP (rst (e,b,d) c)) (fun H5 hs => hs _ _ upd3_same) (by omega) ?_ ?_
  ·intro i c hc R H5 hs5 hR
   have hb:=hSb c ((hmem c).mp (List.mem_of_getElem? hc))
   unfold prP
   walk_at "l3"
   refine u_l_rest hg (Bt.mono (m:=10) (by unfold Bt; show c.1.natAbs < 2 ^ 10; omega) (by decide)) (Bt.mono (m:=10) (by unfold Bt; show c.2.natAbs < 2 ^ 10; omega) (by decide)) ?_
   exact hR H5 Sub3.refl
  intro p6 hp6
  walk_at "l3"
  refine g_lenSet (ps:=L.map (rst (e,b,d))) (by rw [upd3_same,List.map_map]; rfl) (by rw [List.length_map]; omega) fun n hnn _ => ?_
  rw [List.length_map] at hnn
  have hnS:n = L.length:=hnn.mpr ((hperm.map (rst (e,b,d))).nodup_iff.mpr hdst)
  walk_at "l3"
  rw [decide_eq_true (by rw [hnS,hLl,hSl])]
  exact g_fin (h _) Sub3.refl
 have tl2:∀ (p:Addr) (ws:List (List Lt)) (H1:Hp3),H1 p = some (.lst (ws.map strD))→(ws.length = 2∨ws.length = 3)→(∀ w∈ws,0 < w.length∧w.length≤12)→ws.flatten.length≤12 →
   (sq3 (is3 (ts3 (o3 r3lt (cb3 sp_l_area (cons3 (o3 r3ix (cb3 sp_l_built (cons3 (v3 1) (cons3 (c3 (.int 0)) nil3))) (c3 (.int 0))) nil3)) (c3 (.int 0)))) (st3 1 (cp3 (irl (v3 1)) (gn3 0) yes3 (cb3 sp_l_back (cons3 (v3 0) nil3)) ["_law_one"] [])) nx3) (sq3 (as3 (cb3 sp_l_built (cons3 (v3 1) (cons3 (o3 i3mod (o3 i3divW (cb3 sp_l_cell_at (cons3 (v3 0) (cons3 (c3 (.int 0)) nil3))) (c3 (.int 2))) (c3 (.int 24))) nil3))) (g2_3 2 3)) (sq3 (is3 (ts3 (o3 (r3inX true) (v3 3) (cb3 sp_partings_of (cons3 (v3 2) nil3)))) (rt3 (c3 (.bl false))) nx3) (sq3 (st3 4 (cb3 sp_l_area (cons3 (v3 2) nil3))) (sq3 (st3 5 (cb3 sp_l_path (cons3 (tp3 (cons3 (c3 (.int 0)) (cons3 (c3 (.int 0)) nil3))) (cons3 (v3 2) nil3)))) (sq3 (is3 (or3 (ts3 (o3 r3ne (cb3 r3lenSet (cons3 (v3 5) nil3)) (cb3 r3len (cons3 (v3 2) nil3)))) (or3 (ts3 (o3 r3lt (v3 4) (c3 (.int 1)))) (ts3 (o3 i3gt (v3 4) (c3 (.int 10)))))) (rt3 (c3 (.bl true))) nx3) (sq3 (st3 6 (cb3 sp_grid_by (cons3 (v3 2) (cons3 (v3 3) nil3)))) (sq3 (is3 (no3 (ts3 (cb3 sp_l_is_grid (cons3 (v3 6) (cons3 (v3 4) nil3))))) (rt3 (c3 (.bl false))) nx3) (sq3 (is3 (no3 (ts3 (cb3 r3all (cons3 (cp3 (il3 (cb3 sp_l_shifts (cons3 (v3 2) (cons3 (v3 3) nil3)))) (gn3 0) yes3 (o3 r3eq (cb3 sp_l_rest (cons3 (v3 1) (cons3 (v3 0) nil3))) (tp3 (cons3 (c3 (.int 0)) (cons3 (c3 (.int 0)) nil3)))) ["_law_shift"] [(6, "_law_grid")]) nil3)))) (rt3 (c3 (.bl false))) nx3) (sq3 (st3 7 (cb3 sp_l_cells (cons3 (v3 2) nil3))) (rt3 (av3 (o3 r3eq (cb3 r3len (cons3 (v3 7) nil3)) (v3 4)) (o3 r3eq (cb3 r3lenSet (cons3 (cp3 (il3 (v3 7)) (gn3 0) yes3 (cb3 sp_l_rest (cons3 (v3 1) (cons3 (v3 0) nil3))) ["_law_cell"] [(6, "_law_grid")]) nil3)) (v3 4)))))))))))))) (fin3 Q) [some (.fl (ns.map D.int)),some (.ref p),none,none,none,none,none,none] H1:=by
  intro p ws H1 k hlw hw hf
  walk_at "l3"
  refine u_l_built ws k hlw hw (by omega) fun W cs B hW hWl => ?_
  have hWp:=B.len
  walk_at "l3"
  refine u_l_area W (by omega) ?_
  walk_at "l3"
  refine ifD (fun z => ?_) fun z => ?_
  ·walk_at "l3"
   rw [← List.map_reverse]
   refine Cp.map (E:=strD) (as:=ws.reverse) (fun w => strD (bk w)) (fun H3 hs => hs _ _ k) (by rw [List.length_reverse]; omega) ?_ ?_
   ·intro i w hiw R H2 hs hR
    unfold strD
    walk_at "l3"
    refine u_l_back w (by have:=(hw w (List.mem_reverse.mp (List.mem_of_getElem? hiw))).2; omega) ?_
    exact hR H2 Sub3.refl
   intro p3 hp3
   refine g_nx ?_
   refine tl3 p3 (ws.reverse.map bk) _ (by rw [upd3_same,List.map_map]; rfl) (by rw [List.length_map,List.length_reverse]; exact hlw) (fun w hw' => ?_) (by rw [flat_rev]; exact hf)
   obtain ⟨v,hv,rfl⟩:=List.mem_map.mp hw'
   rw [bk_len]
   exact hw v (List.mem_reverse.mp hv)
  ·refine g_nx3 (g_nx ?_)
   exact tl3 p ws _ k hlw hw hf
 have tl1:∀ (p:Addr) (ws:List (List Lt)) (H1:Hp3),H1 p = some (.lst (ws.map strD))→ws.length≤3→(∀ w∈ws,w≠[])→ws.flatten.length≤12 →
   (sq3 (is3 (ts3 (o3 r3lt (cb3 r3len (cons3 (v3 1) nil3)) (c3 (.int 2)))) (st3 1 (ls3 (cons3 (c3 (.str "e")) (cons3 (c3 (.str "n")) nil3)))) nx3) (sq3 (is3 (ts3 (o3 r3lt (cb3 sp_l_area (cons3 (o3 r3ix (cb3 sp_l_built (cons3 (v3 1) (cons3 (c3 (.int 0)) nil3))) (c3 (.int 0))) nil3)) (c3 (.int 0)))) (st3 1 (cp3 (irl (v3 1)) (gn3 0) yes3 (cb3 sp_l_back (cons3 (v3 0) nil3)) ["_law_one"] [])) nx3) (sq3 (as3 (cb3 sp_l_built (cons3 (v3 1) (cons3 (o3 i3mod (o3 i3divW (cb3 sp_l_cell_at (cons3 (v3 0) (cons3 (c3 (.int 0)) nil3))) (c3 (.int 2))) (c3 (.int 24))) nil3))) (g2_3 2 3)) (sq3 (is3 (ts3 (o3 (r3inX true) (v3 3) (cb3 sp_partings_of (cons3 (v3 2) nil3)))) (rt3 (c3 (.bl false))) nx3) (sq3 (st3 4 (cb3 sp_l_area (cons3 (v3 2) nil3))) (sq3 (st3 5 (cb3 sp_l_path (cons3 (tp3 (cons3 (c3 (.int 0)) (cons3 (c3 (.int 0)) nil3))) (cons3 (v3 2) nil3)))) (sq3 (is3 (or3 (ts3 (o3 r3ne (cb3 r3lenSet (cons3 (v3 5) nil3)) (cb3 r3len (cons3 (v3 2) nil3)))) (or3 (ts3 (o3 r3lt (v3 4) (c3 (.int 1)))) (ts3 (o3 i3gt (v3 4) (c3 (.int 10)))))) (rt3 (c3 (.bl true))) nx3) (sq3 (st3 6 (cb3 sp_grid_by (cons3 (v3 2) (cons3 (v3 3) nil3)))) (sq3 (is3 (no3 (ts3 (cb3 sp_l_is_grid (cons3 (v3 6) (cons3 (v3 4) nil3))))) (rt3 (c3 (.bl false))) nx3) (sq3 (is3 (no3 (ts3 (cb3 r3all (cons3 (cp3 (il3 (cb3 sp_l_shifts (cons3 (v3 2) (cons3 (v3 3) nil3)))) (gn3 0) yes3 (o3 r3eq (cb3 sp_l_rest (cons3 (v3 1) (cons3 (v3 0) nil3))) (tp3 (cons3 (c3 (.int 0)) (cons3 (c3 (.int 0)) nil3)))) ["_law_shift"] [(6, "_law_grid")]) nil3)))) (rt3 (c3 (.bl false))) nx3) (sq3 (st3 7 (cb3 sp_l_cells (cons3 (v3 2) nil3))) (rt3 (av3 (o3 r3eq (cb3 r3len (cons3 (v3 7) nil3)) (v3 4)) (o3 r3eq (cb3 r3lenSet (cons3 (cp3 (il3 (v3 7)) (gn3 0) yes3 (cb3 sp_l_rest (cons3 (v3 1) (cons3 (v3 0) nil3))) ["_law_cell"] [(6, "_law_grid")]) nil3)) (v3 4))))))))))))))) (fin3 Q) [some (.fl (ns.map D.int)),some (.ref p),none,none,none,none,none,none] H1:=by
  intro p ws H1 k hl3 hw hf
  walk_at "l3"
  refine ifD (fun z => ?_) fun z => ?_
  ·walk_at "l3"
   intro p3 hp3
   refine g_nx ?_
   exact tl2 p3 [[0],[1]] _ upd3_same (.inl rfl) (by simp) (by simp)
  ·refine g_nx3 (g_nx ?_)
   refine tl2 p ws _ k ?_ (fun w hw' => ⟨List.length_pos_iff.mpr (hw w hw'),?_⟩) hf
   ·rw [List.length_map] at z; omega
   ·have:=le_flat hw'; omega
 walk_at "l3"
 refine u_l_stretches (by omega) (by omega) hl fun p ws hp hl3 hw => ?_
 have hf:ws.flatten.length≤12:=by
  have:=flat4 (ws:=ws) (k:=4) fun w hw' => (hw w hw').2
  omega
 walk_at "l3"
 refine ifD (fun z => ?_) fun z => ?_
 ·walk_at "l3"
  refine u_l_free (by omega) (by omega) hl fun p2 ws2 hp2 hl2 hw2 hf2 => ?_
  refine g_nx ?_
  exact tl1 p2 ws2 _ upd3_same hl2 hw2 (by omega)
 ·refine g_nx3 (g_nx ?_)
  exact tl1 p ws _ upd3_same hl3 (fun w hw' => (hw w hw').1) hf
abbrev s_added:Stmt:=top 1
abbrev s_taken:Stmt:=top 2
abbrev s_common_measure:Stmt:=top 7
abbrev s_levelled:Stmt:=top 8
abbrev s_grid_of:Stmt:=top 9
abbrev s_corners_of:Stmt:=top 13
abbrev s_backwards:Stmt:=top 14
abbrev s_spans_of:Stmt:=top 16
abbrev s_is_parting:Stmt:=top 17
abbrev s_cuts_of_two:Stmt:=top 18
abbrev s_cuts_of_three:Stmt:=top 19
abbrev s_partings_of:Stmt:=top 20
abbrev s_shifts_by:Stmt:=top 21
abbrev s_grid_by:Stmt:=top 22
abbrev s_l_cell_at:Stmt:=top 24
abbrev s_l_step:Stmt:=top 25
abbrev s_l_whole:Stmt:=top 26
abbrev s_l_path:Stmt:=top 28
abbrev s_l_back:Stmt:=top 29
abbrev s_l_letters:Stmt:=top 30
abbrev s_l_stretches:Stmt:=top 31
abbrev s_l_free:Stmt:=top 32
abbrev s_l_built:Stmt:=top 33
abbrev s_l_is_grid:Stmt:=top 34
abbrev s_l_rest:Stmt:=top 35
abbrev s_l_area:Stmt:=top 36
abbrev s_l_cells:Stmt:=top 37
abbrev s_l_shifts:Stmt:=top 38
abbrev s_law:Stmt:=top 39
theorem sc_added:FnScope N_added P_added (defScope s_added):=⟨rfl,rfl,rfl,by decide +kernel,rfl,by decide +kernel,by decide +kernel⟩
theorem sc_taken:FnScope N_taken P_taken (defScope s_taken):=⟨rfl,rfl,rfl,by decide +kernel,rfl,by decide +kernel,by decide +kernel⟩
theorem sc_common_measure:FnScope N_common_measure P_common_measure (defScope s_common_measure):=⟨rfl,rfl,rfl,by decide +kernel,rfl,by decide +kernel,by decide +kernel⟩
theorem sc_levelled:FnScope N_levelled P_levelled (defScope s_levelled):=⟨rfl,rfl,rfl,by decide +kernel,rfl,by decide +kernel,by decide +kernel⟩
theorem sc_grid_of:FnScope N_grid_of P_grid_of (defScope s_grid_of):=⟨rfl,rfl,rfl,by decide +kernel,rfl,by decide +kernel,by decide +kernel⟩
theorem sc_corners_of:FnScope N_corners_of P_corners_of (defScope s_corners_of):=⟨rfl,rfl,rfl,by decide +kernel,rfl,by decide +kernel,by decide +kernel⟩
theorem sc_backwards:FnScope N_backwards P_backwards (defScope s_backwards):=⟨rfl,rfl,rfl,by decide +kernel,rfl,by decide +kernel,by decide +kernel⟩
theorem sc_spans_of:FnScope N_spans_of P_spans_of (defScope s_spans_of):=⟨rfl,rfl,rfl,by decide +kernel,rfl,by decide +kernel,by decide +kernel⟩
theorem sc_is_parting:FnScope N_is_parting P_is_parting (defScope s_is_parting):=⟨rfl,rfl,rfl,by decide +kernel,rfl,by decide +kernel,by decide +kernel⟩
theorem sc_cuts_of_two:FnScope N_cuts_of_two P_cuts_of_two (defScope s_cuts_of_two):=⟨rfl,rfl,rfl,by decide +kernel,rfl,by decide +kernel,by decide +kernel⟩
theorem sc_cuts_of_three:FnScope N_cuts_of_three P_cuts_of_three (defScope s_cuts_of_three):=⟨rfl,rfl,rfl,by decide +kernel,rfl,by decide +kernel,by decide +kernel⟩
theorem sc_partings_of:FnScope N_partings_of P_partings_of (defScope s_partings_of):=⟨rfl,rfl,rfl,by decide +kernel,rfl,by decide +kernel,by decide +kernel⟩
theorem sc_shifts_by:FnScope N_shifts_by P_shifts_by (defScope s_shifts_by):=⟨rfl,rfl,rfl,by decide +kernel,rfl,by decide +kernel,by decide +kernel⟩
theorem sc_grid_by:FnScope N_grid_by P_grid_by (defScope s_grid_by):=⟨rfl,rfl,rfl,by decide +kernel,rfl,by decide +kernel,by decide +kernel⟩
theorem sc_l_cell_at:FnScope N_l_cell_at P_l_cell_at (defScope s_l_cell_at):=⟨rfl,rfl,rfl,by decide +kernel,rfl,by decide +kernel,by decide +kernel⟩
theorem sc_l_step:FnScope N_l_step P_l_step (defScope s_l_step):=⟨rfl,rfl,rfl,by decide +kernel,rfl,by decide +kernel,by decide +kernel⟩
theorem sc_l_whole:FnScope N_l_whole P_l_whole (defScope s_l_whole):=⟨rfl,rfl,rfl,by decide +kernel,rfl,by decide +kernel,by decide +kernel⟩
theorem sc_l_path:FnScope N_l_path P_l_path (defScope s_l_path):=⟨rfl,rfl,rfl,by decide +kernel,rfl,by decide +kernel,by decide +kernel⟩
theorem sc_l_back:FnScope N_l_back P_l_back (defScope s_l_back):=⟨rfl,rfl,rfl,by decide +kernel,rfl,by decide +kernel,by decide +kernel⟩
theorem sc_l_letters:FnScope N_l_letters P_l_letters (defScope s_l_letters):=⟨rfl,rfl,rfl,by decide +kernel,rfl,by decide +kernel,by decide +kernel⟩
theorem sc_l_stretches:FnScope N_l_stretches P_l_stretches (defScope s_l_stretches):=⟨rfl,rfl,rfl,by decide +kernel,rfl,by decide +kernel,by decide +kernel⟩
theorem sc_l_free:FnScope N_l_free P_l_free (defScope s_l_free):=⟨rfl,rfl,rfl,by decide +kernel,rfl,by decide +kernel,by decide +kernel⟩
theorem sc_l_built:FnScope N_l_built P_l_built (defScope s_l_built):=⟨rfl,rfl,rfl,by decide +kernel,rfl,by decide +kernel,by decide +kernel⟩
theorem sc_l_is_grid:FnScope N_l_is_grid P_l_is_grid (defScope s_l_is_grid):=⟨rfl,rfl,rfl,by decide +kernel,rfl,by decide +kernel,by decide +kernel⟩
theorem sc_l_rest:FnScope N_l_rest P_l_rest (defScope s_l_rest):=⟨rfl,rfl,rfl,by decide +kernel,rfl,by decide +kernel,by decide +kernel⟩
theorem sc_l_area:FnScope N_l_area P_l_area (defScope s_l_area):=⟨rfl,rfl,rfl,by decide +kernel,rfl,by decide +kernel,by decide +kernel⟩
theorem sc_l_cells:FnScope N_l_cells P_l_cells (defScope s_l_cells):=⟨rfl,rfl,rfl,by decide +kernel,rfl,by decide +kernel,by decide +kernel⟩
theorem sc_l_shifts:FnScope N_l_shifts P_l_shifts (defScope s_l_shifts):=⟨rfl,rfl,rfl,by decide +kernel,rfl,by decide +kernel,by decide +kernel⟩
theorem sc_law:FnScope N_law P_law (defScope s_law):=⟨rfl,rfl,rfl,by decide +kernel,rfl,by decide +kernel,by decide +kernel⟩
theorem bd_added:Bnd "added" "added" s_added P_added:=fun _ _ _ _ _ _ _ _ => rfl
theorem bd_taken:Bnd "taken" "taken" s_taken P_taken:=fun _ _ _ _ _ _ _ _ => rfl
theorem bd_common_measure:Bnd "common_measure" "common_measure" s_common_measure P_common_measure:=fun _ _ _ _ _ _ _ _ => rfl
theorem bd_levelled:Bnd "levelled" "levelled" s_levelled P_levelled:=fun _ _ _ _ _ _ _ _ => rfl
theorem bd_grid_of:Bnd "grid_of" "grid_of" s_grid_of P_grid_of:=fun _ _ _ _ _ _ _ => rfl
theorem bd_corners_of:Bnd "corners_of" "corners_of" s_corners_of P_corners_of:=fun _ _ _ _ _ _ _ _ => rfl
theorem bd_backwards:Bnd "backwards" "backwards" s_backwards P_backwards:=fun _ _ _ _ _ _ _ => rfl
theorem bd_spans_of:Bnd "spans_of" "spans_of" s_spans_of P_spans_of:=fun _ _ _ _ _ _ _ _ => rfl
theorem bd_is_parting:Bnd "is_parting" "is_parting" s_is_parting P_is_parting:=fun _ _ _ _ _ _ _ _ => rfl
theorem bd_cuts_of_two:Bnd "cuts_of_two" "cuts_of_two" s_cuts_of_two P_cuts_of_two:=fun _ _ _ _ _ _ _ => rfl
theorem bd_cuts_of_three:Bnd "cuts_of_three" "cuts_of_three" s_cuts_of_three P_cuts_of_three:=fun _ _ _ _ _ _ _ => rfl
theorem bd_partings_of:Bnd "partings_of" "partings_of" s_partings_of P_partings_of:=fun _ _ _ _ _ _ _ => rfl
theorem bd_shifts_by:Bnd "shifts_by" "shifts_by" s_shifts_by P_shifts_by:=fun _ _ _ _ _ _ _ _ => rfl
theorem bd_grid_by:Bnd "grid_by" "grid_by" s_grid_by P_grid_by:=fun _ _ _ _ _ _ _ _ => rfl
theorem bd_l_cell_at:Bnd "_law_cell_at" "_law_cell_at" s_l_cell_at P_l_cell_at:=fun _ _ _ _ _ _ _ _ => rfl
theorem bd_l_step:Bnd "_law_step" "_law_step" s_l_step P_l_step:=fun _ _ _ _ _ _ _ => rfl
theorem bd_l_whole:Bnd "_law_whole" "_law_whole" s_l_whole P_l_whole:=fun _ _ _ _ _ _ _ => rfl
theorem bd_l_path:Bnd "_law_path" "_law_path" s_l_path P_l_path:=fun _ _ _ _ _ _ _ _ => rfl
theorem bd_l_back:Bnd "_law_back" "_law_back" s_l_back P_l_back:=fun _ _ _ _ _ _ _ => rfl
theorem bd_l_letters:Bnd "_law_letters" "_law_letters" s_l_letters P_l_letters:=fun _ _ _ _ _ _ _ _ _ _ => rfl
theorem bd_l_stretches:Bnd "_law_stretches" "_law_stretches" s_l_stretches P_l_stretches:=fun _ _ _ _ _ _ _ _ => rfl
theorem bd_l_free:Bnd "_law_free" "_law_free" s_l_free P_l_free:=fun _ _ _ _ _ _ _ _ => rfl
theorem bd_l_built:Bnd "_law_built" "_law_built" s_l_built P_l_built:=fun _ _ _ _ _ _ _ _ => rfl
theorem bd_l_is_grid:Bnd "_law_is_grid" "_law_is_grid" s_l_is_grid P_l_is_grid:=fun _ _ _ _ _ _ _ _ => rfl
theorem bd_l_rest:Bnd "_law_rest" "_law_rest" s_l_rest P_l_rest:=fun _ _ _ _ _ _ _ _ => rfl
theorem bd_l_area:Bnd "_law_area" "_law_area" s_l_area P_l_area:=fun _ _ _ _ _ _ _ => rfl
theorem bd_l_cells:Bnd "_law_cells" "_law_cells" s_l_cells P_l_cells:=fun _ _ _ _ _ _ _ => rfl
theorem bd_l_shifts:Bnd "_law_shifts" "_law_shifts" s_l_shifts P_l_shifts:=fun _ _ _ _ _ _ _ _ => rfl
structure Tx (K:PySem.W.Frag) (mg:Str→Option Value) (w:World):Prop where
 f_added:FnIn K mg "added" s_added P_added
 f_taken:FnIn K mg "taken" s_taken P_taken
 f_common_measure:FnIn K mg "common_measure" s_common_measure P_common_measure
 f_levelled:FnIn K mg "levelled" s_levelled P_levelled
 f_grid_of:FnIn K mg "grid_of" s_grid_of P_grid_of
 f_corners_of:FnIn K mg "corners_of" s_corners_of P_corners_of
 f_backwards:FnIn K mg "backwards" s_backwards P_backwards
 f_spans_of:FnIn K mg "spans_of" s_spans_of P_spans_of
 f_is_parting:FnIn K mg "is_parting" s_is_parting P_is_parting
 f_cuts_of_two:FnIn K mg "cuts_of_two" s_cuts_of_two P_cuts_of_two
 f_cuts_of_three:FnIn K mg "cuts_of_three" s_cuts_of_three P_cuts_of_three
 f_partings_of:FnIn K mg "partings_of" s_partings_of P_partings_of
 f_shifts_by:FnIn K mg "shifts_by" s_shifts_by P_shifts_by
 f_grid_by:FnIn K mg "grid_by" s_grid_by P_grid_by
 f_l_cell_at:FnIn K mg "_law_cell_at" s_l_cell_at P_l_cell_at
 f_l_step:FnIn K mg "_law_step" s_l_step P_l_step
 f_l_whole:FnIn K mg "_law_whole" s_l_whole P_l_whole
 f_l_path:FnIn K mg "_law_path" s_l_path P_l_path
 f_l_back:FnIn K mg "_law_back" s_l_back P_l_back
 f_l_letters:FnIn K mg "_law_letters" s_l_letters P_l_letters
 f_l_stretches:FnIn K mg "_law_stretches" s_l_stretches P_l_stretches
 f_l_free:FnIn K mg "_law_free" s_l_free P_l_free
 f_l_built:FnIn K mg "_law_built" s_l_built P_l_built
 f_l_is_grid:FnIn K mg "_law_is_grid" s_l_is_grid P_l_is_grid
 f_l_rest:FnIn K mg "_law_rest" s_l_rest P_l_rest
 f_l_area:FnIn K mg "_law_area" s_l_area P_l_area
 f_l_cells:FnIn K mg "_law_cells" s_l_cells P_l_cells
 f_l_shifts:FnIn K mg "_law_shifts" s_l_shifts P_l_shifts
 m_abs:mg "abs" = none
 m_all:mg "all" = none
 m_bool:mg "bool" = none
 m_enumerate:mg "enumerate" = none
 m_int:mg "int" = none
 m_isinstance:mg "isinstance" = none
 m_len:mg "len" = none
 m_list:mg "list" = none
 m_range:mg "range" = none
 m_reversed:mg "reversed" = none
 m_set:mg "set" = none
 m_sorted:mg "sorted" = none
 m_tuple:mg "tuple" = none
 m_zip:mg "zip" = none
 d_STEPS:∃ a,mg "STEPS" = some (.ref a)∧DC K w a c_STEPS
 d_OPPOSITES:∃ a,mg "OPPOSITES" = some (.ref a)∧DC K w a c_OPPOSITES
section
variable {P:Program} {w:World} {K:PySem.W.Frag} {mg:Str→Option Value} {base:Heap}
theorem ok_added (T:Tx K mg w):Fn P w K mg base 1 "added" P_added sp_added :=
 fn3i (t:=t_added) T.f_added sc_added len_added (fun f cdv A outer s H E hr => (s3_one (s3_ret (p3_tup (a3_cons (p3_op op3_add (p3_ix ix3 (p3_var 0) p3_int) (p3_ix ix3 (p3_var 1) p3_int)) (a3_cons (p3_op op3_add (p3_ix ix3 (p3_var 0) p3_int) (p3_ix ix3 (p3_var 1) p3_int)) a3_nil)))))) rd_added
theorem ok_taken (T:Tx K mg w):Fn P w K mg base 1 "taken" P_taken sp_taken :=
 fn3i (t:=t_taken) T.f_taken sc_taken len_taken (fun f cdv A outer s H E hr => (s3_one (s3_ret (p3_tup (a3_cons (p3_op op3_sub (p3_ix ix3 (p3_var 0) p3_int) (p3_ix ix3 (p3_var 1) p3_int)) (a3_cons (p3_op op3_sub (p3_ix ix3 (p3_var 0) p3_int) (p3_ix ix3 (p3_var 1) p3_int)) a3_nil)))))) rd_taken
theorem ok_common_measure (T:Tx K mg w):Fn P w K mg base 1 "common_measure" P_common_measure sp_common_measure :=
 fn3i (t:=t_common_measure) T.f_common_measure sc_common_measure len_common_measure (fun f cdv A outer s H E hr => (s3_cons (s3_while PassesOwn.never (p3_tcmp (op3_ne hr.units) (p3_var 1) p3_int) (s3_cons (s3_set 2 sc_common_measure.nd (p3_op op3_modN (p3_var 0) (p3_var 1)))
   (s3_cons (s3_set 0 sc_common_measure.nd (p3_var 1))
   (s3_one (s3_set 1 sc_common_measure.nd (p3_var 2))))))
   (s3_one (s3_ret (p3_callB cb3_abs rfl T.m_abs (by rfl) (a3_cons (p3_var 0) a3_nil)))))) rd_common_measure
theorem ok_levelled (T:Tx K mg w):Fn P w K mg base 1 "levelled" P_levelled sp_levelled :=
 fn3i (t:=t_levelled) T.f_levelled sc_levelled len_levelled (fun f cdv A outer s H E hr => (s3_cons (s3_while PassesOwn.never (p3_tcmp (op3_ne hr.units) (p3_ix ix3 (p3_var 1) p3_int) p3_int) (s3_cons (s3_set 2 sc_levelled.nd (p3_op op3_fdivN (p3_ix ix3 (p3_var 0) p3_int) (p3_ix ix3 (p3_var 1) p3_int)))
   (s3_cons (s3_set 3 sc_levelled.nd (p3_tup (a3_cons (p3_op op3_sub (p3_ix ix3 (p3_var 0) p3_int) (p3_op op3_mulW (p3_var 2) (p3_ix ix3 (p3_var 1) p3_int))) (a3_cons (p3_op op3_sub (p3_ix ix3 (p3_var 0) p3_int) (p3_op op3_mulW (p3_var 2) (p3_ix ix3 (p3_var 1) p3_int))) a3_nil))))
   (s3_cons (s3_set 0 sc_levelled.nd (p3_var 1))
   (s3_one (s3_set 1 sc_levelled.nd (p3_var 3)))))))
   (s3_one (s3_ret (p3_tup (a3_cons (p3_var 0) (a3_cons (p3_var 1) a3_nil))))))) rd_levelled
theorem ok_backwards (T:Tx K mg w):Fn P w K mg base 1 "backwards" P_backwards sp_backwards :=
 fn3i (t:=t_backwards) T.f_backwards sc_backwards len_backwards (fun f cdv A outer s H E hr => (s3_one (s3_ret (p3_zm PySem.F.slot_str_join PySem.F.type_str_join mt3_join p3_str (a3_cons (p3_comp (fv:=[]) (by show CompOk (defScope s_backwards) N_backwards _ _ _ _; exact ⟨rfl,by decide +kernel,by decide +kernel,by decide +kernel,rfl,by decide +kernel,by decide +kernel⟩) rfl (i3_rev T.m_reversed (p3_var 0)) (fun pins cl s1 H1 fp => ifs3_nil) (fun pins cl s1 H1 fp => (p3_kd rfl T.d_OPPOSITES (p3_var 0)))) a3_nil))))) rd_backwards
theorem ok_spans_of (T:Tx K mg w):Fn P w K mg base 1 "spans_of" P_spans_of sp_spans_of :=
 fn3i (t:=t_spans_of) T.f_spans_of sc_spans_of len_spans_of (fun f cdv A outer s H E hr => (s3_cons (s3_set 2 sc_spans_of.nd (p3_op op3_add (p3_callTy cb3_list rfl T.m_list (by rfl) (a3_cons (p3_slice sl3_tup (p3_var 1) (po3_some p3_int) po3_none) a3_nil)) (p3_lst (a3_cons (p3_op op3_add (p3_ix ix3 (p3_var 1) p3_int) (p3_op op3_fdivW (p3_callB cb3_len rfl T.m_len (by rfl) (a3_cons (p3_var 0) a3_nil)) p3_int)) a3_nil))))
   (s3_one (s3_ret (p3_listzip rfl T.m_list T.m_zip (p3_var 1) (p3_var 2)))))) rd_spans_of
theorem ok_cuts_of_two (T:Tx K mg w):Fn P w K mg base 1 "cuts_of_two" P_cuts_of_two sp_cuts_of_two :=
 fn3i (t:=t_cuts_of_two) T.f_cuts_of_two sc_cuts_of_two len_cuts_of_two (fun f cdv A outer s H E hr => (s3_cons (s3_set 1 sc_cuts_of_two.nd (p3_lst a3_nil))
   (s3_cons (s3_for PassesOwn.never rfl (i3_rng1 T.m_range (p3_var 0)) (g3_name 2 sc_cuts_of_two.nd) (s3_one (s3_expr (p3_bm PySem.F.slot_list_extend PySem.F.type_list_extend mt3_ext (p3_var 1) (a3_cons (p3_comp (fv:=[(2, "one")]) (by show CompOk (defScope s_cuts_of_two) N_cuts_of_two _ _ _ _; exact ⟨rfl,by decide +kernel,by decide +kernel,by decide +kernel,rfl,by decide +kernel,by decide +kernel⟩) rfl (i3_rng2 T.m_range (p3_op op3_add (p3_var 2) p3_int) (p3_var 0)) (fun pins cl s1 H1 fp => ifs3_nil) (fun pins cl s1 H1 fp => (p3_tup (a3_cons (p3_var 1) (a3_cons (p3_var 0) a3_nil))))) a3_nil)))))
   (s3_one (s3_ret (p3_var 1)))))) rd_cuts_of_two
theorem ok_l_cell_at (T:Tx K mg w):Fn P w K mg base 1 "_law_cell_at" P_l_cell_at sp_l_cell_at :=
 fn3i (t:=t_l_cell_at) T.f_l_cell_at sc_l_cell_at len_l_cell_at (fun f cdv A outer s H E hr => (s3_cons (s3_if (p3_tcmp (op3_lt hr.units0) (p3_var 1) (p3_callB cb3_len rfl T.m_len (by rfl) (a3_cons (p3_var 0) a3_nil))) (s3_one (s3_ret (p3_ix ix3 (p3_var 0) (p3_var 1)))) s3_nil)
   (s3_cons (s3_if (p3_tcmp (op3_eq hr.units) (p3_callB cb3_len rfl T.m_len (by rfl) (a3_cons (p3_var 0) a3_nil)) p3_int) (s3_one (s3_ret p3_int)) s3_nil)
   (s3_one (s3_ret (p3_op op3_mod (p3_op op3_mulW (p3_ix ix3 (p3_var 0) (p3_op op3_mod (p3_var 1) (p3_callB cb3_len rfl T.m_len (by rfl) (a3_cons (p3_var 0) a3_nil)))) (p3_op op3_add p3_int (p3_op op3_mulW (p3_var 1) (p3_var 1)))) p3_int)))))) rd_l_cell_at
theorem ok_l_step (T:Tx K mg w):Fn P w K mg base 1 "_law_step" P_l_step sp_l_step :=
 fn3i (t:=t_l_step) T.f_l_step sc_l_step len_l_step (fun f cdv A outer s H E hr => (s3_one (s3_ret (p3_ix ix3 (p3_lst (a3_cons (p3_tup (a3_cons p3_int (a3_cons p3_int a3_nil))) (a3_cons (p3_tup (a3_cons p3_int (a3_cons p3_int a3_nil))) (a3_cons (p3_tup (a3_cons (p3_un un3_neg p3_int) (a3_cons p3_int a3_nil))) (a3_cons (p3_tup (a3_cons p3_int (a3_cons (p3_un un3_neg p3_int) a3_nil))) a3_nil))))) (p3_zm PySem.F.slot_str_index PySem.F.type_str_index mt3_index p3_str (a3_cons (p3_var 0) a3_nil)))))) rd_l_step
theorem ok_l_whole (T:Tx K mg w):Fn P w K mg base 1 "_law_whole" P_l_whole sp_l_whole :=
 fn3i (t:=t_l_whole) T.f_l_whole sc_l_whole len_l_whole (fun f cdv A outer s H E hr => (s3_one (s3_ret (p3_and (p3_callB cb3_isi rfl T.m_isinstance (by rfl) (a3_cons (p3_var 0) (a3_cons (p3_ty rfl T.m_int (by rfl)) a3_nil))) (p3_one (p3_not (p3_callB cb3_isi rfl T.m_isinstance (by rfl) (a3_cons (p3_var 0) (a3_cons (p3_ty rfl T.m_bool (by rfl)) a3_nil))))))))) rd_l_whole
theorem ok_l_back (T:Tx K mg w):Fn P w K mg base 1 "_law_back" P_l_back sp_l_back :=
 fn3i (t:=t_l_back) T.f_l_back sc_l_back len_l_back (fun f cdv A outer s H E hr => (s3_cons (s3_set 1 sc_l_back.nd p3_str)
   (s3_cons (s3_for PassesOwn.never rfl (i3_text (p3_var 0)) (g3_name 2 sc_l_back.nd) (s3_one (s3_set 1 sc_l_back.nd (p3_op op3_add (p3_ix ix3 p3_str (p3_zm PySem.F.slot_str_index PySem.F.type_str_index mt3_index p3_str (a3_cons (p3_var 2) a3_nil))) (p3_var 1)))))
   (s3_one (s3_ret (p3_var 1)))))) rd_l_back
theorem ok_l_rest (T:Tx K mg w):Fn P w K mg base 1 "_law_rest" P_l_rest sp_l_rest :=
 fn3i (t:=t_l_rest) T.f_l_rest sc_l_rest len_l_rest (fun f cdv A outer s H E hr => (s3_cons (s3_set 2 sc_l_rest.nd (p3_op op3_fdivW (p3_ix ix3 (p3_var 1) p3_int) (p3_ix ix3 (p3_var 0) p3_int)))
   (s3_one (s3_ret (p3_tup (a3_cons (p3_op op3_mod (p3_op op3_sub (p3_ix ix3 (p3_var 1) p3_int) (p3_op op3_mulW (p3_var 2) (p3_ix ix3 (p3_var 0) p3_int))) (p3_ix ix3 (p3_var 0) p3_int)) (a3_cons (p3_op op3_sub (p3_ix ix3 (p3_var 1) p3_int) (p3_op op3_mulW (p3_var 2) (p3_ix ix3 (p3_var 0) p3_int))) a3_nil))))))) rd_l_rest
theorem ok_grid_of (T:Tx K mg w):Fn P w K mg base 2 "grid_of" P_grid_of sp_grid_of :=
 fn3i (t:=t_grid_of) T.f_grid_of sc_grid_of len_grid_of (fun f cdv A outer s H E hr => (s3_cons (s3_set 1 sc_grid_of.nd p3_int)
   (s3_cons (s3_set 2 sc_grid_of.nd (p3_tup (a3_cons p3_int (a3_cons p3_int a3_nil))))
   (s3_cons (s3_for PassesOwn.never rfl (i3_list (p3_var 0)) (g3_name 3 sc_grid_of.nd) (s3_cons (s3_set 4 sc_grid_of.nd (p3_call (ok_levelled T) (hr.mono (by decide)) (a3_cons (p3_var 2) (a3_cons (p3_var 3) a3_nil))))
   (s3_cons (s3_set 2 sc_grid_of.nd (p3_ix ix3 (p3_var 4) p3_int))
   (s3_cons (s3_set 1 sc_grid_of.nd (p3_call (ok_common_measure T) (hr.mono (by decide)) (a3_cons (p3_var 1) (a3_cons (p3_ix ix3 (p3_ix ix3 (p3_var 4) p3_int) p3_int) a3_nil))))
   (s3_one (s3_if (p3_tcmp (op3_ne hr.units) (p3_var 1) p3_int) (s3_one (s3_set 2 sc_grid_of.nd (p3_tup (a3_cons (p3_op op3_mod (p3_ix ix3 (p3_var 2) p3_int) (p3_var 1)) (a3_cons (p3_ix ix3 (p3_var 2) p3_int) a3_nil))))) s3_nil))))))
   (s3_cons (s3_if (p3_tw (p3_wor (p3_tcmp (op3_eq hr.units) (p3_var 1) p3_int) (p3_wor1 (p3_tcmp (op3_eq hr.units) (p3_ix ix3 (p3_var 2) p3_int) p3_int)))) (s3_one s3_never) s3_nil)
   (s3_cons (s3_if (p3_tcmp (op3_lt hr.units0) (p3_ix ix3 (p3_var 2) p3_int) p3_int) (s3_one (s3_set 2 sc_grid_of.nd (p3_tup (a3_cons (p3_op op3_mod (p3_un un3_neg (p3_ix ix3 (p3_var 2) p3_int)) (p3_var 1)) (a3_cons (p3_un un3_neg (p3_ix ix3 (p3_var 2) p3_int)) a3_nil))))) s3_nil)
   (s3_one (s3_ret (p3_tup (a3_cons (p3_var 1) (a3_cons (p3_ix ix3 (p3_var 2) p3_int) (a3_cons (p3_ix ix3 (p3_var 2) p3_int) a3_nil)))))))))))) rd_grid_of
theorem ok_corners_of (T:Tx K mg w):Fn P w K mg base 2 "corners_of" P_corners_of sp_corners_of :=
 fn3i (t:=t_corners_of) T.f_corners_of sc_corners_of len_corners_of (fun f cdv A outer s H E hr => (s3_cons (s3_set 2 sc_corners_of.nd (p3_lst (a3_cons (p3_var 0) a3_nil)))
   (s3_cons (s3_for PassesOwn.never rfl (i3_text (p3_var 1)) (g3_name 3 sc_corners_of.nd) (s3_one (s3_expr (p3_bm PySem.F.slot_list_append PySem.F.type_list_append mt3_app (p3_var 2) (a3_cons (p3_call (ok_added T) (hr.mono (by decide)) (a3_cons (p3_ix ix3 (p3_var 2) (p3_un un3_neg p3_int)) (a3_cons (p3_kd rfl T.d_STEPS (p3_var 3)) a3_nil))) a3_nil)))))
   (s3_one (s3_ret (p3_var 2)))))) rd_corners_of
theorem ok_is_parting (T:Tx K mg w):Fn P w K mg base 2 "is_parting" P_is_parting sp_is_parting :=
 fn3i (t:=t_is_parting) T.f_is_parting sc_is_parting len_is_parting (fun f cdv A outer s H E hr => (s3_cons (s3_set 2 sc_is_parting.nd (p3_op op3_fdivW (p3_callB cb3_len rfl T.m_len (by rfl) (a3_cons (p3_var 0) a3_nil)) p3_int))
   (s3_cons (s3_set 3 sc_is_parting.nd (p3_op op3_add (p3_var 0) (p3_var 0)))
   (s3_cons (s3_for PassesOwn.never rfl (i3_list (p3_call (ok_spans_of T) (hr.mono (by decide)) (a3_cons (p3_var 0) (a3_cons (p3_var 1) a3_nil)))) (g3_name 4 sc_is_parting.nd) (s3_cons (s3_set 5 sc_is_parting.nd (p3_slice sl3_text (p3_var 3) (po3_some (p3_ix ix3 (p3_var 4) p3_int)) (po3_some (p3_ix ix3 (p3_var 4) p3_int))))
   (s3_cons (s3_set 6 sc_is_parting.nd (p3_slice sl3_text (p3_var 3) (po3_some (p3_op op3_add (p3_ix ix3 (p3_var 4) p3_int) (p3_var 2))) (po3_some (p3_op op3_add (p3_ix ix3 (p3_var 4) p3_int) (p3_var 2)))))
   (s3_one (s3_if (p3_tcmp (op3_ne hr.units) (p3_var 6) (p3_call (ok_backwards T) (hr.mono (by decide)) (a3_cons (p3_var 5) a3_nil))) (s3_one (s3_ret p3_bl)) s3_nil)))))
   (s3_one (s3_ret p3_bl)))))) rd_is_parting
theorem ok_cuts_of_three (T:Tx K mg w):Fn P w K mg base 2 "cuts_of_three" P_cuts_of_three sp_cuts_of_three :=
 fn3i (t:=t_cuts_of_three) T.f_cuts_of_three sc_cuts_of_three len_cuts_of_three (fun f cdv A outer s H E hr => (s3_cons (s3_set 1 sc_cuts_of_three.nd (p3_lst a3_nil))
   (s3_cons (s3_for PassesOwn.never rfl (i3_list (p3_call (ok_cuts_of_two T) (hr.mono (by decide)) (a3_cons (p3_var 0) a3_nil))) (g3_name 2 sc_cuts_of_three.nd) (s3_one (s3_expr (p3_bm PySem.F.slot_list_extend PySem.F.type_list_extend mt3_ext (p3_var 1) (a3_cons (p3_comp (fv:=[(2, "pair")]) (by show CompOk (defScope s_cuts_of_three) N_cuts_of_three _ _ _ _; exact ⟨rfl,by decide +kernel,by decide +kernel,by decide +kernel,rfl,by decide +kernel,by decide +kernel⟩) rfl (i3_rng2 T.m_range (p3_op op3_add (p3_ix ix3 (p3_var 2) p3_int) p3_int) (p3_var 0)) (fun pins cl s1 H1 fp => ifs3_nil) (fun pins cl s1 H1 fp => (p3_tup (a3_cons (p3_ix ix3 (p3_var 1) p3_int) (a3_cons (p3_ix ix3 (p3_var 1) p3_int) (a3_cons (p3_var 0) a3_nil)))))) a3_nil)))))
   (s3_one (s3_ret (p3_var 1)))))) rd_cuts_of_three
theorem ok_l_path (T:Tx K mg w):Fn P w K mg base 2 "_law_path" P_l_path sp_l_path :=
 fn3i (t:=t_l_path) T.f_l_path sc_l_path len_l_path (fun f cdv A outer s H E hr => (s3_cons (s3_set 2 sc_l_path.nd (p3_lst (a3_cons (p3_var 0) a3_nil)))
   (s3_cons (s3_for PassesOwn.never rfl (i3_text (p3_var 1)) (g3_name 3 sc_l_path.nd) (s3_cons (s3_set 4 sc_l_path.nd (p3_call (ok_l_step T) (hr.mono (by decide)) (a3_cons (p3_var 3) a3_nil)))
   (s3_one (s3_expr (p3_bm PySem.F.slot_list_append PySem.F.type_list_append mt3_app (p3_var 2) (a3_cons (p3_tup (a3_cons (p3_op op3_add (p3_ix ix3 (p3_ix ix3 (p3_var 2) (p3_un un3_neg p3_int)) p3_int) (p3_ix ix3 (p3_var 4) p3_int)) (a3_cons (p3_op op3_add (p3_ix ix3 (p3_ix ix3 (p3_var 2) (p3_un un3_neg p3_int)) p3_int) (p3_ix ix3 (p3_var 4) p3_int)) a3_nil))) a3_nil))))))
   (s3_one (s3_ret (p3_var 2)))))) rd_l_path
theorem ok_l_letters (T:Tx K mg w):Fn P w K mg base 2 "_law_letters" P_l_letters sp_l_letters :=
 fn3i (t:=t_l_letters) T.f_l_letters sc_l_letters len_l_letters (fun f cdv A outer s H E hr => (s3_cons (s3_set 4 sc_l_letters.nd p3_str)
   (s3_cons (s3_for PassesOwn.never rfl (i3_rng1 T.m_range (p3_var 2)) (g3_name 5 sc_l_letters.nd) (s3_cons (s3_set 6 sc_l_letters.nd (p3_ix ix3 (p3_var 3) (p3_op op3_mod (p3_call (ok_l_cell_at T) (hr.mono (by decide)) (a3_cons (p3_var 0) (a3_cons (p3_op op3_add (p3_var 1) (p3_var 5)) a3_nil))) (p3_callB cb3_len rfl T.m_len (by rfl) (a3_cons (p3_var 3) a3_nil)))))
   (s3_cons (s3_if (p3_tw (p3_wand (p3_tcmp (op3_ne hr.units) (p3_var 4) p3_str) (p3_wand1 (p3_tcmp (op3_eq hr.units) (p3_var 6) (p3_call (ok_l_back T) (hr.mono (by decide)) (a3_cons (p3_ix ix3 (p3_var 4) (p3_un un3_neg p3_int)) a3_nil)))))) (s3_one (s3_set 6 sc_l_letters.nd (p3_ix ix3 (p3_var 3) p3_int))) s3_nil)
   (s3_one (s3_set 4 sc_l_letters.nd (p3_op op3_add (p3_var 4) (p3_var 6)))))))
   (s3_one (s3_ret (p3_var 4)))))) rd_l_letters
theorem ok_l_free (T:Tx K mg w):Fn P w K mg base 2 "_law_free" P_l_free sp_l_free :=
 fn3i (t:=t_l_free) T.f_l_free sc_l_free len_l_free (fun f cdv A outer s H E hr => (s3_cons (s3_set 2 sc_l_free.nd (p3_call (ok_l_cell_at T) (hr.mono (by decide)) (a3_cons (p3_var 0) (a3_cons (p3_var 1) a3_nil))))
   (s3_cons (s3_set 3 sc_l_free.nd (p3_zm PySem.F.slot_str_join PySem.F.type_str_join mt3_join p3_str (a3_cons (p3_comp (fv:=[(0, "_law_script"),(1, "_law_at")]) (by show CompOk (defScope s_l_free) N_l_free _ _ _ _; exact ⟨rfl,by decide +kernel,by decide +kernel,by decide +kernel,rfl,by decide +kernel,by decide +kernel⟩) rfl (i3_rng1 T.m_range (p3_op op3_add p3_int (p3_op op3_mod (p3_var 2) p3_int))) (fun pins cl s1 H1 fp => ifs3_nil) (fun pins cl s1 H1 fp => (p3_ix ix3 p3_str (p3_op op3_mod (p3_call (ok_l_cell_at T) (hr.mono (by decide)) (a3_cons (p3_var 1) (a3_cons (p3_op op3_add (p3_op op3_add (p3_var 2) p3_int) (p3_var 0)) a3_nil))) p3_int)))) a3_nil)))
   (s3_cons (s3_set 4 sc_l_free.nd (p3_callB cb3_sortI rfl T.m_sorted (by rfl) (a3_cons (p3_lst (a3_cons (p3_op op3_mod (p3_op op3_fdivW (p3_var 2) p3_int) (p3_op op3_add (p3_callB cb3_len rfl T.m_len (by rfl) (a3_cons (p3_var 3) a3_nil)) p3_int)) (a3_cons (p3_op op3_mod (p3_op op3_fdivW (p3_var 2) p3_int) (p3_op op3_add (p3_callB cb3_len rfl T.m_len (by rfl) (a3_cons (p3_var 3) a3_nil)) p3_int)) a3_nil))) a3_nil)))
   (s3_cons (s3_set 5 sc_l_free.nd (p3_lst (a3_cons (p3_slice sl3_text (p3_var 3) po3_none (po3_some (p3_ix ix3 (p3_var 4) p3_int))) (a3_cons (p3_slice sl3_text (p3_var 3) (po3_some (p3_ix ix3 (p3_var 4) p3_int)) (po3_some (p3_ix ix3 (p3_var 4) p3_int))) (a3_cons (p3_slice sl3_text (p3_var 3) (po3_some (p3_ix ix3 (p3_var 4) p3_int)) po3_none) a3_nil)))))
   (s3_one (s3_ret (p3_comp (fv:=[]) (by show CompOk (defScope s_l_free) N_l_free _ _ _ _; exact ⟨rfl,by decide +kernel,by decide +kernel,by decide +kernel,rfl,by decide +kernel,by decide +kernel⟩) rfl (i3_list (p3_var 5)) (fun pins cl s1 H1 fp => (ifs3_one (p3_tcmp (op3_ne hr.units) (p3_var 0) p3_str))) (fun pins cl s1 H1 fp => (p3_var 0)))))))))) rd_l_free
theorem ok_l_built (T:Tx K mg w):Fn P w K mg base 2 "_law_built" P_l_built sp_l_built :=
 fn3i (t:=t_l_built) T.f_l_built sc_l_built len_l_built (fun f cdv A outer s H E hr => (s3_cons (s3_set 2 sc_l_built.nd (p3_zm PySem.F.slot_str_join PySem.F.type_str_join mt3_join p3_str (a3_cons (p3_var 0) a3_nil)))
   (s3_cons (s3_set 3 sc_l_built.nd (p3_op op3_add (p3_var 2) (p3_zm PySem.F.slot_str_join PySem.F.type_str_join mt3_join p3_str (a3_cons (p3_comp (fv:=[]) (by show CompOk (defScope s_l_built) N_l_built _ _ _ _; exact ⟨rfl,by decide +kernel,by decide +kernel,by decide +kernel,rfl,by decide +kernel,by decide +kernel⟩) rfl (i3_list (p3_var 0)) (fun pins cl s1 H1 fp => ifs3_nil) (fun pins cl s1 H1 fp => (p3_call (ok_l_back T) (hr.mono (by decide)) (a3_cons (p3_var 0) a3_nil)))) a3_nil))))
   (s3_cons (s3_set 4 sc_l_built.nd (p3_lst a3_nil))
   (s3_cons (s3_set 5 sc_l_built.nd p3_int)
   (s3_cons (s3_for PassesOwn.never rfl (i3_list (p3_var 0)) (g3_name 6 sc_l_built.nd) (s3_cons (s3_expr (p3_bm PySem.F.slot_list_append PySem.F.type_list_append mt3_app (p3_var 4) (a3_cons (p3_op op3_mod (p3_op op3_sub (p3_var 5) (p3_var 1)) (p3_callB cb3_len rfl T.m_len (by rfl) (a3_cons (p3_var 2) a3_nil))) a3_nil)))
   (s3_one (s3_set 5 sc_l_built.nd (p3_op op3_add (p3_var 5) (p3_callB cb3_len rfl T.m_len (by rfl) (a3_cons (p3_var 6) a3_nil)))))))
   (s3_cons (s3_set 1 sc_l_built.nd (p3_op op3_mod (p3_var 1) (p3_callB cb3_len rfl T.m_len (by rfl) (a3_cons (p3_var 3) a3_nil))))
   (s3_one (s3_ret (p3_tup (a3_cons (p3_op op3_add (p3_slice sl3_text (p3_var 3) (po3_some (p3_var 1)) po3_none) (p3_slice sl3_text (p3_var 3) po3_none (po3_some (p3_var 1)))) (a3_cons (p3_callTy cb3_tuple rfl T.m_tuple (by rfl) (a3_cons (p3_callB cb3_sortI rfl T.m_sorted (by rfl) (a3_cons (p3_var 4) a3_nil)) a3_nil)) a3_nil)))))))))))) rd_l_built
theorem ok_l_is_grid (T:Tx K mg w):Fn P w K mg base 2 "_law_is_grid" P_l_is_grid sp_l_is_grid :=
 fn3i (t:=t_l_is_grid) T.f_l_is_grid sc_l_is_grid len_l_is_grid (fun f cdv A outer s H E hr => (s3_cons (s3_if (p3_tw (p3_wor (p3_tnot (p3_tval (p3_callB cb3_isi rfl T.m_isinstance (by rfl) (a3_cons (p3_var 0) (a3_cons (p3_ty rfl T.m_tuple (by rfl)) a3_nil))))) (p3_wor (p3_tcmp (op3_ne hr.units) (p3_callB cb3_len rfl T.m_len (by rfl) (a3_cons (p3_var 0) a3_nil)) p3_int) (p3_wor1 (p3_tnot (p3_tval (p3_callB (cb3_all rfl) rfl T.m_all (by rfl) (a3_cons (p3_comp (fv:=[]) (by show CompOk (defScope s_l_is_grid) N_l_is_grid _ _ _ _; exact ⟨rfl,by decide +kernel,by decide +kernel,by decide +kernel,rfl,by decide +kernel,by decide +kernel⟩) rfl (i3_tup (p3_var 0)) (fun pins cl s1 H1 fp => ifs3_nil) (fun pins cl s1 H1 fp => (p3_call (ok_l_whole T) (hr.mono (by decide)) (a3_cons (p3_var 0) a3_nil)))) a3_nil)))))))) (s3_one (s3_ret p3_bl)) s3_nil)
   (s3_one (s3_ret (p3_and (p3_cmp op3_gt (p3_ix ix3 (p3_var 0) p3_int) p3_int) (p3_and (p3_chain op3_le (op3_lt hr.units0) p3_int (p3_ix ix3 (p3_var 0) p3_int) (p3_ix ix3 (p3_var 0) p3_int)) (p3_and (p3_cmp op3_gt (p3_ix ix3 (p3_var 0) p3_int) p3_int) (p3_one (p3_cmp (op3_eq hr.units) (p3_op op3_mulW (p3_ix ix3 (p3_var 0) p3_int) (p3_ix ix3 (p3_var 0) p3_int)) (p3_var 1)))))))))) rd_l_is_grid
theorem ok_partings_of (T:Tx K mg w):Fn P w K mg base 3 "partings_of" P_partings_of sp_partings_of :=
 fn3i (t:=t_partings_of) T.f_partings_of sc_partings_of len_partings_of (fun f cdv A outer s H E hr => (s3_cons (s3_if (p3_tcmp (op3_eq hr.units) (p3_op op3_mod (p3_callB cb3_len rfl T.m_len (by rfl) (a3_cons (p3_var 0) a3_nil)) p3_int) p3_int) (s3_one (s3_ret (p3_lst a3_nil))) s3_nil)
   (s3_cons (s3_set 1 sc_partings_of.nd (p3_op op3_fdivW (p3_callB cb3_len rfl T.m_len (by rfl) (a3_cons (p3_var 0) a3_nil)) p3_int))
   (s3_one (s3_ret (p3_comp (fv:=[(0, "word")]) (by show CompOk (defScope s_partings_of) N_partings_of _ _ _ _; exact ⟨rfl,by decide +kernel,by decide +kernel,by decide +kernel,rfl,by decide +kernel,by decide +kernel⟩) rfl (i3_list (p3_op op3_add (p3_call (ok_cuts_of_two T) (hr.mono (by decide)) (a3_cons (p3_var 1) a3_nil)) (p3_call (ok_cuts_of_three T) (hr.mono (by decide)) (a3_cons (p3_var 1) a3_nil)))) (fun pins cl s1 H1 fp => (ifs3_one (p3_tval (p3_call (ok_is_parting T) (hr.mono (by decide)) (a3_cons (p3_var 1) (a3_cons (p3_var 0) a3_nil)))))) (fun pins cl s1 H1 fp => (p3_var 0)))))))) rd_partings_of
theorem ok_shifts_by (T:Tx K mg w):Fn P w K mg base 3 "shifts_by" P_shifts_by sp_shifts_by :=
 fn3i (t:=t_shifts_by) T.f_shifts_by sc_shifts_by len_shifts_by (fun f cdv A outer s H E hr => (s3_cons (s3_set 2 sc_shifts_by.nd (p3_call (ok_corners_of T) (hr.mono (by decide)) (a3_cons (p3_tup (a3_cons p3_int (a3_cons p3_int a3_nil))) (a3_cons (p3_var 0) a3_nil))))
   (s3_cons (s3_set 3 sc_shifts_by.nd (p3_op op3_fdivW (p3_callB cb3_len rfl T.m_len (by rfl) (a3_cons (p3_var 0) a3_nil)) p3_int))
   (s3_cons (s3_set 4 sc_shifts_by.nd (p3_lst a3_nil))
   (s3_cons (s3_for PassesOwn.never rfl (i3_list (p3_call (ok_spans_of T) (hr.mono (by decide)) (a3_cons (p3_var 0) (a3_cons (p3_var 1) a3_nil)))) (g3_name 5 sc_shifts_by.nd) (s3_cons (s3_set 6 sc_shifts_by.nd (p3_op op3_mod (p3_op op3_add (p3_ix ix3 (p3_var 5) p3_int) (p3_var 3)) (p3_callB cb3_len rfl T.m_len (by rfl) (a3_cons (p3_var 0) a3_nil))))
   (s3_one (s3_expr (p3_bm PySem.F.slot_list_append PySem.F.type_list_append mt3_app (p3_var 4) (a3_cons (p3_call (ok_taken T) (hr.mono (by decide)) (a3_cons (p3_ix ix3 (p3_var 2) (p3_ix ix3 (p3_var 5) p3_int)) (a3_cons (p3_ix ix3 (p3_var 2) (p3_var 6)) a3_nil))) a3_nil))))))
   (s3_one (s3_ret (p3_var 4)))))))) rd_shifts_by
theorem ok_l_stretches (T:Tx K mg w):Fn P w K mg base 3 "_law_stretches" P_l_stretches sp_l_stretches :=
 fn3i (t:=t_l_stretches) T.f_l_stretches sc_l_stretches len_l_stretches (fun f cdv A outer s H E hr => (s3_cons (s3_set 2 sc_l_stretches.nd (p3_call (ok_l_cell_at T) (hr.mono (by decide)) (a3_cons (p3_var 0) (a3_cons (p3_var 1) a3_nil))))
   (s3_cons (s3_set 3 sc_l_stretches.nd (p3_lst a3_nil))
   (s3_cons (s3_for PassesOwn.never rfl (i3_enum T.m_enumerate (p3_lst (a3_cons p3_str (a3_cons p3_str (a3_cons p3_str a3_nil))))) (g3_pair 4 5 rfl sc_l_stretches.nd) (s3_one (s3_expr (p3_bm PySem.F.slot_list_append PySem.F.type_list_append mt3_app (p3_var 3) (a3_cons (p3_call (ok_l_letters T) (hr.mono (by decide)) (a3_cons (p3_var 0) (a3_cons (p3_op op3_add (p3_op op3_add (p3_var 1) p3_int) (p3_op op3_mulW p3_int (p3_var 4))) (a3_cons (p3_ix ix3 (p3_lst (a3_cons (p3_op op3_mod (p3_var 2) p3_int) (a3_cons (p3_op op3_mod (p3_op op3_fdivW (p3_var 2) p3_int) p3_int) (a3_cons (p3_op op3_mod (p3_op op3_fdivW (p3_var 2) p3_int) p3_int) a3_nil)))) (p3_var 4)) (a3_cons (p3_var 5) a3_nil))))) a3_nil)))))
   (s3_one (s3_ret (p3_comp (fv:=[]) (by show CompOk (defScope s_l_stretches) N_l_stretches _ _ _ _; exact ⟨rfl,by decide +kernel,by decide +kernel,by decide +kernel,rfl,by decide +kernel,by decide +kernel⟩) rfl (i3_list (p3_var 3)) (fun pins cl s1 H1 fp => (ifs3_one (p3_tcmp (op3_ne hr.units) (p3_var 0) p3_str))) (fun pins cl s1 H1 fp => (p3_var 0))))))))) rd_l_stretches
theorem ok_l_area (T:Tx K mg w):Fn P w K mg base 3 "_law_area" P_l_area sp_l_area :=
 fn3i (t:=t_l_area) T.f_l_area sc_l_area len_l_area (fun f cdv A outer s H E hr => (s3_cons (s3_set 1 sc_l_area.nd p3_int)
   (s3_cons (s3_for PassesOwn.never rfl (i3_zip_tl T.m_zip (p3_var 0) (p3_call (ok_l_path T) (hr.mono (by decide)) (a3_cons (p3_tup (a3_cons p3_int (a3_cons p3_int a3_nil))) (a3_cons (p3_var 0) a3_nil)))) (g3_pair 2 3 rfl sc_l_area.nd) (s3_one (s3_set 1 sc_l_area.nd (p3_op op3_add (p3_var 1) (p3_op op3_mulW (p3_ix ix3 (p3_var 3) p3_int) (p3_ix ix3 (p3_call (ok_l_step T) (hr.mono (by decide)) (a3_cons (p3_var 2) a3_nil)) p3_int))))))
   (s3_one (s3_ret (p3_var 1)))))) rd_l_area
theorem ok_l_cells (T:Tx K mg w):Fn P w K mg base 3 "_law_cells" P_l_cells sp_l_cells :=
 fn3i (t:=t_l_cells) T.f_l_cells sc_l_cells len_l_cells (fun f cdv A outer s H E hr => (s3_cons (s3_set 1 sc_l_cells.nd (p3_lst a3_nil))
   (s3_cons (s3_set 2 sc_l_cells.nd (p3_call (ok_l_path T) (hr.mono (by decide)) (a3_cons (p3_tup (a3_cons p3_int (a3_cons p3_int a3_nil))) (a3_cons (p3_var 0) a3_nil))))
   (s3_cons (s3_for PassesOwn.never rfl (i3_enumZ T.m_enumerate (p3_var 0)) (g3_pair 3 4 rfl sc_l_cells.nd) (s3_one (s3_if (p3_tcmp (op3_eq hr.units) (p3_var 4) p3_str) (s3_one (s3_expr (p3_bm PySem.F.slot_list_extend PySem.F.type_list_extend mt3_ext (p3_var 1) (a3_cons (p3_comp (fv:=[(2, "_law_path_here"),(3, "_law_k")]) (by show CompOk (defScope s_l_cells) N_l_cells _ _ _ _; exact ⟨rfl,by decide +kernel,by decide +kernel,by decide +kernel,rfl,by decide +kernel,by decide +kernel⟩) rfl (i3_rng2 T.m_range (p3_un un3_neg p3_int) (p3_ix ix3 (p3_ix ix3 (p3_var 2) (p3_var 3)) p3_int)) (fun pins cl s1 H1 fp => ifs3_nil) (fun pins cl s1 H1 fp => (p3_tup (a3_cons (p3_var 0) (a3_cons (p3_ix ix3 (p3_ix ix3 (p3_var 1) (p3_var 2)) p3_int) a3_nil))))) a3_nil)))) s3_nil)))
   (s3_cons (s3_for PassesOwn.never rfl (i3_enumZ T.m_enumerate (p3_var 0)) (g3_pair 3 4 rfl sc_l_cells.nd) (s3_one (s3_if (p3_tcmp (op3_eq hr.units) (p3_var 4) p3_str) (s3_one (s3_for PassesOwn.never rfl (i3_rng2 T.m_range (p3_un un3_neg p3_int) (p3_ix ix3 (p3_ix ix3 (p3_var 2) (p3_var 3)) p3_int)) (g3_name 5 sc_l_cells.nd) (s3_one (s3_expr (p3_bm PySem.F.slot_list_remove PySem.F.type_list_remove (mt3_rem hr.units) (p3_var 1) (a3_cons (p3_tup (a3_cons (p3_var 5) (a3_cons (p3_op op3_sub (p3_ix ix3 (p3_ix ix3 (p3_var 2) (p3_var 3)) p3_int) p3_int) a3_nil))) a3_nil)))))) s3_nil)))
   (s3_one (s3_ret (p3_var 1)))))))) rd_l_cells
theorem ok_l_shifts (T:Tx K mg w):Fn P w K mg base 3 "_law_shifts" P_l_shifts sp_l_shifts :=
 fn3i (t:=t_l_shifts) T.f_l_shifts sc_l_shifts len_l_shifts (fun f cdv A outer s H E hr => (s3_cons (s3_set 2 sc_l_shifts.nd (p3_op op3_fdivW (p3_callB cb3_len rfl T.m_len (by rfl) (a3_cons (p3_var 0) a3_nil)) p3_int))
   (s3_cons (s3_set 3 sc_l_shifts.nd (p3_call (ok_l_path T) (hr.mono (by decide)) (a3_cons (p3_tup (a3_cons p3_int (a3_cons p3_int a3_nil))) (a3_cons (p3_op op3_add (p3_var 0) (p3_var 0)) a3_nil))))
   (s3_cons (s3_set 4 sc_l_shifts.nd (p3_lst a3_nil))
   (s3_cons (s3_for PassesOwn.never rfl (i3_rng1 T.m_range (p3_callB cb3_len rfl T.m_len (by rfl) (a3_cons (p3_var 1) a3_nil))) (g3_name 5 sc_l_shifts.nd) (s3_cons (s3_set 6 sc_l_shifts.nd (p3_op op3_add (p3_ix ix3 (p3_var 1) p3_int) (p3_var 2)))
   (s3_cons (s3_if (p3_tcmp (op3_lt hr.units0) (p3_var 5) (p3_op op3_sub (p3_callB cb3_len rfl T.m_len (by rfl) (a3_cons (p3_var 1) a3_nil)) p3_int)) (s3_one (s3_set 6 sc_l_shifts.nd (p3_ix ix3 (p3_var 1) (p3_op op3_add (p3_var 5) p3_int)))) s3_nil)
   (s3_cons (s3_set 7 sc_l_shifts.nd (p3_ix ix3 (p3_var 3) (p3_ix ix3 (p3_var 1) (p3_var 5))))
   (s3_cons (s3_set 8 sc_l_shifts.nd (p3_ix ix3 (p3_var 3) (p3_op op3_add (p3_var 6) (p3_var 2))))
   (s3_one (s3_expr (p3_bm PySem.F.slot_list_append PySem.F.type_list_append mt3_app (p3_var 4) (a3_cons (p3_tup (a3_cons (p3_op op3_sub (p3_ix ix3 (p3_var 7) p3_int) (p3_ix ix3 (p3_var 8) p3_int)) (a3_cons (p3_op op3_sub (p3_ix ix3 (p3_var 7) p3_int) (p3_ix ix3 (p3_var 8) p3_int)) a3_nil))) a3_nil)))))))))
   (s3_one (s3_ret (p3_var 4)))))))) rd_l_shifts
theorem ok_grid_by (T:Tx K mg w):Fn P w K mg base 4 "grid_by" P_grid_by sp_grid_by :=
 fn3i (t:=t_grid_by) T.f_grid_by sc_grid_by len_grid_by (fun f cdv A outer s H E hr => (s3_one (s3_ret (p3_call (ok_grid_of T) (hr.mono (by decide)) (a3_cons (p3_call (ok_shifts_by T) (hr.mono (by decide)) (a3_cons (p3_var 0) (a3_cons (p3_var 1) a3_nil))) a3_nil))))) rd_grid_by
theorem law_ok (T:Tx K mg w) {f:Addr} {fd:FuncData} (F:Fun K "law" "law" s_law f fd):FnOk P w K mg base CX0 5 f fd P_law (liftF K sp_law) :=
 fnok3 F sc_law len_law fun cdv A outer s H E hr => ⟨t_law,(s3_cons (s3_set 1 sc_law.nd (p3_call (ok_l_stretches T) (hr.mono (by decide)) (a3_cons (p3_var 0) (a3_cons p3_int a3_nil))))
   (s3_cons (s3_if (p3_tcmp (op3_eq hr.units) (p3_op op3_mod (p3_call (ok_l_cell_at T) (hr.mono (by decide)) (a3_cons (p3_var 0) (a3_cons p3_int a3_nil))) p3_int) p3_int) (s3_one (s3_set 1 sc_law.nd (p3_call (ok_l_free T) (hr.mono (by decide)) (a3_cons (p3_var 0) (a3_cons p3_int a3_nil))))) s3_nil)
   (s3_cons (s3_if (p3_tcmp (op3_lt hr.units0) (p3_callB cb3_len rfl T.m_len (by rfl) (a3_cons (p3_var 1) a3_nil)) p3_int) (s3_one (s3_set 1 sc_law.nd (p3_lst (a3_cons p3_str (a3_cons p3_str a3_nil))))) s3_nil)
   (s3_cons (s3_if (p3_tcmp (op3_lt hr.units0) (p3_call (ok_l_area T) (hr.mono (by decide)) (a3_cons (p3_ix ix3 (p3_call (ok_l_built T) (hr.mono (by decide)) (a3_cons (p3_var 1) (a3_cons p3_int a3_nil))) p3_int) a3_nil)) p3_int) (s3_one (s3_setcomp (fv:=[]) 1 sc_law.nd (by show CompOk (defScope s_law) N_law _ _ _ _; exact ⟨rfl,by decide +kernel,by decide +kernel,by decide +kernel,rfl,by decide +kernel,by decide +kernel⟩) rfl (i3_revL T.m_reversed (p3_var 1)) (fun pins cl s1 H1 fp => ifs3_nil) (fun pins cl s1 H1 fp => (p3_call (ok_l_back T) (hr.mono (by decide)) (a3_cons (p3_var 0) a3_nil))))) s3_nil)
   (s3_cons (s3_asg (p3_call (ok_l_built T) (hr.mono (by decide)) (a3_cons (p3_var 1) (a3_cons (p3_op op3_mod (p3_op op3_fdivW (p3_call (ok_l_cell_at T) (hr.mono (by decide)) (a3_cons (p3_var 0) (a3_cons p3_int a3_nil))) p3_int) p3_int) a3_nil))) (g3_pair 2 3 rfl sc_law.nd))
   (s3_cons (s3_if (p3_tcmp (op3_notInX hr.units) (p3_var 3) (p3_call (ok_partings_of T) (hr.mono (by decide)) (a3_cons (p3_var 2) a3_nil))) (s3_one (s3_ret p3_bl)) s3_nil)
   (s3_cons (s3_set 4 sc_law.nd (p3_call (ok_l_area T) (hr.mono (by decide)) (a3_cons (p3_var 2) a3_nil)))
   (s3_cons (s3_set 5 sc_law.nd (p3_call (ok_l_path T) (hr.mono (by decide)) (a3_cons (p3_tup (a3_cons p3_int (a3_cons p3_int a3_nil))) (a3_cons (p3_var 2) a3_nil))))
   (s3_cons (s3_if (p3_tw (p3_wor (p3_tcmp (op3_ne hr.units) (p3_lenSet rfl hr.units rfl T.m_len rfl T.m_set (by rfl) (by rfl) (a3_cons (p3_var 5) a3_nil)) (p3_callB cb3_len rfl T.m_len (by rfl) (a3_cons (p3_var 2) a3_nil))) (p3_wor (p3_tcmp (op3_lt hr.units0) (p3_var 4) p3_int) (p3_wor1 (p3_tcmp op3_gt (p3_var 4) p3_int))))) (s3_one (s3_ret p3_bl)) s3_nil)
   (s3_cons (s3_set 6 sc_law.nd (p3_call (ok_grid_by T) (hr.mono (by decide)) (a3_cons (p3_var 2) (a3_cons (p3_var 3) a3_nil))))
   (s3_cons (s3_if (p3_tnot (p3_tval (p3_call (ok_l_is_grid T) (hr.mono (by decide)) (a3_cons (p3_var 6) (a3_cons (p3_var 4) a3_nil))))) (s3_one (s3_ret p3_bl)) s3_nil)
   (s3_cons (s3_if (p3_tnot (p3_tval (p3_callB (cb3_all rfl) rfl T.m_all (by rfl) (a3_cons (p3_comp (fv:=[(6, "_law_grid")]) (by show CompOk (defScope s_law) N_law _ _ _ _; exact ⟨rfl,by decide +kernel,by decide +kernel,by decide +kernel,rfl,by decide +kernel,by decide +kernel⟩) rfl (i3_list (p3_call (ok_l_shifts T) (hr.mono (by decide)) (a3_cons (p3_var 2) (a3_cons (p3_var 3) a3_nil)))) (fun pins cl s1 H1 fp => ifs3_nil) (fun pins cl s1 H1 fp => (p3_cmp (op3_eq hr.units) (p3_call (ok_l_rest T) (hr.mono (by decide)) (a3_cons (p3_var 1) (a3_cons (p3_var 0) a3_nil))) (p3_tup (a3_cons p3_int (a3_cons p3_int a3_nil)))))) a3_nil)))) (s3_one (s3_ret p3_bl)) s3_nil)
   (s3_cons (s3_set 7 sc_law.nd (p3_call (ok_l_cells T) (hr.mono (by decide)) (a3_cons (p3_var 2) a3_nil)))
   (s3_one (s3_ret (p3_and (p3_cmp (op3_eq hr.units) (p3_callB cb3_len rfl T.m_len (by rfl) (a3_cons (p3_var 7) a3_nil)) (p3_var 4)) (p3_one (p3_cmp (op3_eq hr.units) (p3_lenSet rfl hr.units rfl T.m_len rfl T.m_set (by rfl) (by rfl) (a3_cons (p3_comp (fv:=[(6, "_law_grid")]) (by show CompOk (defScope s_law) N_law _ _ _ _; exact ⟨rfl,by decide +kernel,by decide +kernel,by decide +kernel,rfl,by decide +kernel,by decide +kernel⟩) rfl (i3_list (p3_var 7)) (fun pins cl s1 H1 fp => ifs3_nil) (fun pins cl s1 H1 fp => (p3_call (ok_l_rest T) (hr.mono (by decide)) (a3_cons (p3_var 1) (a3_cons (p3_var 0) a3_nil))))) a3_nil)) (p3_var 4))))))))))))))))))),rd_law⟩
end
theorem all_mk {l:PySem.W.OpenLaw} {w:World} {K:PySem.W.Frag} {h:Heap} {mg:Str→Option Value} {fa f28:Addr} (X:K.In h) (G:h.Ns mainGlobals mg) (hfa:mg "law" = some (.ref fa))
  {od28 an28:Option Addr} {sl28:Array (Option Value)} {oc28 kV28 dc28 pm28 cd28 ct28:Value}
  (q0:FnIn K mg "added" s_added P_added)
  (q1:FnIn K mg "taken" s_taken P_taken)
  (q2:FnIn K mg "common_measure" s_common_measure P_common_measure)
  (q3:FnIn K mg "levelled" s_levelled P_levelled)
  (q4:FnIn K mg "grid_of" s_grid_of P_grid_of)
  (q5:FnIn K mg "corners_of" s_corners_of P_corners_of)
  (q6:FnIn K mg "backwards" s_backwards P_backwards)
  (q7:FnIn K mg "spans_of" s_spans_of P_spans_of)
  (q8:FnIn K mg "is_parting" s_is_parting P_is_parting)
  (q9:FnIn K mg "cuts_of_two" s_cuts_of_two P_cuts_of_two)
  (q10:FnIn K mg "cuts_of_three" s_cuts_of_three P_cuts_of_three)
  (q11:FnIn K mg "partings_of" s_partings_of P_partings_of)
  (q12:FnIn K mg "shifts_by" s_shifts_by P_shifts_by)
  (q13:FnIn K mg "grid_by" s_grid_by P_grid_by)
  (q14:FnIn K mg "_law_cell_at" s_l_cell_at P_l_cell_at)
  (q15:FnIn K mg "_law_step" s_l_step P_l_step)
  (q16:FnIn K mg "_law_whole" s_l_whole P_l_whole)
  (q17:FnIn K mg "_law_path" s_l_path P_l_path)
  (q18:FnIn K mg "_law_back" s_l_back P_l_back)
  (q19:FnIn K mg "_law_letters" s_l_letters P_l_letters)
  (q20:FnIn K mg "_law_stretches" s_l_stretches P_l_stretches)
  (q21:FnIn K mg "_law_free" s_l_free P_l_free)
  (q22:FnIn K mg "_law_built" s_l_built P_l_built)
  (q23:FnIn K mg "_law_is_grid" s_l_is_grid P_l_is_grid)
  (q24:FnIn K mg "_law_rest" s_l_rest P_l_rest)
  (q25:FnIn K mg "_law_area" s_l_area P_l_area)
  (q26:FnIn K mg "_law_cells" s_l_cells P_l_cells)
  (q27:FnIn K mg "_law_shifts" s_l_shifts P_l_shifts)
  (a28:PySem.W.nsIn K mainGlobals "law" = some (some (.ref f28))) (l28:K.lookup f28 = some ⟨oc28,od28,.func (PySem.W.fnOf "law" "law" (defArgs s_law) (defBody s_law) (defScope s_law) .none kV28 dc28 pm28 an28 cd28 ct28),sl28⟩) (c28:PySem.W.codeIn K cd28 "law" = true) (k28:PySem.W.keepIn K (.ref f28) = true)
  (z0:PySem.W.nsIn K mainGlobals "abs" = some none)
  (z1:PySem.W.nsIn K mainGlobals "all" = some none)
  (z2:PySem.W.nsIn K mainGlobals "bool" = some none)
  (z3:PySem.W.nsIn K mainGlobals "enumerate" = some none)
  (z4:PySem.W.nsIn K mainGlobals "int" = some none)
  (z5:PySem.W.nsIn K mainGlobals "isinstance" = some none)
  (z6:PySem.W.nsIn K mainGlobals "len" = some none)
  (z7:PySem.W.nsIn K mainGlobals "list" = some none)
  (z8:PySem.W.nsIn K mainGlobals "range" = some none)
  (z9:PySem.W.nsIn K mainGlobals "reversed" = some none)
  (z10:PySem.W.nsIn K mainGlobals "set" = some none)
  (z11:PySem.W.nsIn K mainGlobals "sorted" = some none)
  (z12:PySem.W.nsIn K mainGlobals "tuple" = some none)
  (z13:PySem.W.nsIn K mainGlobals "zip" = some none)
  {dA0 dB0_0 dB0_1 dB0_2 dB0_3:Addr} {dT0_0 dX0_0_0 dX0_0_1 dT0_1 dX0_1_0 dX0_1_1 dT0_2 dX0_2_0 dX0_2_1 dT0_3 dX0_3_0 dX0_3_1:Tok} {dE0 dN0_0 dN0_1 dN0_2 dN0_3:Nat}
  (dQ0:PySem.W.nsIn K mainGlobals "STEPS" = some (some (.ref dA0))) (dR0:K.lookup dA0 = some ⟨.type "dict",none,.dict #[⟨PyData.keyHash w.params "e",.str "e" dT0_0,.ref dB0_0⟩,⟨PyData.keyHash w.params "n",.str "n" dT0_1,.ref dB0_1⟩,⟨PyData.keyHash w.params "w",.str "w" dT0_2,.ref dB0_2⟩,⟨PyData.keyHash w.params "s",.str "s" dT0_3,.ref dB0_3⟩] dE0,#[]⟩) (dU0:(dA0 == sysModules) = false)
  (dS0_0:K.lookup dB0_0 = some ⟨.type "tuple",none,.seq #[.int 1 dX0_0_0,.int 0 dX0_0_1] dN0_0,#[]⟩)
  (dS0_1:K.lookup dB0_1 = some ⟨.type "tuple",none,.seq #[.int 0 dX0_1_0,.int 1 dX0_1_1] dN0_1,#[]⟩)
  (dS0_2:K.lookup dB0_2 = some ⟨.type "tuple",none,.seq #[.int (-1) dX0_2_0,.int 0 dX0_2_1] dN0_2,#[]⟩)
  (dS0_3:K.lookup dB0_3 = some ⟨.type "tuple",none,.seq #[.int 0 dX0_3_0,.int (-1) dX0_3_1] dN0_3,#[]⟩)
  {dA1:Addr} {dT1_0 dX1_0 dT1_1 dX1_1 dT1_2 dX1_2 dT1_3 dX1_3:Tok} {dE1:Nat}
  (dQ1:PySem.W.nsIn K mainGlobals "OPPOSITES" = some (some (.ref dA1))) (dR1:K.lookup dA1 = some ⟨.type "dict",none,.dict #[⟨PyData.keyHash w.params "e",.str "e" dT1_0,.str "w" dX1_0⟩,⟨PyData.keyHash w.params "n",.str "n" dT1_1,.str "s" dX1_1⟩,⟨PyData.keyHash w.params "w",.str "w" dT1_2,.str "e" dX1_2⟩,⟨PyData.keyHash w.params "s",.str "s" dT1_3,.str "n" dX1_3⟩] dE1,#[]⟩) (dU1:(dA1 == sysModules) = false)
  : ∃ fd:FuncData,(∀ (s:Shared) (v:Value),BindsTo s fd ⟨[v],[]⟩ [("_law_script",v)])∧∀ base:Heap,K.In base→base.Ns mainGlobals mg→FnOk l.prog w K mg base CX0 5 fa fd ["_law_script"] (liftF K sp_law):=by
 have F28:=fun_mk (st:=s_law) l28 c28 k28
 have T:Tx K mg w:=⟨q0,q1,q2,q3,q4,q5,q6,q7,q8,q9,q10,q11,q12,q13,q14,q15,q16,q17,q18,q19,q20,q21,q22,q23,q24,q25,q26,q27,PySem.W.mg_none_of X G z0,PySem.W.mg_none_of X G z1,PySem.W.mg_none_of X G z2,PySem.W.mg_none_of X G z3,PySem.W.mg_none_of X G z4,PySem.W.mg_none_of X G z5,PySem.W.mg_none_of X G z6,PySem.W.mg_none_of X G z7,PySem.W.mg_none_of X G z8,PySem.W.mg_none_of X G z9,PySem.W.mg_none_of X G z10,PySem.W.mg_none_of X G z11,PySem.W.mg_none_of X G z12,PySem.W.mg_none_of X G z13,⟨_,PySem.W.mg_of X G dQ0,⟨⟨_,_,_,dR0,⟨rfl,rfl,rfl⟩,rfl,.cons (.tupI ⟨_,_,_,dS0_0,rfl,rfl,(by show 2≤sizeLine; decide),.cons ⟨_,rfl⟩ (.cons ⟨_,rfl⟩ (.nil))⟩) (.cons (.tupI ⟨_,_,_,dS0_1,rfl,rfl,(by show 2≤sizeLine; decide),.cons ⟨_,rfl⟩ (.cons ⟨_,rfl⟩ (.nil))⟩) (.cons (.tupI ⟨_,_,_,dS0_2,rfl,rfl,(by show 2≤sizeLine; decide),.cons ⟨_,rfl⟩ (.cons ⟨_,rfl⟩ (.nil))⟩) (.cons (.tupI ⟨_,_,_,dS0_3,rfl,rfl,(by show 2≤sizeLine; decide),.cons ⟨_,rfl⟩ (.cons ⟨_,rfl⟩ (.nil))⟩) (.nil))))⟩,by decide,dU0⟩⟩,⟨_,PySem.W.mg_of X G dQ1,⟨⟨_,_,_,dR1,⟨rfl,rfl,rfl⟩,rfl,.cons (.str _ _) (.cons (.str _ _) (.cons (.str _ _) (.cons (.str _ _) (.nil))))⟩,by decide,dU1⟩⟩⟩
 have e:=hfa.symm.trans (PySem.W.mg_of X G a28)
 cases e
 refine ⟨PySem.W.fnOf "law" "law" (defArgs s_law) (defBody s_law) (defScope s_law) .none kV28 dc28 pm28 an28 cd28 ct28,fun s v => .of_eq rfl,fun base _ _ => ?_⟩
 exact law_ok T F28
end Law
open PySem PySem.W PyProof.Rows
set_option maxRecDepth 100000 in
set_option maxHeartbeats 0 in
theorem PySem.Challenge.cw_borderfloor_k44_whole_built_partings_holds : PySem.Challenge.rw_borderfloor_k44_whole_built_partings.Holds := by
 w_on; o_law
 refine holds_open (r:=OpenLaw.row PySem.Challenge.rw_borderfloor_k44_whole_built_partings) (q:=Law.vw) (loose:=Law.lo) (Xt:=Law.xT) (XP:=XL Law.vw []) (YP:=(PySem.W.kHook Law.K0 Law.kA Law.kE).says)
  (N:=20100) Law.ld (Hook.of _) (Hook.keeps _) (fun s z => xl_of s (Bool.and_eq_true_iff.mp z).1) XL.keeps (by rfl) (by rfl) (by rfl) (fun s z => recFacts_of (Bool.and_eq_true_iff.mp z).2) (by rfl) (by assumption)
  (by decide +kernel) ⟨rfl,rfl,rfl,rfl,rfl,by decide +kernel⟩ ?hw ?hc
 case hw => w_witness2
 k_fill
 refine L2.walk_ofK (l:=PySem.Challenge.rw_borderfloor_k44_whole_built_partings) (n:=63) (k:=5) (x := "_law_script") (CX:=L2.CX0) (sp:=fun K => L3.liftF K Law.sp_law) rfl (by decide) rfl ⟨rfl,by decide,by decide⟩ (fun w h Y => PySem.W.kIn_of Y) ?F ?S (fun _ _ _ _ z => z)
 case F =>
  intro w mg fa h KX G hmg
  refine' Law.all_mk KX G hmg (L3.fn_in KX G ?a0 ?l0 ?c0 ?k0 Law.bd_added) (L3.fn_in KX G ?a1 ?l1 ?c1 ?k1 Law.bd_taken) (L3.fn_in KX G ?a2 ?l2 ?c2 ?k2 Law.bd_common_measure) (L3.fn_in KX G ?a3 ?l3 ?c3 ?k3 Law.bd_levelled) (L3.fn_in KX G ?a4 ?l4 ?c4 ?k4 Law.bd_grid_of) (L3.fn_in KX G ?a5 ?l5 ?c5 ?k5 Law.bd_corners_of) (L3.fn_in KX G ?a6 ?l6 ?c6 ?k6 Law.bd_backwards) (L3.fn_in KX G ?a7 ?l7 ?c7 ?k7 Law.bd_spans_of) (L3.fn_in KX G ?a8 ?l8 ?c8 ?k8 Law.bd_is_parting) (L3.fn_in KX G ?a9 ?l9 ?c9 ?k9 Law.bd_cuts_of_two) (L3.fn_in KX G ?a10 ?l10 ?c10 ?k10 Law.bd_cuts_of_three) (L3.fn_in KX G ?a11 ?l11 ?c11 ?k11 Law.bd_partings_of) (L3.fn_in KX G ?a12 ?l12 ?c12 ?k12 Law.bd_shifts_by) (L3.fn_in KX G ?a13 ?l13 ?c13 ?k13 Law.bd_grid_by) (L3.fn_in KX G ?a14 ?l14 ?c14 ?k14 Law.bd_l_cell_at) (L3.fn_in KX G ?a15 ?l15 ?c15 ?k15 Law.bd_l_step) (L3.fn_in KX G ?a16 ?l16 ?c16 ?k16 Law.bd_l_whole) (L3.fn_in KX G ?a17 ?l17 ?c17 ?k17 Law.bd_l_path) (L3.fn_in KX G ?a18 ?l18 ?c18 ?k18 Law.bd_l_back) (L3.fn_in KX G ?a19 ?l19 ?c19 ?k19 Law.bd_l_letters) (L3.fn_in KX G ?a20 ?l20 ?c20 ?k20 Law.bd_l_stretches) (L3.fn_in KX G ?a21 ?l21 ?c21 ?k21 Law.bd_l_free) (L3.fn_in KX G ?a22 ?l22 ?c22 ?k22 Law.bd_l_built) (L3.fn_in KX G ?a23 ?l23 ?c23 ?k23 Law.bd_l_is_grid) (L3.fn_in KX G ?a24 ?l24 ?c24 ?k24 Law.bd_l_rest) (L3.fn_in KX G ?a25 ?l25 ?c25 ?k25 Law.bd_l_area) (L3.fn_in KX G ?a26 ?l26 ?c26 ?k26 Law.bd_l_cells) (L3.fn_in KX G ?a27 ?l27 ?c27 ?k27 Law.bd_l_shifts) ?a28 ?l28 ?c28 ?k28 ?z0 ?z1 ?z2 ?z3 ?z4 ?z5 ?z6 ?z7 ?z8 ?z9 ?z10 ?z11 ?z12 ?z13 ?dQ0 ?dR0 ?dU0 ?dS0_0 ?dS0_1 ?dS0_2 ?dS0_3 ?dQ1 ?dR1 ?dU1
  (case a0 => k_is)
  (case l0 => k_is)
  (case c0 => k_is)
  (case k0 => k_is)
  (case a1 => k_is)
  (case l1 => k_is)
  (case c1 => k_is)
  (case k1 => k_is)
  (case a2 => k_is)
  (case l2 => k_is)
  (case c2 => k_is)
  (case k2 => k_is)
  (case a3 => k_is)
  (case l3 => k_is)
  (case c3 => k_is)
  (case k3 => k_is)
  (case a4 => k_is)
  (case l4 => k_is)
  (case c4 => k_is)
  (case k4 => k_is)
  (case a5 => k_is)
  (case l5 => k_is)
  (case c5 => k_is)
  (case k5 => k_is)
  (case a6 => k_is)
  (case l6 => k_is)
  (case c6 => k_is)
  (case k6 => k_is)
  (case a7 => k_is)
  (case l7 => k_is)
  (case c7 => k_is)
  (case k7 => k_is)
  (case a8 => k_is)
  (case l8 => k_is)
  (case c8 => k_is)
  (case k8 => k_is)
  (case a9 => k_is)
  (case l9 => k_is)
  (case c9 => k_is)
  (case k9 => k_is)
  (case a10 => k_is)
  (case l10 => k_is)
  (case c10 => k_is)
  (case k10 => k_is)
  (case a11 => k_is)
  (case l11 => k_is)
  (case c11 => k_is)
  (case k11 => k_is)
  (case a12 => k_is)
  (case l12 => k_is)
  (case c12 => k_is)
  (case k12 => k_is)
  (case a13 => k_is)
  (case l13 => k_is)
  (case c13 => k_is)
  (case k13 => k_is)
  (case a14 => k_is)
  (case l14 => k_is)
  (case c14 => k_is)
  (case k14 => k_is)
  (case a15 => k_is)
  (case l15 => k_is)
  (case c15 => k_is)
  (case k15 => k_is)
  (case a16 => k_is)
  (case l16 => k_is)
  (case c16 => k_is)
  (case k16 => k_is)
  (case a17 => k_is)
  (case l17 => k_is)
  (case c17 => k_is)
  (case k17 => k_is)
  (case a18 => k_is)
  (case l18 => k_is)
  (case c18 => k_is)
  (case k18 => k_is)
  (case a19 => k_is)
  (case l19 => k_is)
  (case c19 => k_is)
  (case k19 => k_is)
  (case a20 => k_is)
  (case l20 => k_is)
  (case c20 => k_is)
  (case k20 => k_is)
  (case a21 => k_is)
  (case l21 => k_is)
  (case c21 => k_is)
  (case k21 => k_is)
  (case a22 => k_is)
  (case l22 => k_is)
  (case c22 => k_is)
  (case k22 => k_is)
  (case a23 => k_is)
  (case l23 => k_is)
  (case c23 => k_is)
  (case k23 => k_is)
  (case a24 => k_is)
  (case l24 => k_is)
  (case c24 => k_is)
  (case k24 => k_is)
  (case a25 => k_is)
  (case l25 => k_is)
  (case c25 => k_is)
  (case k25 => k_is)
  (case a26 => k_is)
  (case l26 => k_is)
  (case c26 => k_is)
  (case k26 => k_is)
  (case a27 => k_is)
  (case l27 => k_is)
  (case c27 => k_is)
  (case k27 => k_is)
  (case a28 => k_is)
  (case l28 => k_is)
  (case c28 => k_is)
  (case k28 => k_is)
  (case z0 => k_is)
  (case z1 => k_is)
  (case z2 => k_is)
  (case z3 => k_is)
  (case z4 => k_is)
  (case z5 => k_is)
  (case z6 => k_is)
  (case z7 => k_is)
  (case z8 => k_is)
  (case z9 => k_is)
  (case z10 => k_is)
  (case z11 => k_is)
  (case z12 => k_is)
  (case z13 => k_is)
  (case dQ0 => k_is)
  (case dR0 => k_is)
  (case dU0 => rfl)
  (case dS0_0 => k_is)
  (case dS0_1 => k_is)
  (case dS0_2 => k_is)
  (case dS0_3 => k_is)
  (case dQ1 => k_is)
  (case dR1 => k_is)
  (case dU1 => rfl)
 case S => exact fun K H a ns hl hO hS => L3.start_law hO hS (Law.begin_law hl)
end
