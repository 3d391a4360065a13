import PyProof.Rows.All
import Wide.All
import OpenK.AllK
import Wide.FinOn
import Lean
import PyProof.EqAt
import PyProof.EqKinds
import PyProof.TupleCall
import PySem.Challenge.RW_borderfloor_k08_no_drawing
set_option bootstrap.genMatcherCode false
set_option compiler.extract_closed false
set_option Elab.async false
set_option linter.all false
set_option maxRecDepth 100000
namespace L2
open PySem PySem.Spec PyProof.Rows
noncomputable def inClass (s:Stmt) (j:Nat):Stmt:=match s with
 | .ClassDef _ _ _ body _ _ _ _ _ _ _ => body.getD j (.Pass ⟨0,0,0,0⟩)
 | _ => .Pass ⟨0,0,0,0⟩
noncomputable def defArgs (s:Stmt):Arguments:=match s with
 | .FunctionDef _ a _ _ _ _ _ _ _ _ => a
 | _ => { posonlyargs:=[],args:=[],vararg:=none,kwonlyargs:=[],kw_defaults:=[],kwarg:=none,defaults:=[] }
noncomputable def defBody (s:Stmt):List Stmt:=match s with
 | .FunctionDef _ _ b _ _ _ _ _ _ _ => b
 | _ => []
noncomputable def defScope (s:Stmt):Scope:=match s with
 | .FunctionDef _ _ _ _ _ _ sc _ _ _ => sc
 | _ => { kind:=.function,names:=[],isGenerator:=false,isCoroutine:=false }
end L2
namespace L3
open PySem PySem.W PySem.Spec PyProof.Rows
noncomputable abbrev tbF:=@PySem.W.Fast.tw14364793385576792824
theorem tbF_eq:treeTable = tbF:=PySem.W.Fast.te14364793385576792824
noncomputable abbrev goF:=@PySem.W.Fast.tw15667345088766844465
theorem goF_eq:@topGo = @goF:=PySem.W.Fast.te15667345088766844465
noncomputable abbrev sgF:=@PySem.W.Fast.tw14374325043358763698
theorem sgF_eq:@segRun = @sgF:=PySem.W.Fast.te14374325043358763698
noncomputable abbrev stF:=@PySem.W.Fast.tw10110043849684766642
theorem stF_eq:@segRunT = @stF:=PySem.W.Fast.te10110043849684766642
noncomputable abbrev trF:=@PySem.W.Fast.tw14082659384304107361
theorem trF_eq:@topRun = @trF:=PySem.W.Fast.te14082659384304107361
noncomputable abbrev dnF:=@PySem.W.Fast.tw11892475500146522536
theorem dnF_eq:@denote = @dnF:=PySem.W.Fast.te11892475500146522536
noncomputable abbrev imF:=@PySem.W.Fast.tw5923862056798008813
theorem imF_eq:@importedModules = @imF:=PySem.W.Fast.te5923862056798008813
noncomputable abbrev osF:=@PySem.W.Fast.tw4187177175401517315
theorem osF_eq:@openSeen = @osF:=PySem.W.Fast.te4187177175401517315
noncomputable def endT (d:SharedT):Option (Flow×SharedT×Code×Pos)→SharedT
 | some (_,s,_,_) => s
 | none => d
noncomputable def endP (d:Shared):Option (Shared×Thread)→Shared
 | some (s,_) => s
 | none => d
noncomputable def endS (d:Shared):Option Shared→Shared
 | some s => s
 | none => d
noncomputable def S0 (w:World) (os:OsState):Shared:=⟨boot_heap w.params,Array.mk [],boot_drawn,boot_toks,os⟩
theorem left_go {p q:Program} {loose:List Str} {Xt:Shared→Bool} {α:Type} {Yf:Shared→α} {Ya:World→α} {N:Nat} {g0:Bool} {ev:Env} {p0 p1 qf:Pos} {p2:World→OsState→Pos} {m a b n k:Nat} {ann:Option Value}
  {Sa F:World→OsState→Shared} {Sb G:World→OsState→SharedT}
  (h1:opening p = plainProg p.main.scope.names) (h2:Nat.ble 600 N = true) (h3:∀ s,fenceModules? p s = some s)
  (sz:∀ w:World,((boot_heap w.params).isNs mainGlobals && (Array.mk []:Array GenState).size == 0) = true∧(boot_heap w.params).objs.size = m∧(boot_heap w.params).nsMap mainGlobals "__annotations__" = ann)
  (pre:∀ w os,goF tbF p w m ann a (S0 w os) (topStub p) = some (Sa w os,⟨dnF tbF (.body (behindTheImports p) ev),.body (behindTheImports p) ev,p0,[topFrame qf]⟩))
  (blk:∀ w os,sgF tbF p w m ann 1 b (Sa w os) (blockOf (behindTheImports p) ev (.body (behindTheImports p) ev) p0 [topFrame qf]) = some (.next,(Sb w os).abs,.body (behindTheImports p) ev,p1))
  (seg:∀ w os,stF tbF p w m ann 1 n (Sb w os) (piecesOf (behindTheImports p) ev (.body (behindTheImports p) ev) p1 [topFrame qf]) = some (.next,G w os,.body (behindTheImports p) ev,p2 w os))
  (fin:∀ w os,trF tbF p w m ann k (G w os).abs ⟨doneF .next,.body (behindTheImports p) ev,p2 w os,[topFrame qf]⟩ = some (F w os))
  (le:Nat.ble (a + (b + (n + k))) N = true)
  (looks:∀ w os,((staticsOk (imF p.main.body) (boot_heap w.params) (F w os).heap && namesBound p (F w os).heap && gensDone (F w os) && laidKept (boot_heap w.params) (F w os).heap),osF q loose (imF p.main.body) Xt g0 (F w os),Yf (F w os)) = (true,openGood q loose,Ya w)) :
  LeftO p q loose Xt Yf Ya N g0:=by
 intro w
 obtain ⟨⟨hp,gs,dr,tk,os⟩,e,e'⟩:=Option.map_eq_some_iff.mp (boot_open h1 h2 h3 w)
 obtain ⟨rfl,e'⟩:=Prod.mk.inj e'
 obtain ⟨rfl,e'⟩:=Prod.mk.inj e'
 obtain ⟨rfl,rfl⟩:=Prod.mk.inj e'
 obtain ⟨z1,z2,z3⟩:=sz w
 have l:=looks w os
 rw [← imF_eq,← osF_eq] at l
 obtain ⟨l1,l⟩:=Prod.mk.inj l
 obtain ⟨l2,l3⟩:=Prod.mk.inj l
 have r1:=pre w os
 rw [← goF_eq,← dnF_eq,← tbF_eq] at r1
 have r2:=blk w os
 rw [← sgF_eq,← tbF_eq] at r2
 have r3:=seg w os
 rw [← stF_eq,← tbF_eq] at r3
 have r4:=fin w os
 rw [← trF_eq,← tbF_eq] at r4
 have r5:=piece_app (rest:=[]) (segRun_of r3) (piece_nil r4)
 rw [List.append_nil] at r5
 have r:=topRun_mono (N - (a + (b + (n + k)))) _ _ _ _ (go_top r1 (piece_block r2 r5))
 rw [Nat.add_sub_cancel' (Nat.le_of_ble_eq_true le)] at r
 have t:topFrom treeTable p w N (S0 w os) = some (F w os):=by
  unfold topFrom
  show (match _ with | true => _ | false => _) = _
  dsimp only [S0]
  rw [z1,z2,z3]
  dsimp only
  rw [show topRun treeTable p w m ann N ⟨boot_heap w.params,Array.mk [],boot_drawn,boot_toks,os⟩ (topStub p) = some (F w os) from r]
  show (match _ with | true => _ | false => _) = _
  rw [l1]
 unfold openEnds
 rw [e]
 show (topFrom treeTable p w N (S0 w os)).map _ = _
 rw [t]
 exact congrArg some (Prod.ext l2 l3)
theorem boot_size (w:World):((boot_heap w.params).isNs mainGlobals && (Array.mk []:Array GenState).size == 0) = true∧(boot_heap w.params).objs.size = 11∧(boot_heap w.params).nsMap mainGlobals "__annotations__" = some (.ref 6) :=
 ⟨by kernel_rfl,by kernel_rfl,by kernel_rfl⟩
noncomputable def b_43:Obj:={ cls:=.type "tuple",data:=.seq #[] }
noncomputable def b_44:Obj:={ cls:=.none,data:=.fields #[] }
noncomputable def b_45:Obj:={ cls:=.type "code",data:=.fields #[.str "<module>" 182,.str "<module>" 183,.str "/claim/cut.py" 184,.int 1 0,.int 0 0,.int 0 0,.int 0 0,.int 0 0,.ref 11,.bool false,.int 181 0,.ref 12,.none,.none,.none,.none,.int 185 0,.int 1 0,.str "/claim/cut.py" 186] }
noncomputable def b_46:Obj:={ cls:=.type "frame",slots:=#[some (.ref 13),some (.ref 3),some (.ref 3),none,some (.str "__main__" 164),none,some (.ref 0)] }
noncomputable def Sb (w:World) (os:OsState):SharedT :=
 ⟨.node (boot_o_0 w.params) (.node (boot_o_1 w.params) (.node (boot_o_3 w.params) (.node (boot_o_7 w.params) .nil .nil) (.node b_43 .nil .nil)) (.node (boot_o_5 w.params) (.node (boot_o_9 w.params) .nil .nil) (.node b_45 .nil .nil)))
  (.node (boot_o_2 w.params) (.node (boot_o_4 w.params) (.node (boot_o_8 w.params) .nil .nil) (.node b_44 .nil .nil)) (.node (boot_o_6 w.params) (.node (boot_o_10 w.params) .nil .nil) (.node b_46 .nil .nil))),15,{},Array.mk [],⟨0,0,0,0⟩,187,os⟩
noncomputable def evM (p:Program):Env:={ scope:=p.main.scope,locals:=mainNs,globals:=mainNs,cells:=[],code:=.ref 13,frame:=some 14 }
noncomputable def sA (p:Program) (w:World) (os:OsState):Shared:=endP (S0 w os) (goF tbF p w 11 (some (.ref 6)) 12 (S0 w os) (topStub p))
noncomputable def sR (p:Program) (w:World) (os:OsState):Option (Flow×SharedT×Code×Pos):=stF tbF p w 11 (some (.ref 6)) 1 20000 (Sb w os) (piecesOf (behindTheImports p) (evM p) (.body (behindTheImports p) (evM p)) ⟨0,0,0,0⟩ [topFrame ⟨0,0,0,0⟩])
noncomputable def endQ:Option (Flow×SharedT×Code×Pos)→Pos
 | some (_,_,_,q) => q
 | none => ⟨0,0,0,0⟩
noncomputable def sE (p:Program) (w:World) (os:OsState):Option Shared:=trF tbF p w 11 (some (.ref 6)) 2 (endT (Sb w os) (sR p w os)).abs ⟨doneF .next,.body (behindTheImports p) (evM p),endQ (sR p w os),[topFrame ⟨0,0,0,0⟩]⟩
noncomputable def sF (p:Program) (w:World) (os:OsState):Shared:=endS (S0 w os) (sE p w os)
theorem left_all {p q:Program} {loose:List Str} {Xt:Shared→Bool} {α:Type} {Yf:Shared→α} {Ya:World→α} {g0:Bool}
  (h1:opening p = plainProg p.main.scope.names) (h3:∀ s,fenceModules? p s = some s)
  (pre:∀ w os,goF tbF p w 11 (some (.ref 6)) 12 (S0 w os) (topStub p) = some (sA p w os,⟨dnF tbF (.body (behindTheImports p) (evM p)),.body (behindTheImports p) (evM p),⟨0,0,0,0⟩,[topFrame ⟨0,0,0,0⟩]⟩))
  (blk:∀ w os,sgF tbF p w 11 (some (.ref 6)) 1 1 (sA p w os) (blockOf (behindTheImports p) (evM p) (.body (behindTheImports p) (evM p)) ⟨0,0,0,0⟩ [topFrame ⟨0,0,0,0⟩]) = some (.next,(Sb w os).abs,.body (behindTheImports p) (evM p),⟨0,0,0,0⟩))
  (seg:∀ w os,sR p w os = some (.next,endT (Sb w os) (sR p w os),.body (behindTheImports p) (evM p),endQ (sR p w os)))
  (fin:∀ w os,sE p w os = some (sF p w os))
  (looks:∀ w os,((staticsOk (imF p.main.body) (boot_heap w.params) (sF p w os).heap && namesBound p (sF p w os).heap && gensDone (sF p w os) && laidKept (boot_heap w.params) (sF p w os).heap),osF q loose (imF p.main.body) Xt g0 (sF p w os),Yf (sF p w os)) = (true,openGood q loose,Ya w)) :
  LeftO p q loose Xt Yf Ya 20100 g0 :=
 left_go (n:=20000) (k:=2) (Sa:=sA p) (Sb:=Sb) (G:=fun w os => endT (Sb w os) (sR p w os)) (F:=sF p) (p2:=fun w os => endQ (sR p w os)) h1 (by decide) h3 boot_size pre blk seg fin (by decide) looks
noncomputable abbrev PreP (p:Program) (w:World) (os:OsState):Prop:=goF tbF p w 11 (some (.ref 6)) 12 (S0 w os) (topStub p) = some (sA p w os,⟨dnF tbF (.body (behindTheImports p) (evM p)),.body (behindTheImports p) (evM p),⟨0,0,0,0⟩,[topFrame ⟨0,0,0,0⟩]⟩)
noncomputable abbrev BlkP (p:Program) (w:World) (os:OsState):Prop:=sgF tbF p w 11 (some (.ref 6)) 1 1 (sA p w os) (blockOf (behindTheImports p) (evM p) (.body (behindTheImports p) (evM p)) ⟨0,0,0,0⟩ [topFrame ⟨0,0,0,0⟩]) = some (.next,(Sb w os).abs,.body (behindTheImports p) (evM p),⟨0,0,0,0⟩)
noncomputable abbrev SegP (p:Program) (w:World) (os:OsState):Prop:=sR p w os = some (.next,endT (Sb w os) (sR p w os),.body (behindTheImports p) (evM p),endQ (sR p w os))
noncomputable abbrev FinP (p:Program) (w:World) (os:OsState):Prop:=sE p w os = some (sF p w os)
noncomputable abbrev LkA (p:Program) (w:World) (os:OsState):Prop:=(staticsOk (imF p.main.body) (boot_heap w.params) (sF p w os).heap && namesBound p (sF p w os).heap && gensDone (sF p w os) && laidKept (boot_heap w.params) (sF p w os).heap) = true
noncomputable abbrev LkB (p q:Program) (loose:List Str) (Xt:Shared→Bool) (g0:Bool) (w:World) (os:OsState):Prop:=osF q loose (imF p.main.body) Xt g0 (sF p w os) = openGood q loose
noncomputable abbrev LkC (p:Program) {α:Type} (Yf:Shared→α) (Ya:World→α) (w:World) (os:OsState):Prop:=Yf (sF p w os) = Ya w
theorem left_parts {p q:Program} {loose:List Str} {Xt:Shared→Bool} {α:Type} {Yf:Shared→α} {Ya:World→α} {g0:Bool} (h1:opening p = plainProg p.main.scope.names) (h3:∀ s,fenceModules? p s = some s)
  (pre:∀ w os,PreP p w os) (blk:∀ w os,BlkP p w os) (seg:∀ w os,SegP p w os) (fin:∀ w os,FinP p w os) (a:∀ w os,LkA p w os) (b:∀ w os,LkB p q loose Xt g0 w os) (c:∀ w os,LkC p Yf Ya w os):LeftO p q loose Xt Yf Ya 20100 g0 :=
 left_all h1 h3 pre blk seg fin fun w os => Prod.ext (a w os) (Prod.ext (b w os) (c w os))
end L3
namespace Law
open PySem PySem.Spec PyProof.Rows L2 L3
noncomputable def top (i:Nat):Stmt:=PySem.Challenge.pw_borderfloor_k08_no_drawing.main.body.getD i (.Pass ⟨0,0,0,0⟩)
noncomputable abbrev en (P:Params) (k:Str) (t:Tok) (v:Value):DictEntry:=⟨PyData.keyHash P k,.str k t,v⟩
open PySem.W in
noncomputable def K0 (P:Params):Frag:=(nat_lit 2,⟨.none,none,.dict #[] 0,#[]⟩) ::
 (nat_lit 3,⟨.type "dict",none,.dict #[en P "__name__" 165 (.str "law_borderfloor_k08_no_drawing" 601),en P "__doc__" 166 .none,en P "__package__" 167 .none,en P "__loader__" 168 (.builtin "__main__.__loader__#opaque"),en P "__spec__" 169 .none,en P "__annotations__" 170 (.ref 6),en P "__builtins__" 171 (.ref 4),en P "__file__" 173 (.str "/claim/cut.py" 172),en P "__cached__" 174 .none,en P "FloorError" 206 (.ref 24),en P "NoPiece" 222 (.ref 37),en P "TooMany" 238 (.ref 49),en P "NoDrawing" 254 (.ref 61),en P "Backward" 270 (.ref 73),en P "NoGrid" 286 (.ref 85),en P "NotAsMany" 302 (.ref 97),en P "NoFloor" 318 (.ref 109),en P "NoLine" 334 (.ref 121),en P "Nothing" 350 (.ref 133),en P "Apart" 375 (.ref 152),en P "Hole" 400 (.ref 171),en P "NoWord" 425 (.ref 190),en P "Crossed" 450 (.ref 209),en P "Open" 475 (.ref 228),en P "rank_of" 484 (.ref 237),en P "in_order" 491 (.ref 244),en P "around" 500 (.ref 251),en P "added" 508 (.ref 258),en P "MOST_CELLS" 512 (.int 10 511),en P "unlike_in_order" 521 (.ref 265),en P "reached_within" 527 (.ref 270),en P "first_cut_off" 536 (.ref 277),en P "empty_in_box" 542 (.ref 282),en P "piece_of" 552 (.ref 289),en P "moved" 558 (.ref 294),en P "settled" 564 (.ref 299),en P "CROSS" 568 (.str "#" 567),en P "POINT" 570 (.str "." 569),en P "PARTER" 572 (.str "/" 571),en P "rows_of" 581 (.ref 306),en P "cells_in" 593 (.ref 313),en P "read_drawing" 600 (.ref 320),en P "_law_cell_at" 610 (.ref 327),en P "_law_mix" 618 (.ref 334),en P "_law_whole" 625 (.ref 341),en P "_law_is_pair" 632 (.ref 348),en P "_law_is_piece" 641 (.ref 355),en P "_law_sorted" 651 (.ref 362),en P "_law_beside" 658 (.ref 369),en P "_law_reached" 670 (.ref 376),en P "_law_empties" 676 (.ref 381),en P "_law_kinds" 682 (.ref 386),en P "_law_rows" 694 (.ref 393),en P "_law_spoilt" 707 (.ref 400),en P "_law_cells" 718 (.ref 407),en P "_law_due" 724 (.ref 412),en P "law" 737 (.ref 419)] 57,#[]⟩) ::
 (nat_lit 15,⟨.type "tuple",none,.seq #[.type "ValueError"] 0,#[]⟩) ::
 (nat_lit 22,⟨.type "tuple",none,.seq #[] 0,#[]⟩) ::
 (nat_lit 23,⟨.type "dict",none,.dict #[en P "__module__" 196 (.str "borderfloor.errors" 187),en P "__firstlineno__" 200 (.int 2 199),en P "__static_attributes__" 201 (.ref 22),en P "__weakref__" 203 (.ref 25),en P "__doc__" 204 .none] 3,#[]⟩) ::
 (nat_lit 24,⟨.type "type",none,.cls ⟨"FloorError",[.type "ValueError"],[.ref 24,.type "ValueError",.type "Exception",.type "BaseException",.type "object"],23, "FloorError",true,[],[.ref 37,.ref 49,.ref 61,.ref 73,.ref 85,.ref 97,.ref 109,.ref 121,.ref 133,.ref 152,.ref 171,.ref 190,.ref 209,.ref 228],false,none,false⟩,#[some (.ref 15),none,some (.str "FloorError" 189),some (.str "FloorError" 197),some (.builtin "ValueError.__new__"),some (.bool true)]⟩) ::
 (nat_lit 25,⟨.type "getset_descriptor",none,.fields #[.str "__weakref__" 202,.ref 24,.builtin "ExceptionGroup.__weakref__",.none],#[]⟩) ::
 (nat_lit 28,⟨.type "tuple",none,.seq #[.ref 24] 0,#[]⟩) ::
 (nat_lit 35,⟨.type "tuple",none,.seq #[] 0,#[]⟩) ::
 (nat_lit 36,⟨.type "dict",none,.dict #[en P "__module__" 214 (.str "borderfloor.errors" 187),en P "__firstlineno__" 218 (.int 4 217),en P "__static_attributes__" 219 (.ref 35),en P "__doc__" 220 .none] 2,#[]⟩) ::
 (nat_lit 37,⟨.type "type",none,.cls ⟨"NoPiece",[.ref 24],[.ref 37,.ref 24,.type "ValueError",.type "Exception",.type "BaseException",.type "object"],36, "NoPiece",true,[],[],false,none,false⟩,#[some (.ref 28),none,some (.str "NoPiece" 207),some (.str "NoPiece" 215),some (.builtin "ValueError.__new__"),some (.bool true)]⟩) ::
 (nat_lit 40,⟨.type "tuple",none,.seq #[.ref 24] 0,#[]⟩) ::
 (nat_lit 47,⟨.type "tuple",none,.seq #[] 0,#[]⟩) ::
 (nat_lit 48,⟨.type "dict",none,.dict #[en P "__module__" 230 (.str "borderfloor.errors" 187),en P "__firstlineno__" 234 (.int 6 233),en P "__static_attributes__" 235 (.ref 47),en P "__doc__" 236 .none] 2,#[]⟩) ::
 (nat_lit 49,⟨.type "type",none,.cls ⟨"TooMany",[.ref 24],[.ref 49,.ref 24,.type "ValueError",.type "Exception",.type "BaseException",.type "object"],48, "TooMany",true,[],[],false,none,false⟩,#[some (.ref 40),none,some (.str "TooMany" 223),some (.str "TooMany" 231),some (.builtin "ValueError.__new__"),some (.bool true)]⟩) ::
 (nat_lit 52,⟨.type "tuple",none,.seq #[.ref 24] 0,#[]⟩) ::
 (nat_lit 59,⟨.type "tuple",none,.seq #[] 0,#[]⟩) ::
 (nat_lit 60,⟨.type "dict",none,.dict #[en P "__module__" 246 (.str "borderfloor.errors" 187),en P "__firstlineno__" 250 (.int 8 249),en P "__static_attributes__" 251 (.ref 59),en P "__doc__" 252 .none] 2,#[]⟩) ::
 (nat_lit 61,⟨.type "type",none,.cls ⟨"NoDrawing",[.ref 24],[.ref 61,.ref 24,.type "ValueError",.type "Exception",.type "BaseException",.type "object"],60, "NoDrawing",true,[],[],false,none,false⟩,#[some (.ref 52),none,some (.str "NoDrawing" 239),some (.str "NoDrawing" 247),some (.builtin "ValueError.__new__"),some (.bool true)]⟩) ::
 (nat_lit 64,⟨.type "tuple",none,.seq #[.ref 24] 0,#[]⟩) ::
 (nat_lit 71,⟨.type "tuple",none,.seq #[] 0,#[]⟩) ::
 (nat_lit 72,⟨.type "dict",none,.dict #[en P "__module__" 262 (.str "borderfloor.errors" 187),en P "__firstlineno__" 266 (.int 10 265),en P "__static_attributes__" 267 (.ref 71),en P "__doc__" 268 .none] 2,#[]⟩) ::
 (nat_lit 73,⟨.type "type",none,.cls ⟨"Backward",[.ref 24],[.ref 73,.ref 24,.type "ValueError",.type "Exception",.type "BaseException",.type "object"],72, "Backward",true,[],[],false,none,false⟩,#[some (.ref 64),none,some (.str "Backward" 255),some (.str "Backward" 263),some (.builtin "ValueError.__new__"),some (.bool true)]⟩) ::
 (nat_lit 76,⟨.type "tuple",none,.seq #[.ref 24] 0,#[]⟩) ::
 (nat_lit 83,⟨.type "tuple",none,.seq #[] 0,#[]⟩) ::
 (nat_lit 84,⟨.type "dict",none,.dict #[en P "__module__" 278 (.str "borderfloor.errors" 187),en P "__firstlineno__" 282 (.int 12 281),en P "__static_attributes__" 283 (.ref 83),en P "__doc__" 284 .none] 2,#[]⟩) ::
 (nat_lit 85,⟨.type "type",none,.cls ⟨"NoGrid",[.ref 24],[.ref 85,.ref 24,.type "ValueError",.type "Exception",.type "BaseException",.type "object"],84, "NoGrid",true,[],[],false,none,false⟩,#[some (.ref 76),none,some (.str "NoGrid" 271),some (.str "NoGrid" 279),some (.builtin "ValueError.__new__"),some (.bool true)]⟩) ::
 (nat_lit 88,⟨.type "tuple",none,.seq #[.ref 24] 0,#[]⟩) ::
 (nat_lit 95,⟨.type "tuple",none,.seq #[] 0,#[]⟩) ::
 (nat_lit 96,⟨.type "dict",none,.dict #[en P "__module__" 294 (.str "borderfloor.errors" 187),en P "__firstlineno__" 298 (.int 14 297),en P "__static_attributes__" 299 (.ref 95),en P "__doc__" 300 .none] 2,#[]⟩) ::
 (nat_lit 97,⟨.type "type",none,.cls ⟨"NotAsMany",[.ref 24],[.ref 97,.ref 24,.type "ValueError",.type "Exception",.type "BaseException",.type "object"],96, "NotAsMany",true,[],[],false,none,false⟩,#[some (.ref 88),none,some (.str "NotAsMany" 287),some (.str "NotAsMany" 295),some (.builtin "ValueError.__new__"),some (.bool true)]⟩) ::
 (nat_lit 100,⟨.type "tuple",none,.seq #[.ref 24] 0,#[]⟩) ::
 (nat_lit 107,⟨.type "tuple",none,.seq #[] 0,#[]⟩) ::
 (nat_lit 108,⟨.type "dict",none,.dict #[en P "__module__" 310 (.str "borderfloor.errors" 187),en P "__firstlineno__" 314 (.int 16 313),en P "__static_attributes__" 315 (.ref 107),en P "__doc__" 316 .none] 2,#[]⟩) ::
 (nat_lit 109,⟨.type "type",none,.cls ⟨"NoFloor",[.ref 24],[.ref 109,.ref 24,.type "ValueError",.type "Exception",.type "BaseException",.type "object"],108, "NoFloor",true,[],[],false,none,false⟩,#[some (.ref 100),none,some (.str "NoFloor" 303),some (.str "NoFloor" 311),some (.builtin "ValueError.__new__"),some (.bool true)]⟩) ::
 (nat_lit 112,⟨.type "tuple",none,.seq #[.ref 24] 0,#[]⟩) ::
 (nat_lit 119,⟨.type "tuple",none,.seq #[] 0,#[]⟩) ::
 (nat_lit 120,⟨.type "dict",none,.dict #[en P "__module__" 326 (.str "borderfloor.errors" 187),en P "__firstlineno__" 330 (.int 18 329),en P "__static_attributes__" 331 (.ref 119),en P "__doc__" 332 .none] 2,#[]⟩) ::
 (nat_lit 121,⟨.type "type",none,.cls ⟨"NoLine",[.ref 24],[.ref 121,.ref 24,.type "ValueError",.type "Exception",.type "BaseException",.type "object"],120, "NoLine",true,[],[],false,none,false⟩,#[some (.ref 112),none,some (.str "NoLine" 319),some (.str "NoLine" 327),some (.builtin "ValueError.__new__"),some (.bool true)]⟩) ::
 (nat_lit 124,⟨.type "tuple",none,.seq #[.ref 24] 0,#[]⟩) ::
 (nat_lit 131,⟨.type "tuple",none,.seq #[] 0,#[]⟩) ::
 (nat_lit 132,⟨.type "dict",none,.dict #[en P "__module__" 342 (.str "borderfloor.errors" 187),en P "__firstlineno__" 346 (.int 20 345),en P "__static_attributes__" 347 (.ref 131),en P "__doc__" 348 .none] 2,#[]⟩) ::
 (nat_lit 133,⟨.type "type",none,.cls ⟨"Nothing",[.ref 24],[.ref 133,.ref 24,.type "ValueError",.type "Exception",.type "BaseException",.type "object"],132, "Nothing",true,[],[],false,none,false⟩,#[some (.ref 124),none,some (.str "Nothing" 335),some (.str "Nothing" 343),some (.builtin "ValueError.__new__"),some (.bool true)]⟩) ::
 (nat_lit 136,⟨.type "tuple",none,.seq #[.ref 24] 0,#[]⟩) ::
 (nat_lit 143,⟨.type "tuple",none,.seq #[] 0,#[]⟩) ::
 (nat_lit 145,⟨.type "tuple",none,.seq #[.str "self" 366,.str "cell" 367] 0,#[]⟩) ::
 (nat_lit 146,⟨.type "tuple",none,.seq #[] 0,#[]⟩) ::
 (nat_lit 148,⟨.type "code",none,.fields #[.str "__init__" 363,.str "Apart.__init__" 364,.str "/claim/cut.py" 365,.int 24 0,.int 2 0,.int 0 0,.int 0 0,.int 3 0,.ref 143,.bool true,.int 181 0,.ref 144,.none,.ref 145,.ref 146,.ref 147,.int 368 0,.int 24 0,.str "/claim/cut.py" 369],#[]⟩) ::
 (nat_lit 149,⟨.type "function",none,.func (fnOf "__init__" "Apart.__init__" (defArgs (inClass (top 11) 0)) (defBody (inClass (top 11) 0)) (defScope (inClass (top 11) 0)) .none .none .none (.str "borderfloor.errors" 187) none (.ref 148) .none),#[]⟩) ::
 (nat_lit 150,⟨.type "tuple",none,.seq #[.str "cell" 371] 0,#[]⟩) ::
 (nat_lit 151,⟨.type "dict",none,.dict #[en P "__module__" 358 (.str "borderfloor.errors" 187),en P "__firstlineno__" 362 (.int 22 361),en P "__init__" 370 (.ref 149),en P "__static_attributes__" 372 (.ref 150),en P "__doc__" 373 .none] 2,#[]⟩) ::
 (nat_lit 152,⟨.type "type",none,.cls ⟨"Apart",[.ref 24],[.ref 152,.ref 24,.type "ValueError",.type "Exception",.type "BaseException",.type "object"],151, "Apart",true,[],[],false,none,false⟩,#[some (.ref 136),none,some (.str "Apart" 351),some (.str "Apart" 359),some (.builtin "ValueError.__new__"),some (.bool true)]⟩) ::
 (nat_lit 155,⟨.type "tuple",none,.seq #[.ref 24] 0,#[]⟩) ::
 (nat_lit 162,⟨.type "tuple",none,.seq #[] 0,#[]⟩) ::
 (nat_lit 164,⟨.type "tuple",none,.seq #[.str "self" 391,.str "cell" 392] 0,#[]⟩) ::
 (nat_lit 165,⟨.type "tuple",none,.seq #[] 0,#[]⟩) ::
 (nat_lit 167,⟨.type "code",none,.fields #[.str "__init__" 388,.str "Hole.__init__" 389,.str "/claim/cut.py" 390,.int 29 0,.int 2 0,.int 0 0,.int 0 0,.int 3 0,.ref 162,.bool true,.int 181 0,.ref 163,.none,.ref 164,.ref 165,.ref 166,.int 393 0,.int 29 0,.str "/claim/cut.py" 394],#[]⟩) ::
 (nat_lit 168,⟨.type "function",none,.func (fnOf "__init__" "Hole.__init__" (defArgs (inClass (top 12) 0)) (defBody (inClass (top 12) 0)) (defScope (inClass (top 12) 0)) .none .none .none (.str "borderfloor.errors" 187) none (.ref 167) .none),#[]⟩) ::
 (nat_lit 169,⟨.type "tuple",none,.seq #[.str "cell" 396] 0,#[]⟩) ::
 (nat_lit 170,⟨.type "dict",none,.dict #[en P "__module__" 383 (.str "borderfloor.errors" 187),en P "__firstlineno__" 387 (.int 27 386),en P "__init__" 395 (.ref 168),en P "__static_attributes__" 397 (.ref 169),en P "__doc__" 398 .none] 2,#[]⟩) ::
 (nat_lit 171,⟨.type "type",none,.cls ⟨"Hole",[.ref 24],[.ref 171,.ref 24,.type "ValueError",.type "Exception",.type "BaseException",.type "object"],170, "Hole",true,[],[],false,none,false⟩,#[some (.ref 155),none,some (.str "Hole" 376),some (.str "Hole" 384),some (.builtin "ValueError.__new__"),some (.bool true)]⟩) ::
 (nat_lit 174,⟨.type "tuple",none,.seq #[.ref 24] 0,#[]⟩) ::
 (nat_lit 181,⟨.type "tuple",none,.seq #[] 0,#[]⟩) ::
 (nat_lit 183,⟨.type "tuple",none,.seq #[.str "self" 416,.str "place" 417] 0,#[]⟩) ::
 (nat_lit 184,⟨.type "tuple",none,.seq #[] 0,#[]⟩) ::
 (nat_lit 186,⟨.type "code",none,.fields #[.str "__init__" 413,.str "NoWord.__init__" 414,.str "/claim/cut.py" 415,.int 34 0,.int 2 0,.int 0 0,.int 0 0,.int 3 0,.ref 181,.bool true,.int 181 0,.ref 182,.none,.ref 183,.ref 184,.ref 185,.int 418 0,.int 34 0,.str "/claim/cut.py" 419],#[]⟩) ::
 (nat_lit 187,⟨.type "function",none,.func (fnOf "__init__" "NoWord.__init__" (defArgs (inClass (top 13) 0)) (defBody (inClass (top 13) 0)) (defScope (inClass (top 13) 0)) .none .none .none (.str "borderfloor.errors" 187) none (.ref 186) .none),#[]⟩) ::
 (nat_lit 188,⟨.type "tuple",none,.seq #[.str "place" 421] 0,#[]⟩) ::
 (nat_lit 189,⟨.type "dict",none,.dict #[en P "__module__" 408 (.str "borderfloor.errors" 187),en P "__firstlineno__" 412 (.int 32 411),en P "__init__" 420 (.ref 187),en P "__static_attributes__" 422 (.ref 188),en P "__doc__" 423 .none] 2,#[]⟩) ::
 (nat_lit 190,⟨.type "type",none,.cls ⟨"NoWord",[.ref 24],[.ref 190,.ref 24,.type "ValueError",.type "Exception",.type "BaseException",.type "object"],189, "NoWord",true,[],[],false,none,false⟩,#[some (.ref 174),none,some (.str "NoWord" 401),some (.str "NoWord" 409),some (.builtin "ValueError.__new__"),some (.bool true)]⟩) ::
 (nat_lit 193,⟨.type "tuple",none,.seq #[.ref 24] 0,#[]⟩) ::
 (nat_lit 200,⟨.type "tuple",none,.seq #[] 0,#[]⟩) ::
 (nat_lit 202,⟨.type "tuple",none,.seq #[.str "self" 441,.str "place" 442] 0,#[]⟩) ::
 (nat_lit 203,⟨.type "tuple",none,.seq #[] 0,#[]⟩) ::
 (nat_lit 205,⟨.type "code",none,.fields #[.str "__init__" 438,.str "Crossed.__init__" 439,.str "/claim/cut.py" 440,.int 39 0,.int 2 0,.int 0 0,.int 0 0,.int 3 0,.ref 200,.bool true,.int 181 0,.ref 201,.none,.ref 202,.ref 203,.ref 204,.int 443 0,.int 39 0,.str "/claim/cut.py" 444],#[]⟩) ::
 (nat_lit 206,⟨.type "function",none,.func (fnOf "__init__" "Crossed.__init__" (defArgs (inClass (top 14) 0)) (defBody (inClass (top 14) 0)) (defScope (inClass (top 14) 0)) .none .none .none (.str "borderfloor.errors" 187) none (.ref 205) .none),#[]⟩) ::
 (nat_lit 207,⟨.type "tuple",none,.seq #[.str "place" 446] 0,#[]⟩) ::
 (nat_lit 208,⟨.type "dict",none,.dict #[en P "__module__" 433 (.str "borderfloor.errors" 187),en P "__firstlineno__" 437 (.int 37 436),en P "__init__" 445 (.ref 206),en P "__static_attributes__" 447 (.ref 207),en P "__doc__" 448 .none] 2,#[]⟩) ::
 (nat_lit 209,⟨.type "type",none,.cls ⟨"Crossed",[.ref 24],[.ref 209,.ref 24,.type "ValueError",.type "Exception",.type "BaseException",.type "object"],208, "Crossed",true,[],[],false,none,false⟩,#[some (.ref 193),none,some (.str "Crossed" 426),some (.str "Crossed" 434),some (.builtin "ValueError.__new__"),some (.bool true)]⟩) ::
 (nat_lit 212,⟨.type "tuple",none,.seq #[.ref 24] 0,#[]⟩) ::
 (nat_lit 219,⟨.type "tuple",none,.seq #[] 0,#[]⟩) ::
 (nat_lit 221,⟨.type "tuple",none,.seq #[.str "self" 466,.str "way" 467] 0,#[]⟩) ::
 (nat_lit 222,⟨.type "tuple",none,.seq #[] 0,#[]⟩) ::
 (nat_lit 224,⟨.type "code",none,.fields #[.str "__init__" 463,.str "Open.__init__" 464,.str "/claim/cut.py" 465,.int 44 0,.int 2 0,.int 0 0,.int 0 0,.int 3 0,.ref 219,.bool true,.int 181 0,.ref 220,.none,.ref 221,.ref 222,.ref 223,.int 468 0,.int 44 0,.str "/claim/cut.py" 469],#[]⟩) ::
 (nat_lit 225,⟨.type "function",none,.func (fnOf "__init__" "Open.__init__" (defArgs (inClass (top 15) 0)) (defBody (inClass (top 15) 0)) (defScope (inClass (top 15) 0)) .none .none .none (.str "borderfloor.errors" 187) none (.ref 224) .none),#[]⟩) ::
 (nat_lit 226,⟨.type "tuple",none,.seq #[.str "way" 471] 0,#[]⟩) ::
 (nat_lit 227,⟨.type "dict",none,.dict #[en P "__module__" 458 (.str "borderfloor.errors" 187),en P "__firstlineno__" 462 (.int 42 461),en P "__init__" 470 (.ref 225),en P "__static_attributes__" 472 (.ref 226),en P "__doc__" 473 .none] 2,#[]⟩) ::
 (nat_lit 228,⟨.type "type",none,.cls ⟨"Open",[.ref 24],[.ref 228,.ref 24,.type "ValueError",.type "Exception",.type "BaseException",.type "object"],227, "Open",true,[],[],false,none,false⟩,#[some (.ref 212),none,some (.str "Open" 451),some (.str "Open" 459),some (.builtin "ValueError.__new__"),some (.bool true)]⟩) ::
 (nat_lit 231,⟨.type "tuple",none,.seq #[] 0,#[]⟩) ::
 (nat_lit 233,⟨.type "tuple",none,.seq #[.str "cell" 481] 0,#[]⟩) ::
 (nat_lit 234,⟨.type "tuple",none,.seq #[] 0,#[]⟩) ::
 (nat_lit 236,⟨.type "code",none,.fields #[.str "rank_of" 478,.str "rank_of" 479,.str "/claim/cut.py" 480,.int 48 0,.int 1 0,.int 0 0,.int 0 0,.int 3 0,.ref 231,.bool true,.int 181 0,.ref 232,.none,.ref 233,.ref 234,.ref 235,.int 482 0,.int 48 0,.str "/claim/cut.py" 483],#[]⟩) ::
 (nat_lit 237,⟨.type "function",none,.func (fnOf "rank_of" "rank_of" (defArgs (top 17)) (defBody (top 17)) (defScope (top 17)) .none .none .none (.str "borderfloor.cells" 476) none (.ref 236) .none),#[]⟩) ::
 (nat_lit 238,⟨.type "tuple",none,.seq #[] 0,#[]⟩) ::
 (nat_lit 240,⟨.type "tuple",none,.seq #[.str "some" 488] 0,#[]⟩) ::
 (nat_lit 241,⟨.type "tuple",none,.seq #[] 0,#[]⟩) ::
 (nat_lit 243,⟨.type "code",none,.fields #[.str "in_order" 485,.str "in_order" 486,.str "/claim/cut.py" 487,.int 50 0,.int 1 0,.int 0 0,.int 0 0,.int 3 0,.ref 238,.bool true,.int 181 0,.ref 239,.none,.ref 240,.ref 241,.ref 242,.int 489 0,.int 50 0,.str "/claim/cut.py" 490],#[]⟩) ::
 (nat_lit 244,⟨.type "function",none,.func (fnOf "in_order" "in_order" (defArgs (top 18)) (defBody (top 18)) (defScope (top 18)) .none .none .none (.str "borderfloor.cells" 476) none (.ref 243) .none),#[]⟩) ::
 (nat_lit 245,⟨.type "tuple",none,.seq #[] 0,#[]⟩) ::
 (nat_lit 247,⟨.type "tuple",none,.seq #[.str "cell" 495,.str "x" 496,.str "y" 497] 0,#[]⟩) ::
 (nat_lit 248,⟨.type "tuple",none,.seq #[] 0,#[]⟩) ::
 (nat_lit 250,⟨.type "code",none,.fields #[.str "around" 492,.str "around" 493,.str "/claim/cut.py" 494,.int 52 0,.int 1 0,.int 0 0,.int 0 0,.int 3 0,.ref 245,.bool true,.int 181 0,.ref 246,.none,.ref 247,.ref 248,.ref 249,.int 498 0,.int 52 0,.str "/claim/cut.py" 499],#[]⟩) ::
 (nat_lit 251,⟨.type "function",none,.func (fnOf "around" "around" (defArgs (top 19)) (defBody (top 19)) (defScope (top 19)) .none .none .none (.str "borderfloor.cells" 476) none (.ref 250) .none),#[]⟩) ::
 (nat_lit 252,⟨.type "tuple",none,.seq #[] 0,#[]⟩) ::
 (nat_lit 254,⟨.type "tuple",none,.seq #[.str "one" 504,.str "other" 505] 0,#[]⟩) ::
 (nat_lit 255,⟨.type "tuple",none,.seq #[] 0,#[]⟩) ::
 (nat_lit 257,⟨.type "code",none,.fields #[.str "added" 501,.str "added" 502,.str "/claim/cut.py" 503,.int 56 0,.int 2 0,.int 0 0,.int 0 0,.int 3 0,.ref 252,.bool true,.int 181 0,.ref 253,.none,.ref 254,.ref 255,.ref 256,.int 506 0,.int 56 0,.str "/claim/cut.py" 507],#[]⟩) ::
 (nat_lit 258,⟨.type "function",none,.func (fnOf "added" "added" (defArgs (top 20)) (defBody (top 20)) (defScope (top 20)) .none .none .none (.str "borderfloor.cells" 476) none (.ref 257) .none),#[]⟩) ::
 (nat_lit 259,⟨.type "tuple",none,.seq #[] 0,#[]⟩) ::
 (nat_lit 261,⟨.type "tuple",none,.seq #[.str "some" 516,.str "unlike" 517,.str "cell" 518] 0,#[]⟩) ::
 (nat_lit 262,⟨.type "tuple",none,.seq #[] 0,#[]⟩) ::
 (nat_lit 264,⟨.type "code",none,.fields #[.str "unlike_in_order" 513,.str "unlike_in_order" 514,.str "/claim/cut.py" 515,.int 60 0,.int 1 0,.int 0 0,.int 0 0,.int 3 0,.ref 259,.bool true,.int 181 0,.ref 260,.none,.ref 261,.ref 262,.ref 263,.int 519 0,.int 60 0,.str "/claim/cut.py" 520],#[]⟩) ::
 (nat_lit 265,⟨.type "function",none,.func (fnOf "unlike_in_order" "unlike_in_order" (defArgs (top 23)) (defBody (top 23)) (defScope (top 23)) .none .none .none (.str "borderfloor.pieces" 509) none (.ref 264) .none),#[]⟩) ::
 (nat_lit 266,⟨.type "tuple",none,.seq #[] 0,#[]⟩) ::
 (nat_lit 269,⟨.type "code",none,.fields #[.str "reached_within" 522,.str "reached_within" 523,.str "/claim/cut.py" 524,.int 66 0,.int 2 0,.int 0 0,.int 0 0,.int 3 0,.ref 266,.bool true,.int 181 0,.ref 267,.none,.none,.none,.ref 268,.int 525 0,.int 66 0,.str "/claim/cut.py" 526],#[]⟩) ::
 (nat_lit 270,⟨.type "function",none,.func (fnOf "reached_within" "reached_within" (defArgs (top 24)) (defBody (top 24)) (defScope (top 24)) .none .none .none (.str "borderfloor.pieces" 509) none (.ref 269) .none),#[]⟩) ::
 (nat_lit 271,⟨.type "tuple",none,.seq #[] 0,#[]⟩) ::
 (nat_lit 273,⟨.type "tuple",none,.seq #[.str "some" 531,.str "reached" 532,.str "cell" 533] 0,#[]⟩) ::
 (nat_lit 274,⟨.type "tuple",none,.seq #[] 0,#[]⟩) ::
 (nat_lit 276,⟨.type "code",none,.fields #[.str "first_cut_off" 528,.str "first_cut_off" 529,.str "/claim/cut.py" 530,.int 77 0,.int 1 0,.int 0 0,.int 0 0,.int 3 0,.ref 271,.bool true,.int 181 0,.ref 272,.none,.ref 273,.ref 274,.ref 275,.int 534 0,.int 77 0,.str "/claim/cut.py" 535],#[]⟩) ::
 (nat_lit 277,⟨.type "function",none,.func (fnOf "first_cut_off" "first_cut_off" (defArgs (top 25)) (defBody (top 25)) (defScope (top 25)) .none .none .none (.str "borderfloor.pieces" 509) none (.ref 276) .none),#[]⟩) ::
 (nat_lit 278,⟨.type "tuple",none,.seq #[] 0,#[]⟩) ::
 (nat_lit 281,⟨.type "code",none,.fields #[.str "empty_in_box" 537,.str "empty_in_box" 538,.str "/claim/cut.py" 539,.int 83 0,.int 1 0,.int 0 0,.int 0 0,.int 3 0,.ref 278,.bool true,.int 181 0,.ref 279,.none,.none,.none,.ref 280,.int 540 0,.int 83 0,.str "/claim/cut.py" 541],#[]⟩) ::
 (nat_lit 282,⟨.type "function",none,.func (fnOf "empty_in_box" "empty_in_box" (defArgs (top 26)) (defBody (top 26)) (defScope (top 26)) .none .none .none (.str "borderfloor.pieces" 509) none (.ref 281) .none),#[]⟩) ::
 (nat_lit 283,⟨.type "tuple",none,.seq #[] 0,#[]⟩) ::
 (nat_lit 285,⟨.type "tuple",none,.seq #[.str "some" 546,.str "cells" 547,.str "apart" 548,.str "shut_in" 549] 0,#[]⟩) ::
 (nat_lit 286,⟨.type "tuple",none,.seq #[] 0,#[]⟩) ::
 (nat_lit 288,⟨.type "code",none,.fields #[.str "piece_of" 543,.str "piece_of" 544,.str "/claim/cut.py" 545,.int 92 0,.int 1 0,.int 0 0,.int 0 0,.int 3 0,.ref 283,.bool true,.int 181 0,.ref 284,.none,.ref 285,.ref 286,.ref 287,.int 550 0,.int 92 0,.str "/claim/cut.py" 551],#[]⟩) ::
 (nat_lit 289,⟨.type "function",none,.func (fnOf "piece_of" "piece_of" (defArgs (top 27)) (defBody (top 27)) (defScope (top 27)) .none .none .none (.str "borderfloor.pieces" 509) none (.ref 288) .none),#[]⟩) ::
 (nat_lit 290,⟨.type "tuple",none,.seq #[] 0,#[]⟩) ::
 (nat_lit 293,⟨.type "code",none,.fields #[.str "moved" 553,.str "moved" 554,.str "/claim/cut.py" 555,.int 105 0,.int 2 0,.int 0 0,.int 0 0,.int 3 0,.ref 290,.bool true,.int 181 0,.ref 291,.none,.none,.none,.ref 292,.int 556 0,.int 105 0,.str "/claim/cut.py" 557],#[]⟩) ::
 (nat_lit 294,⟨.type "function",none,.func (fnOf "moved" "moved" (defArgs (top 28)) (defBody (top 28)) (defScope (top 28)) .none .none .none (.str "borderfloor.pieces" 509) none (.ref 293) .none),#[]⟩) ::
 (nat_lit 295,⟨.type "tuple",none,.seq #[] 0,#[]⟩) ::
 (nat_lit 298,⟨.type "code",none,.fields #[.str "settled" 559,.str "settled" 560,.str "/claim/cut.py" 561,.int 107 0,.int 1 0,.int 0 0,.int 0 0,.int 3 0,.ref 295,.bool true,.int 181 0,.ref 296,.none,.none,.none,.ref 297,.int 562 0,.int 107 0,.str "/claim/cut.py" 563],#[]⟩) ::
 (nat_lit 299,⟨.type "function",none,.func (fnOf "settled" "settled" (defArgs (top 29)) (defBody (top 29)) (defScope (top 29)) .none .none .none (.str "borderfloor.pieces" 509) none (.ref 298) .none),#[]⟩) ::
 (nat_lit 300,⟨.type "tuple",none,.seq #[] 0,#[]⟩) ::
 (nat_lit 302,⟨.type "tuple",none,.seq #[.str "text" 576,.str "rows" 577,.str "row" 578] 0,#[]⟩) ::
 (nat_lit 303,⟨.type "tuple",none,.seq #[] 0,#[]⟩) ::
 (nat_lit 305,⟨.type "code",none,.fields #[.str "rows_of" 573,.str "rows_of" 574,.str "/claim/cut.py" 575,.int 115 0,.int 1 0,.int 0 0,.int 0 0,.int 3 0,.ref 300,.bool true,.int 181 0,.ref 301,.none,.ref 302,.ref 303,.ref 304,.int 579 0,.int 115 0,.str "/claim/cut.py" 580],#[]⟩) ::
 (nat_lit 306,⟨.type "function",none,.func (fnOf "rows_of" "rows_of" (defArgs (top 34)) (defBody (top 34)) (defScope (top 34)) .none .none .none (.str "borderfloor.drawings" 565) none (.ref 305) .none),#[]⟩) ::
 (nat_lit 307,⟨.type "tuple",none,.seq #[] 0,#[]⟩) ::
 (nat_lit 309,⟨.type "tuple",none,.seq #[.str "rows" 585,.str "cells" 586,.str "y" 587,.str "row" 588,.str "x" 589,.str "sign" 590] 0,#[]⟩) ::
 (nat_lit 310,⟨.type "tuple",none,.seq #[] 0,#[]⟩) ::
 (nat_lit 312,⟨.type "code",none,.fields #[.str "cells_in" 582,.str "cells_in" 583,.str "/claim/cut.py" 584,.int 125 0,.int 1 0,.int 0 0,.int 0 0,.int 3 0,.ref 307,.bool true,.int 181 0,.ref 308,.none,.ref 309,.ref 310,.ref 311,.int 591 0,.int 125 0,.str "/claim/cut.py" 592],#[]⟩) ::
 (nat_lit 313,⟨.type "function",none,.func (fnOf "cells_in" "cells_in" (defArgs (top 35)) (defBody (top 35)) (defScope (top 35)) .none .none .none (.str "borderfloor.drawings" 565) none (.ref 312) .none),#[]⟩) ::
 (nat_lit 314,⟨.type "tuple",none,.seq #[] 0,#[]⟩) ::
 (nat_lit 316,⟨.type "tuple",none,.seq #[.str "text" 597] 0,#[]⟩) ::
 (nat_lit 317,⟨.type "tuple",none,.seq #[] 0,#[]⟩) ::
 (nat_lit 319,⟨.type "code",none,.fields #[.str "read_drawing" 594,.str "read_drawing" 595,.str "/claim/cut.py" 596,.int 132 0,.int 1 0,.int 0 0,.int 0 0,.int 3 0,.ref 314,.bool true,.int 181 0,.ref 315,.none,.ref 316,.ref 317,.ref 318,.int 598 0,.int 132 0,.str "/claim/cut.py" 599],#[]⟩) ::
 (nat_lit 320,⟨.type "function",none,.func (fnOf "read_drawing" "read_drawing" (defArgs (top 36)) (defBody (top 36)) (defScope (top 36)) .none .none .none (.str "borderfloor.drawings" 565) none (.ref 319) .none),#[]⟩) ::
 (nat_lit 321,⟨.type "tuple",none,.seq #[] 0,#[]⟩) ::
 (nat_lit 323,⟨.type "tuple",none,.seq #[.str "_law_script" 606,.str "_law_k" 607] 0,#[]⟩) ::
 (nat_lit 324,⟨.type "tuple",none,.seq #[] 0,#[]⟩) ::
 (nat_lit 326,⟨.type "code",none,.fields #[.str "_law_cell_at" 603,.str "_law_cell_at" 604,.str "/claim/cut.py" 605,.int 135 0,.int 2 0,.int 0 0,.int 0 0,.int 3 0,.ref 321,.bool true,.int 181 0,.ref 322,.none,.ref 323,.ref 324,.ref 325,.int 608 0,.int 135 0,.str "/claim/cut.py" 609],#[]⟩) ::
 (nat_lit 327,⟨.type "function",none,.func (fnOf "_law_cell_at" "_law_cell_at" (defArgs (top 38)) (defBody (top 38)) (defScope (top 38)) .none .none .none (.str "law_borderfloor_k08_no_drawing" 601) none (.ref 326) .none),#[]⟩) ::
 (nat_lit 328,⟨.type "tuple",none,.seq #[] 0,#[]⟩) ::
 (nat_lit 330,⟨.type "tuple",none,.seq #[.str "_law_script" 614,.str "_law_k" 615] 0,#[]⟩) ::
 (nat_lit 331,⟨.type "tuple",none,.seq #[] 0,#[]⟩) ::
 (nat_lit 333,⟨.type "code",none,.fields #[.str "_law_mix" 611,.str "_law_mix" 612,.str "/claim/cut.py" 613,.int 139 0,.int 2 0,.int 0 0,.int 0 0,.int 3 0,.ref 328,.bool true,.int 181 0,.ref 329,.none,.ref 330,.ref 331,.ref 332,.int 616 0,.int 139 0,.str "/claim/cut.py" 617],#[]⟩) ::
 (nat_lit 334,⟨.type "function",none,.func (fnOf "_law_mix" "_law_mix" (defArgs (top 39)) (defBody (top 39)) (defScope (top 39)) .none .none .none (.str "law_borderfloor_k08_no_drawing" 601) none (.ref 333) .none),#[]⟩) ::
 (nat_lit 335,⟨.type "tuple",none,.seq #[] 0,#[]⟩) ::
 (nat_lit 337,⟨.type "tuple",none,.seq #[.str "_law_found" 622] 0,#[]⟩) ::
 (nat_lit 338,⟨.type "tuple",none,.seq #[] 0,#[]⟩) ::
 (nat_lit 340,⟨.type "code",none,.fields #[.str "_law_whole" 619,.str "_law_whole" 620,.str "/claim/cut.py" 621,.int 141 0,.int 1 0,.int 0 0,.int 0 0,.int 3 0,.ref 335,.bool true,.int 181 0,.ref 336,.none,.ref 337,.ref 338,.ref 339,.int 623 0,.int 141 0,.str "/claim/cut.py" 624],#[]⟩) ::
 (nat_lit 341,⟨.type "function",none,.func (fnOf "_law_whole" "_law_whole" (defArgs (top 40)) (defBody (top 40)) (defScope (top 40)) .none .none .none (.str "law_borderfloor_k08_no_drawing" 601) none (.ref 340) .none),#[]⟩) ::
 (nat_lit 342,⟨.type "tuple",none,.seq #[] 0,#[]⟩) ::
 (nat_lit 344,⟨.type "tuple",none,.seq #[.str "_law_found" 629] 0,#[]⟩) ::
 (nat_lit 345,⟨.type "tuple",none,.seq #[] 0,#[]⟩) ::
 (nat_lit 347,⟨.type "code",none,.fields #[.str "_law_is_pair" 626,.str "_law_is_pair" 627,.str "/claim/cut.py" 628,.int 143 0,.int 1 0,.int 0 0,.int 0 0,.int 3 0,.ref 342,.bool true,.int 181 0,.ref 343,.none,.ref 344,.ref 345,.ref 346,.int 630 0,.int 143 0,.str "/claim/cut.py" 631],#[]⟩) ::
 (nat_lit 348,⟨.type "function",none,.func (fnOf "_law_is_pair" "_law_is_pair" (defArgs (top 41)) (defBody (top 41)) (defScope (top 41)) .none .none .none (.str "law_borderfloor_k08_no_drawing" 601) none (.ref 347) .none),#[]⟩) ::
 (nat_lit 349,⟨.type "tuple",none,.seq #[] 0,#[]⟩) ::
 (nat_lit 351,⟨.type "tuple",none,.seq #[.str "_law_found" 636,.str "_law_due_here" 637,.str "_law_k" 638] 0,#[]⟩) ::
 (nat_lit 352,⟨.type "tuple",none,.seq #[] 0,#[]⟩) ::
 (nat_lit 354,⟨.type "code",none,.fields #[.str "_law_is_piece" 633,.str "_law_is_piece" 634,.str "/claim/cut.py" 635,.int 145 0,.int 2 0,.int 0 0,.int 0 0,.int 3 0,.ref 349,.bool true,.int 181 0,.ref 350,.none,.ref 351,.ref 352,.ref 353,.int 639 0,.int 145 0,.str "/claim/cut.py" 640],#[]⟩) ::
 (nat_lit 355,⟨.type "function",none,.func (fnOf "_law_is_piece" "_law_is_piece" (defArgs (top 42)) (defBody (top 42)) (defScope (top 42)) .none .none .none (.str "law_borderfloor_k08_no_drawing" 601) none (.ref 354) .none),#[]⟩) ::
 (nat_lit 356,⟨.type "tuple",none,.seq #[] 0,#[]⟩) ::
 (nat_lit 358,⟨.type "tuple",none,.seq #[.str "_law_cells_here" 645,.str "_law_row" 646,.str "_law_cell" 647,.str "_law_at" 648] 0,#[]⟩) ::
 (nat_lit 359,⟨.type "tuple",none,.seq #[] 0,#[]⟩) ::
 (nat_lit 361,⟨.type "code",none,.fields #[.str "_law_sorted" 642,.str "_law_sorted" 643,.str "/claim/cut.py" 644,.int 152 0,.int 1 0,.int 0 0,.int 0 0,.int 3 0,.ref 356,.bool true,.int 181 0,.ref 357,.none,.ref 358,.ref 359,.ref 360,.int 649 0,.int 152 0,.str "/claim/cut.py" 650],#[]⟩) ::
 (nat_lit 362,⟨.type "function",none,.func (fnOf "_law_sorted" "_law_sorted" (defArgs (top 43)) (defBody (top 43)) (defScope (top 43)) .none .none .none (.str "law_borderfloor_k08_no_drawing" 601) none (.ref 361) .none),#[]⟩) ::
 (nat_lit 363,⟨.type "tuple",none,.seq #[] 0,#[]⟩) ::
 (nat_lit 365,⟨.type "tuple",none,.seq #[.str "_law_cell" 655] 0,#[]⟩) ::
 (nat_lit 366,⟨.type "tuple",none,.seq #[] 0,#[]⟩) ::
 (nat_lit 368,⟨.type "code",none,.fields #[.str "_law_beside" 652,.str "_law_beside" 653,.str "/claim/cut.py" 654,.int 160 0,.int 1 0,.int 0 0,.int 0 0,.int 3 0,.ref 363,.bool true,.int 181 0,.ref 364,.none,.ref 365,.ref 366,.ref 367,.int 656 0,.int 160 0,.str "/claim/cut.py" 657],#[]⟩) ::
 (nat_lit 369,⟨.type "function",none,.func (fnOf "_law_beside" "_law_beside" (defArgs (top 44)) (defBody (top 44)) (defScope (top 44)) .none .none .none (.str "law_borderfloor_k08_no_drawing" 601) none (.ref 368) .none),#[]⟩) ::
 (nat_lit 370,⟨.type "tuple",none,.seq #[] 0,#[]⟩) ::
 (nat_lit 372,⟨.type "tuple",none,.seq #[.str "_law_first" 662,.str "_law_cells_here" 663,.str "_law_allowed" 664,.str "_law_cell" 665,.str "_law_found" 666,.str "_law_waiting" 667] 0,#[]⟩) ::
 (nat_lit 373,⟨.type "tuple",none,.seq #[] 0,#[]⟩) ::
 (nat_lit 375,⟨.type "code",none,.fields #[.str "_law_reached" 659,.str "_law_reached" 660,.str "/claim/cut.py" 661,.int 162 0,.int 2 0,.int 0 0,.int 0 0,.int 3 0,.ref 370,.bool true,.int 181 0,.ref 371,.none,.ref 372,.ref 373,.ref 374,.int 668 0,.int 162 0,.str "/claim/cut.py" 669],#[]⟩) ::
 (nat_lit 376,⟨.type "function",none,.func (fnOf "_law_reached" "_law_reached" (defArgs (top 45)) (defBody (top 45)) (defScope (top 45)) .none .none .none (.str "law_borderfloor_k08_no_drawing" 601) none (.ref 375) .none),#[]⟩) ::
 (nat_lit 377,⟨.type "tuple",none,.seq #[] 0,#[]⟩) ::
 (nat_lit 380,⟨.type "code",none,.fields #[.str "_law_empties" 671,.str "_law_empties" 672,.str "/claim/cut.py" 673,.int 174 0,.int 1 0,.int 0 0,.int 0 0,.int 3 0,.ref 377,.bool true,.int 181 0,.ref 378,.none,.none,.none,.ref 379,.int 674 0,.int 174 0,.str "/claim/cut.py" 675],#[]⟩) ::
 (nat_lit 381,⟨.type "function",none,.func (fnOf "_law_empties" "_law_empties" (defArgs (top 46)) (defBody (top 46)) (defScope (top 46)) .none .none .none (.str "law_borderfloor_k08_no_drawing" 601) none (.ref 380) .none),#[]⟩) ::
 (nat_lit 382,⟨.type "tuple",none,.seq #[] 0,#[]⟩) ::
 (nat_lit 385,⟨.type "code",none,.fields #[.str "_law_kinds" 677,.str "_law_kinds" 678,.str "/claim/cut.py" 679,.int 183 0,.int 1 0,.int 0 0,.int 0 0,.int 3 0,.ref 382,.bool true,.int 181 0,.ref 383,.none,.none,.none,.ref 384,.int 680 0,.int 183 0,.str "/claim/cut.py" 681],#[]⟩) ::
 (nat_lit 386,⟨.type "function",none,.func (fnOf "_law_kinds" "_law_kinds" (defArgs (top 47)) (defBody (top 47)) (defScope (top 47)) .none .none .none (.str "law_borderfloor_k08_no_drawing" 601) none (.ref 385) .none),#[]⟩) ::
 (nat_lit 387,⟨.type "tuple",none,.seq #[] 0,#[]⟩) ::
 (nat_lit 389,⟨.type "tuple",none,.seq #[.str "_law_script" 686,.str "_law_wide" 687,.str "_law_rows_here" 688,.str "_law_y" 689,.str "_law_row" 690,.str "_law_x" 691] 0,#[]⟩) ::
 (nat_lit 390,⟨.type "tuple",none,.seq #[] 0,#[]⟩) ::
 (nat_lit 392,⟨.type "code",none,.fields #[.str "_law_rows" 683,.str "_law_rows" 684,.str "/claim/cut.py" 685,.int 193 0,.int 1 0,.int 0 0,.int 0 0,.int 3 0,.ref 387,.bool true,.int 181 0,.ref 388,.none,.ref 389,.ref 390,.ref 391,.int 692 0,.int 193 0,.str "/claim/cut.py" 693],#[]⟩) ::
 (nat_lit 393,⟨.type "function",none,.func (fnOf "_law_rows" "_law_rows" (defArgs (top 48)) (defBody (top 48)) (defScope (top 48)) .none .none .none (.str "law_borderfloor_k08_no_drawing" 601) none (.ref 392) .none),#[]⟩) ::
 (nat_lit 394,⟨.type "tuple",none,.seq #[] 0,#[]⟩) ::
 (nat_lit 396,⟨.type "tuple",none,.seq #[.str "_law_rows_here" 698,.str "_law_way" 699,.str "_law_cell" 700,.str "_law_at" 701,.str "_law_row" 702,.str "_law_place" 703,.str "_law_sign" 704] 0,#[]⟩) ::
 (nat_lit 397,⟨.type "tuple",none,.seq #[] 0,#[]⟩) ::
 (nat_lit 399,⟨.type "code",none,.fields #[.str "_law_spoilt" 695,.str "_law_spoilt" 696,.str "/claim/cut.py" 697,.int 202 0,.int 3 0,.int 0 0,.int 0 0,.int 3 0,.ref 394,.bool true,.int 181 0,.ref 395,.none,.ref 396,.ref 397,.ref 398,.int 705 0,.int 202 0,.str "/claim/cut.py" 706],#[]⟩) ::
 (nat_lit 400,⟨.type "function",none,.func (fnOf "_law_spoilt" "_law_spoilt" (defArgs (top 49)) (defBody (top 49)) (defScope (top 49)) .none .none .none (.str "law_borderfloor_k08_no_drawing" 601) none (.ref 399) .none),#[]⟩) ::
 (nat_lit 401,⟨.type "tuple",none,.seq #[] 0,#[]⟩) ::
 (nat_lit 403,⟨.type "tuple",none,.seq #[.str "_law_text" 711,.str "_law_rows_here" 712,.str "_law_cells_here" 713,.str "_law_down" 714,.str "_law_x" 715] 0,#[]⟩) ::
 (nat_lit 404,⟨.type "tuple",none,.seq #[] 0,#[]⟩) ::
 (nat_lit 406,⟨.type "code",none,.fields #[.str "_law_cells" 708,.str "_law_cells" 709,.str "/claim/cut.py" 710,.int 218 0,.int 1 0,.int 0 0,.int 0 0,.int 3 0,.ref 401,.bool true,.int 181 0,.ref 402,.none,.ref 403,.ref 404,.ref 405,.int 716 0,.int 218 0,.str "/claim/cut.py" 717],#[]⟩) ::
 (nat_lit 407,⟨.type "function",none,.func (fnOf "_law_cells" "_law_cells" (defArgs (top 50)) (defBody (top 50)) (defScope (top 50)) .none .none .none (.str "law_borderfloor_k08_no_drawing" 601) none (.ref 406) .none),#[]⟩) ::
 (nat_lit 408,⟨.type "tuple",none,.seq #[] 0,#[]⟩) ::
 (nat_lit 411,⟨.type "code",none,.fields #[.str "_law_due" 719,.str "_law_due" 720,.str "/claim/cut.py" 721,.int 230 0,.int 1 0,.int 0 0,.int 0 0,.int 3 0,.ref 408,.bool true,.int 181 0,.ref 409,.none,.none,.none,.ref 410,.int 722 0,.int 230 0,.str "/claim/cut.py" 723],#[]⟩) ::
 (nat_lit 412,⟨.type "function",none,.func (fnOf "_law_due" "_law_due" (defArgs (top 51)) (defBody (top 51)) (defScope (top 51)) .none .none .none (.str "law_borderfloor_k08_no_drawing" 601) none (.ref 411) .none),#[]⟩) ::
 (nat_lit 413,⟨.type "tuple",none,.seq #[] 0,#[]⟩) ::
 (nat_lit 415,⟨.type "tuple",none,.seq #[.str "_law_script" 728,.str "_law_rows_here" 729,.str "_law_text" 730,.str "_law_due_here" 731,.str "_law_caught" 732,.str "_law_found" 733,.str "_law_e" 734] 0,#[]⟩) ::
 (nat_lit 416,⟨.type "tuple",none,.seq #[] 0,#[]⟩) ::
 (nat_lit 418,⟨.type "code",none,.fields #[.str "law" 725,.str "law" 726,.str "/claim/cut.py" 727,.int 249 0,.int 1 0,.int 0 0,.int 0 0,.int 3 0,.ref 413,.bool true,.int 181 0,.ref 414,.none,.ref 415,.ref 416,.ref 417,.int 735 0,.int 249 0,.str "/claim/cut.py" 736],#[]⟩) ::
 (nat_lit 419,⟨.type "function",none,.func (fnOf "law" "law" (defArgs (top 52)) (defBody (top 52)) (defScope (top 52)) .none .none .none (.str "law_borderfloor_k08_no_drawing" 601) none (.ref 418) .none),#[]⟩)::[]
noncomputable def kA:List Addr:=[2,3,15,22,23,24,25,28,35,36,37,40,47,48,49,52,59,60,61,64,71,72,73,76,83,84,85,88,95,96,97,100,107,108,109,112,119,120,121,124,131,132,133,136,143,145,146,148,149,150,151,152,155,162,164,165,167,168,169,170,171,174,181,183,184,186,187,188,189,190,193,200,202,203,205,206,207,208,209,212,219,221,222,224,225,226,227,228,231,233,234,236,237,238,240,241,243,244,245,247,248,250,251,252,254,255,257,258,259,261,262,264,265,266,269,270,271,273,274,276,277,278,281,282,283,285,286,288,289,290,293,294,295,298,299,300,302,303,305,306,307,309,310,312,313,314,316,317,319,320,321,323,324,326,327,328,330,331,333,334,335,337,338,340,341,342,344,345,347,348,349,351,352,354,355,356,358,359,361,362,363,365,366,368,369,370,372,373,375,376,377,380,381,382,385,386,387,389,390,392,393,394,396,397,399,400,401,403,404,406,407,408,411,412,413,415,416,418,419]
theorem kE (P:Params):kA = (K0 P).map (·.1):=by kernel_rfl
noncomputable def vw:Program:={ PySem.Challenge.pw_borderfloor_k08_no_drawing with main:={ (PySem.Challenge.pw_borderfloor_k08_no_drawing).main with body:=[top 1,top 2,top 3,top 4,top 5,top 6,top 7,top 8,top 9,top 10,top 11,top 12,top 13,top 14,top 15,top 17,top 18,top 19,top 20,top 22,top 23,top 24,top 25,top 26,top 27,top 28,top 29,top 31,top 32,top 33,top 34,top 35,top 36,top 38,top 39,top 40,top 41,top 42,top 43,top 44,top 45,top 46,top 47,top 48,top 49,top 50,top 51,top 52] } }
noncomputable def lo:List Str:=[]
noncomputable abbrev xT (s:Shared):Bool:=PySem.W.xlAt vw [] s && PySem.W.recOk (PySem.W.RowW.records (PySem.W.OpenRow.toRowW (PySem.W.OpenLaw.row PySem.Challenge.rw_borderfloor_k08_no_drawing))) s
theorem ld1:PySem.W.opening PySem.Challenge.pw_borderfloor_k08_no_drawing = PySem.W.plainProg (PySem.Challenge.pw_borderfloor_k08_no_drawing).main.scope.names:=by kernel_rfl
theorem ld3 (s:Shared):fenceModules? PySem.Challenge.pw_borderfloor_k08_no_drawing s = some s:=by kernel_rfl
theorem ldP (w:World) (os:OsState):PreP PySem.Challenge.pw_borderfloor_k08_no_drawing w os:=by kernel_rfl
theorem ldB (w:World) (os:OsState):BlkP PySem.Challenge.pw_borderfloor_k08_no_drawing w os:=by kernel_rfl
theorem ldS (w:World) (os:OsState):SegP PySem.Challenge.pw_borderfloor_k08_no_drawing w os:=by kernel_rfl
theorem ldF (w:World) (os:OsState):FinP PySem.Challenge.pw_borderfloor_k08_no_drawing w os:=by kernel_rfl
theorem ldA (w:World) (os:OsState):LkA PySem.Challenge.pw_borderfloor_k08_no_drawing w os:=by kernel_rfl
theorem ldL (w:World) (os:OsState):LkB PySem.Challenge.pw_borderfloor_k08_no_drawing vw lo xT true w os:=by kernel_rfl
theorem ldC (w:World) (os:OsState):LkC PySem.Challenge.pw_borderfloor_k08_no_drawing (PySem.W.Hook.obs (PySem.W.kHook K0 kA kE)) (PySem.W.Hook.val (PySem.W.kHook K0 kA kE)) w os:=by kernel_rfl
theorem ld:PySem.W.LeftO PySem.Challenge.pw_borderfloor_k08_no_drawing vw lo xT (PySem.W.Hook.obs (PySem.W.kHook K0 kA kE)) (PySem.W.Hook.val (PySem.W.kHook K0 kA kE)) 20100 :=
 left_parts ld1 ld3 ldP ldB ldS ldF ldA ldL ldC
end Law
namespace L2
open PySem PySem.Spec PyProof.Rows
noncomputable abbrev Key:=Sum Int Str
noncomputable def keyIs:Key→Value→Bool
 | .inl k,v => Value.isInt k v
 | .inr x,v => Value.isStrOf x v
noncomputable def keyH (w:World):Key→Int
 | .inl k => hashInt k
 | .inr x => hashStr w x
theorem keyIs_shape:∀ {k:Key} {v:Value},keyIs k v = true→(∃ i t,k = Sum.inl i∧v = Value.int i t)∨(∃ x t,k = Sum.inr x∧v = Value.str x t)
 | .inl i,v,h => by
  obtain ⟨t,e⟩:=Value.isInt_shape (k:=i) (v:=v) h
  exact .inl ⟨i,t,rfl,e⟩
 | .inr x,v,h => by
  obtain ⟨t,e⟩:=Value.isStrOf_shape (x:=x) (v:=v) h
  exact .inr ⟨x,t,rfl,e⟩
theorem keyIs_int (i:Int) (t:Tok):keyIs (.inl i) (.int i t) = true:=by simp [keyIs,Value.isInt]
theorem keyIs_str (x:Str) (t:Tok):keyIs (.inr x) (.str x t) = true:=by simp [keyIs,Value.isStrOf]
theorem key_ll (a b:Int):decide ((Sum.inl a:Key) = Sum.inl b) = (a == b):=by
 by_cases e:a = b
 ·subst e; simp
 ·have h:¬ (Sum.inl a:Key) = Sum.inl b:=fun q => e (Sum.inl.inj q)
  rw [decide_eq_false h]
  exact (beq_eq_false_iff_ne.mpr e).symm
theorem key_rr (a b:Str):decide ((Sum.inr a:Key) = Sum.inr b) = decide (a = b):=by
 by_cases e:a = b
 ·subst e; simp
 ·have h:¬ (Sum.inr a:Key) = Sum.inr b:=fun q => e (Sum.inr.inj q)
  rw [decide_eq_false h,decide_eq_false e]
theorem key_lr (a:Int) (b:Str):decide ((Sum.inl a:Key) = Sum.inr b) = false:=decide_eq_false (fun q => nomatch q)
theorem key_rl (a:Str) (b:Int):decide ((Sum.inr a:Key) = Sum.inl b) = false:=decide_eq_false (fun q => nomatch q)
noncomputable def mixKind (prog:Program) (w:World):PySem.KeyKind prog w Key where
 is:=keyIs
 hash:=keyH w
 inj:=fun v a b ha hb => by
  rcases keyIs_shape ha with ⟨i,t,rfl,rfl⟩ | ⟨x,t,rfl,rfl⟩
  ·rcases keyIs_shape hb with ⟨j,u,rfl,e⟩ | ⟨y,u,rfl,e⟩
   ·injection e with e1 _; rw [e1]
   ·exact nomatch e
  ·rcases keyIs_shape hb with ⟨j,u,rfl,e⟩ | ⟨y,u,rfl,e⟩
   ·exact nomatch e
   ·injection e with e1 _; rw [e1]
 byValue:=fun k v h => by
  rcases keyIs_shape h with ⟨i,t,rfl,rfl⟩ | ⟨x,t,rfl,rfl⟩ <;> rfl
 pyHash:=fun hv h => by
  rcases keyIs_shape hv with ⟨i,t,rfl,rfl⟩ | ⟨x,t,rfl,rfl⟩
  ·exact wpAny_pyHash_int h
  ·exact wpAny_pyHash_str h
 eqBool:=fun hu hv h => by
  rcases keyIs_shape hu with ⟨i,t,rfl,rfl⟩ | ⟨x,t,rfl,rfl⟩
  ·rcases keyIs_shape hv with ⟨j,u,rfl,rfl⟩ | ⟨y,u,rfl,rfl⟩
   ·rw [key_ll] at h; exact wpAny_eqBool_int h
   ·rw [key_lr] at h; exact SeqAt.EqAt.int_str i t y u _ _ _ _ h
  ·rcases keyIs_shape hv with ⟨j,u,rfl,rfl⟩ | ⟨y,u,rfl,rfl⟩
   ·rw [key_rl] at h; exact SeqAt.EqAt.str_int x t j u _ _ _ _ h
   ·rw [key_rr] at h; exact wpAny_eqBool_str h
 «strs»:=fun k x t v h => by
  rcases keyIs_shape h with ⟨i,u,rfl,e⟩ | ⟨y,u,rfl,e⟩
  ·exact nomatch e
  ·injection e with e1 _
   subst e1
   cases v <;> rfl
theorem mixKind_int (prog:Program) (w:World) (i:Int) (t:Tok):(mixKind prog w).is (.inl i) (.int i t) = true:=keyIs_int i t
theorem mixKind_str (prog:Program) (w:World) (x:Str) (t:Tok):(mixKind prog w).is (.inr x) (.str x t) = true:=keyIs_str x t
inductive V where
 | non | bl (b:Bool) | int (i:Int) | str (x:Str) | byt (b:Array UInt8) | flt (b:UInt64) | ref (a:Addr) | ty (n:String)
 deriving DecidableEq
noncomputable def RelV:V→Value→Prop
 | .non,u => u = Value.none
 | .bl b,u => u = Value.bool b
 | .int i,u => ∃ t,u = Value.int i t
 | .str x,u => ∃ t,u = Value.str x t
 | .byt b,u => ∃ t,u = Value.bytes b t
 | .flt b,u => ∃ t,u = Value.float b t
 | .ref a,u => u = Value.ref a
 | .ty n,u => u = Value.type n
noncomputable abbrev Vals:List V→List Value→Prop:=Paired RelV
theorem Vals.length {xs:List V} {us:List Value} (r:Vals xs us):xs.length = us.length:=Paired.length r
theorem Vals.get:∀ {xs:List V} {us:List Value} {i:Nat} {x:V},Vals xs us→xs[i]? = some x→∃ u,us[i]? = some u∧RelV x u
 | _,_,_,_,.nil,e => by simp at e
 | _,_,0,_,.cons r _,e => by simp at e; subst e; exact ⟨_,rfl,r⟩
 | _,_,i + 1,x,.cons _ t,e => by
  obtain ⟨u,h1,h2⟩:=Vals.get (i:=i) (x:=x) t (by simpa using e)
  exact ⟨u,by simpa using h1,h2⟩
theorem Vals.set {x:V} {u:Value} (r:RelV x u):∀ {xs:List V} {us:List Value} (i:Nat),Vals xs us→Vals (xs.set i x) (us.set i u)
 | _,_,_,.nil => .nil
 | _,_,0,.cons _ t => .cons r t
 | _,_,i + 1,.cons q t => .cons q (Vals.set r i t)
theorem Vals.append:∀ {xs ys:List V} {us ws:List Value},Vals xs us→Vals ys ws→Vals (xs++ys) (us++ws)
 | _,_,_,_,.nil,s => s
 | _,_,_,_,.cons r t,s => .cons r (Vals.append t s)
theorem Vals.take:∀ {xs:List V} {us:List Value} (n:Nat),Vals xs us→Vals (xs.take n) (us.take n)
 | _,_,0,_ => .nil
 | _,_,_ + 1,.nil => .nil
 | _,_,n + 1,.cons r t => .cons r (Vals.take n t)
theorem Vals.drop:∀ {xs:List V} {us:List Value} (n:Nat),Vals xs us→Vals (xs.drop n) (us.drop n)
 | _,_,0,r => r
 | _,_,_ + 1,.nil => .nil
 | _,_,n + 1,.cons _ t => Vals.drop n t
noncomputable def RelO:Option V→Option Value→Prop
 | some v,some u => RelV v u
 | none,none => True
 | _,_ => False
noncomputable def KV {κ:Type}:List (κ×V)→List (κ×Value)→Prop:=Paired fun (p:κ×V) (q:κ×Value) => p.1 = q.1∧RelV p.2 q.2
noncomputable def kV:Key→V
 | .inl i => .int i
 | .inr x => .str x
inductive HO where
 | lst (xs:List V)
 | tup (xs:List V)
 | dK (kvs:List (Key×V)) | dT (kvs:List (List Key×V))
 | set (S:Int→Bool) (n:Nat)
 | ins (C dx:Addr) (fs:List (Str×V))
 | own (x:Addr)
 | xd (fs:List (Str×V))
 | met (f x:Addr)
 | rng (lo hi:Int)
 | frz (o:Obj) (u:HO)
 | tbl (ps:Array Value)
 | ext (φ:Heap→Prop)
noncomputable abbrev Hp:=Addr→Option HO
noncomputable def upd (H:Hp) (a:Addr) (o:HO):Hp:=fun b => if b = a then some o else H b
theorem upd_same {H:Hp} {a:Addr} {o:HO}:upd H a o a = some o:=by unfold upd; rw [if_pos rfl]
theorem upd_ne {H:Hp} {a b:Addr} {o:HO} (h:b≠a):upd H a o b = H b:=by unfold upd; rw [if_neg h]
theorem upd_upd {H:Hp} {a:Addr} {o u:HO}:upd (upd H a o) a u = upd H a u:=by
 funext b; unfold upd; split <;> rfl
theorem ne_of {H:Hp} {a b:Addr} {o u:HO} (h:H a = some o) (h':H b = some u) (d:o≠u):a≠b:=by
 intro e; subst e; rw [h] at h'; exact d (Option.some.inj h')
theorem ne_of_none {H:Hp} {a b:Addr} {o:HO} (h:H a = some o) (h':H b = none):a≠b:=by
 intro e; subst e; rw [h] at h'; cases h'
noncomputable def TupD (h:Heap) (a:Addr) (items:Array Value):Prop:=∃ o,h.get? a = some o∧o.cls = .type "tuple"∧∃ n,o.data = .seq items n∧o.dict = none
theorem TupD.tup {h:Heap} {a:Addr} {items:Array Value} (x:TupD h a items):IsTup h a items:=by
 obtain ⟨o,e,c,n,d,_⟩:=x
 exact ⟨o,e,c,n,d⟩
theorem TupD.lt {h:Heap} {a:Addr} {items:Array Value} (x:TupD h a items):a < h.objs.size:=x.tup.lt
theorem TupD.new (h:Heap) (items:Array Value):TupD (h.push { cls:=.type "tuple",data:=.seq items }) h.objs.size items:=⟨_,Heap.get?_push_size _ rfl,rfl,_,rfl,rfl⟩
section
variable (P:Program) (w:World)
noncomputable def ObjOk (H:Hp) (h:Heap) (a:Addr):HO→Prop
 | .lst xs => xs.length≤sizeLine∧∃ (its:List Value) (n:Nat),Vals xs its∧h.get? a = some { cls:=.type "list",data:=.seq its.toArray n }
 | .tup xs => xs.length≤sizeLine∧∃ its:List Value,Vals xs its∧TupD h a its.toArray
 | .dK kvs => kvs.length≤sizeLine∧(a == sysModules) = false∧∃ vs,KV kvs vs∧h.DictOf (mixKind P w) a vs
 | .dT kvs => kvs.length≤sizeLine∧(a == sysModules) = false∧∃ xs:List (List Key×Addr×Value),
   Paired (fun (p:List Key×V) (q:List Key×Addr×Value) => p.1 = q.1∧H q.2.1 = some (.tup (p.1.map kV))∧RelV p.2 q.2.2) kvs xs ∧
   ∃ o es ep,h.get? a = some o∧o.ExactDict∧o.data = .dict es ep∧es.toList = xs.map (entryOfKey (tupleKind (mixKind P w)))∧(xs.map (·.1)).Nodup
 | .set S n => h.SetOf (intKind P w) a S n
 | .ins C dx fs => H dx = some (.own a)∧fs.length≤1000∧dx≠a∧h.get? a = some (PySem.W.instObj C dx) ∧
   ∃ mA,h.Ns1 dx mA∧(∀ f,RelO (fs.lookup f) (mA f))∧PySem.Within mA (fs.map (·.1))
 | .own _ => ∃ o,h.get? a = some o
 | .xd fs => ∃ mA,h.Ns1 a mA∧∀ f,RelO (fs.lookup f) (mA f)
 | .rng lo hi => ∃ t u v,h.get? a = some { cls:=.type "range",data:=.fields #[.int lo t,.int hi u,.int 1 v] }
 | .frz o u => h.get? a = some o∧ObjOk H h a u
 | .tbl ps => h.get? a = some { cls:=.none,data:=.fields ps }
 | .met f x => h.get? a = some (PySem.W.methodObj (.ref f) (.ref x))
 | .ext φ => φ h∧(∃ o,h.get? a = some o)∧∀ h1 h2:Heap,φ h1→(∀ o,h1.get? a = some o→h2.get? a = some o)→φ h2
noncomputable def HOk (H:Hp) (h:Heap):Prop:=∀ a o,H a = some o→ObjOk P w H h a o
end
section
variable {P:Program} {w:World} {H H':Hp} {h h':Heap} {a:Addr} {o:HO}
theorem ObjOk.lt (x:ObjOk P w H h a o):a < h.objs.size:=by
 cases o with
 | lst xs => obtain ⟨_,_,_,_,e⟩:=x; exact Heap.lt_size e
 | tup xs => obtain ⟨_,_,_,p⟩:=x; exact p.lt
 | dK kvs => obtain ⟨_,_,_,_,o,_,_,e,_⟩:=x; exact Heap.lt_size e
 | dT kvs => obtain ⟨_,_,_,_,o,_,_,e,_⟩:=x; exact Heap.lt_size e
 | set S n => obtain ⟨o,_,_,_,e,_⟩:=x; exact Heap.lt_size e
 | ins C dx fs => obtain ⟨_,_,_,e,_⟩:=x; exact Heap.lt_size e
 | own y => obtain ⟨_,e⟩:=x; exact Heap.lt_size e
 | xd fs => obtain ⟨_,⟨_,_,_,e,_⟩,_⟩:=x; exact Heap.lt_size e
 | rng lo hi => obtain ⟨_,_,_,e⟩:=x; exact Heap.lt_size e
 | frz ob u => obtain ⟨e,_⟩:=x; exact Heap.lt_size e
 | tbl ps => exact Heap.lt_size (show h.get? a = some _ from x)
 | met f y => exact Heap.lt_size (show h.get? a = some _ from x)
 | ext φ => obtain ⟨_,⟨_,e⟩,_⟩:=x; exact Heap.lt_size e
theorem Paired.mapP {α β:Type} {F G:α→β→Prop}:∀ {l₁:List α} {l₂:List β},Paired F l₁ l₂→(∀ a b,F a b→G a b)→Paired G l₁ l₂
 | _,_,.nil,_ => .nil
 | _,_,.cons r t,f => .cons (f _ _ r) (Paired.mapP t f)
theorem ObjOk.stay (x:ObjOk P w H h a o) (k:∀ b u,(b = a∨H b = some (.own a))→h.get? b = some u→h'.get? b = some u)
  (ho:∀ b,H b = some (.own a)→H' b = some (.own a)) (ht:∀ b xs,H b = some (.tup xs)→H' b = some (.tup xs)):ObjOk P w H' h' a o:=by
 induction o with
 | lst xs => obtain ⟨z,its,n,r,e⟩:=x; exact ⟨z,its,n,r,k _ _ (.inl rfl) e⟩
 | tup xs => obtain ⟨z,its,r,ob,e,c⟩:=x; exact ⟨z,its,r,ob,k _ _ (.inl rfl) e,c⟩
 | dK kvs => obtain ⟨z,y,vs,r,ob,es,ep,e,c⟩:=x; exact ⟨z,y,vs,r,ob,es,ep,k _ _ (.inl rfl) e,c⟩
 | dT kvs =>
  obtain ⟨z,y,xs,r,ob,es,ep,e,c⟩:=x
  exact ⟨z,y,xs,Paired.mapP r fun p q z => ⟨z.1,ht _ _ z.2.1,z.2.2⟩,ob,es,ep,k _ _ (.inl rfl) e,c⟩
 | set S n => obtain ⟨ob,es,ep,t,e,c⟩:=x; exact ⟨ob,es,ep,t,k _ _ (.inl rfl) e,c⟩
 | ins C dx fs =>
  obtain ⟨d,z,ne,e,mA,⟨od,es,ep,e2,c⟩,r⟩:=x
  exact ⟨ho _ d,z,ne,k _ _ (.inl rfl) e,mA,⟨od,es,ep,k _ _ (.inr d) e2,c⟩,r⟩
 | own y => obtain ⟨ob,e⟩:=x; exact ⟨ob,k _ _ (.inl rfl) e⟩
 | xd fs => obtain ⟨mA,⟨od,es,ep,e,c⟩,r⟩:=x; exact ⟨mA,⟨od,es,ep,k _ _ (.inl rfl) e,c⟩,r⟩
 | rng lo hi => obtain ⟨t,u,v,e⟩:=x; exact ⟨t,u,v,k _ _ (.inl rfl) e⟩
 | frz ob u ih => obtain ⟨e,q⟩:=x; exact ⟨k _ _ (.inl rfl) e,ih q⟩
 | tbl ps =>
  have e:h.get? a = some { cls:=.none,data:=.fields ps }:=x
  show h'.get? a = some { cls:=.none,data:=.fields ps }
  exact k a _ (.inl rfl) e
 | met f y =>
  have e:h.get? a = some (PySem.W.methodObj (.ref f) (.ref y)):=x
  show h'.get? a = some (PySem.W.methodObj (.ref f) (.ref y))
  exact k a _ (.inl rfl) e
 | ext φ => obtain ⟨p,⟨o,e⟩,st⟩:=x; exact ⟨st _ _ p fun o q => k _ _ (.inl rfl) q,⟨o,k _ _ (.inl rfl) e⟩,st⟩
theorem HOk.lt (x:HOk P w H h) (e:H a = some o):a < h.objs.size:=(x a o e).lt
theorem HOk.fresh (x:HOk P w H h) (e:h.objs.size≤a):H a = none:=by
 cases q:H a with
 | none => rfl
 | some u => exact absurd (Nat.lt_of_lt_of_le (x.lt q) e) (Nat.lt_irrefl _)
theorem HOk.kept (x:HOk P w H h) (k:∀ b u,h.get? b = some u→h'.get? b = some u):HOk P w H h':=fun a o e =>
 (x a o e).stay (fun b u _ q => k b u q) (fun _ q => q) fun _ _ q => q
theorem HOk.laid (x:HOk P w H h) (k:∀ b u,h.get? b = some u→h'.get? b = some u) (hp:h.objs.size≤a) (new:ObjOk P w (upd H a o) h' a o):HOk P w (upd H a o) h':=fun b u e => by
 have hn:=x.fresh hp
 by_cases hb:b = a
 ·subst hb; rw [upd_same] at e; cases e; exact new
 ·rw [upd_ne hb] at e
  exact (x b u e).stay (fun c v _ q => k c v q) (fun c q => by rw [upd_ne (ne_of_none q hn)]; exact q) fun c xs q => by rw [upd_ne (ne_of_none q hn)]; exact q
end
noncomputable def Rd (H:Hp) (a:Addr) (u:HO):Prop:=H a = some u∨∃ o,H a = some (.frz o u)
theorem Rd.ok {P:Program} {w:World} {H:Hp} {h:Heap} {a:Addr} {u:HO} (r:Rd H a u) (x:HOk P w H h):ObjOk P w H h a u:=by
 rcases r with r | ⟨o,r⟩
 ·exact x a u r
 ·obtain ⟨_,q⟩:=x a _ r
  exact q
noncomputable def Mut:Option HO→Prop
 | some (.lst _) => True
 | some (.dK _) => True
 | some (.dT _) => True
 | some (.set _ _) => True
 | some (.ins _ _ _) => True
 | some (.ext _) => True
 | _ => False
section
variable {P:Program} {w:World} {H:Hp} {h h':Heap} {x e:Addr} {o':HO}
theorem HOk.write (ok:HOk P w H h) (mu:Mut (H x)) (he:e = x∨H e = some (.own x)) (k:∀ b u,b≠e→h.get? b = some u→h'.get? b = some u) (heo:∃ u,h'.get? e = some u)
  (new:ObjOk P w (upd H x o') h' x o'):HOk P w (upd H x o') h':=fun b u q => by
 have nown:∀ c y,H c = some (.own y)→c≠x:=fun c y r z => by subst z; rw [r] at mu; exact mu
 have ntup:∀ c xs,H c = some (.tup xs)→c≠x:=fun c xs r z => by subst z; rw [r] at mu; exact mu
 by_cases hb:b = x
 ·subst hb; rw [upd_same] at q; cases q; exact new
 ·rw [upd_ne hb] at q
  by_cases hbe:b = e
  ·have q':H b = some (.own x):=by
    rcases he with z | z
    ·exact absurd (hbe.trans z) hb
    ·rw [hbe]; exact z
   rw [q] at q'; cases q'
   obtain ⟨v,hv⟩:=heo
   exact ⟨v,by rw [hbe]; exact hv⟩
  ·refine (ok b u q).stay (fun c v hc r => k c v ?_ r) (fun c r => by rw [upd_ne (nown c b r)]; exact r) fun c xs r => by rw [upd_ne (ntup c xs r)]; exact r
   rcases hc with rfl | hc
   ·exact hbe
   ·rintro rfl
    rcases he with z | z
    ·exact nown c b hc z
    ·rw [hc] at z; cases z; exact hb rfl
end
structure Un (fs ex:List Addr) (H H':Hp) (h h':Heap):Prop where
 keep:∀ b o,h.get? b = some o→H b = none→b∉fs→b∉ex→h'.get? b = some o
 slot:∀ b o,h.get? b = some o→H b = none→b∈fs→b∉ex→∃ sl,h'.get? b = some { o with slots:=sl }
 free:∀ b o,h.get? b = some o→H b = none→b∉ex→H' b = none
 there:∀ b o,h.get? b = some o→b∉ex→∃ o',h'.get? b = some o'
 tups:∀ b xs,H b = some (.tup xs)→H' b = some (.tup xs)
 frzs:∀ b o u,H b = some (.frz o u)→H' b = some (.frz o u)
 tbls:∀ b ps,H b = some (.tbl ps)→∃ more,H' b = some (.tbl (ps++more))
section
variable {fs fs' ex ex':List Addr} {H H1 H2:Hp} {h h1 h2 h':Heap} {a x e:Addr} {o:HO}
theorem Un.any (u:Un fs ex H H1 h h1) {b:Addr} {ob:Obj} (q:h.get? b = some ob) (n:H b = none) (hx:b∉ex):∃ sl,h1.get? b = some { ob with slots:=sl }:=by
 by_cases hb:b∈fs
 ·exact u.slot b ob q n hb hx
 ·exact ⟨ob.slots,u.keep b ob q n hb hx⟩
theorem Un.kept (k:∀ b u,h.get? b = some u→h'.get? b = some u):Un fs ex H H h h' :=
 ⟨fun b ob q _ _ _ => k b ob q,fun b ob q _ _ _ => ⟨ob.slots,k b ob q⟩,fun _ _ _ n _ => n,fun b ob q _ => ⟨ob,k b ob q⟩,fun _ _ q => q,fun _ _ _ q => q,fun _ ps q => ⟨#[],by rw [q]; simp⟩⟩
theorem Un.refl:Un fs ex H H h h:=Un.kept fun _ _ q => q
theorem Un.laid (k:∀ b u,h.get? b = some u→h'.get? b = some u) (hp:h.objs.size≤a) (hn:H a = none):Un fs ex H (upd H a o) h h' where
 keep:=fun b u q _ _ _ => k b u q
 slot:=fun b u q _ _ _ => ⟨u.slots,k b u q⟩
 free:=fun b u q n _ => by rw [upd_ne (Nat.ne_of_lt (Nat.lt_of_lt_of_le (Heap.lt_size q) hp))]; exact n
 there:=fun b u q _ => ⟨u,k b u q⟩
 tups:=fun b xs q => by rw [upd_ne (ne_of_none q hn)]; exact q
 frzs:=fun b u xs q => by rw [upd_ne (ne_of_none q hn)]; exact q
 tbls:=fun b ps q => ⟨#[],by rw [upd_ne (ne_of_none q hn),q]; simp⟩
theorem Un.write (mu:Mut (H x)) (he:e = x∨H e = some (.own x)) (k:∀ b u,b≠e→h.get? b = some u→h'.get? b = some u) (heo:∃ u,h'.get? e = some u):Un fs ex H (upd H x o) h h':=by
 have hx:∀ b,H b = none→b≠x:=fun b n z => by subst z; rw [n] at mu; exact mu
 have hb:∀ b,H b = none→b≠e:=fun b n z => by
  subst z
  rcases he with r | r
  ·exact hx b n r
  ·rw [n] at r; cases r
 have hm:∀ b u,H b = some u→¬ Mut (some u)→b≠x:=fun b u q nm z => by subst z; rw [q] at mu; exact nm mu
 refine ⟨fun b u q n _ _ => k b u (hb b n) q,fun b u q n _ _ => ⟨u.slots,k b u (hb b n) q⟩,fun b u q n _ => by rw [upd_ne (hx b n)]; exact n,fun b u q _ => ?_,
  fun b xs q => by rw [upd_ne (hm b _ q fun z => z)]; exact q,fun b u xs q => by rw [upd_ne (hm b _ q fun z => z)]; exact q,fun b ps q => ⟨#[],by rw [upd_ne (hm b _ q fun z => z),q]; simp⟩⟩
 by_cases hbe:b = e
 ·subst hbe; exact heo
 ·exact ⟨u,k b u hbe q⟩
end
noncomputable def trk (h:Heap) (H:Hp):List Addr:=(List.range h.objs.size).filter fun a => (H a).isSome
noncomputable def hidT (h:Heap) (H:Hp):Heap:=PySem.W.hideAll h (trk h H)
theorem hidT_size (h:Heap) (H:Hp):(hidT h H).objs.size = h.objs.size:=PySem.W.hideAll_size _ _
theorem hidT_get {h:Heap} {H:Hp} {b:Addr} {o:Obj} (e:h.get? b = some o) (n:H b = none):(hidT h H).get? b = some o :=
 PySem.W.hideAll_get _ e fun hm => by
  have q:(H b).isSome = true:=(List.mem_filter.mp hm).2
  rw [n] at q; simp at q
theorem of_hidT {h:Heap} {H:Hp} {b:Addr} {o:Obj} (e:(hidT h H).get? b = some o):h.get? b = some o∧H b = none:=by
 have e':h.get? b = some o:=PySem.W.of_hideAll (trk h H) e
 refine ⟨e',?_⟩
 cases q:H b with
 | none => rfl
 | some x =>
  have hm:b∈trk h H:=List.mem_filter.mpr ⟨List.mem_range.mpr (Heap.lt_size e'),by simp [q]⟩
  have z:(hidT h H).get? b = none:=PySem.W.hideAll_none (trk h H) hm
  rw [z] at e; cases e
noncomputable def allNews (g h:Heap) (L:Addr):List (Addr×Obj):=(List.range h.objs.size).filterMap fun a => if a = L∨(g.get? a).isSome = true then none else (h.get? a).map fun o => (a,o)
noncomputable def rest (g h:Heap) (L d:Addr):List (Addr×Obj):=(allNews g h L).filter fun p => decide (p.1≠d)
structure Mod (K:PySem.W.Frag) (mg:Str→Option Value) (base:Heap):Prop where
 kin:K.In base
 glob:base.Ns mainGlobals mg
 blt:∃ mb,base.Ns builtinsNs mb∧∀ x:Str,x ≠ "__name__"→mb x = bootBuiltins x
 nolimit:base.NoLimit
structure Cx where
 prog:Program
 w:World
 K:PySem.W.Frag
 mg:Str→Option Value
 base:Heap
 A:Around
 N:List Str
 s₀:Shared
 H₀:Hp
 env:Env
 outer:List Env
 stack:List Env
 ex:List Addr
 fn:Str→Bool
 calm:Bool
 pn:List (Addr×Obj)
 xe:Value→Shared→Prop
noncomputable def frs (l:List Env):List Addr:=l.filterMap (·.frame)
noncomputable abbrev Cx.fs (X:Cx):List Addr:=frs X.outer
noncomputable def Vis (sc:Scope) (x:Str):Prop:=sc.names.lookup x = some .local∨sc.names.lookup x = some .cell∨sc.names.lookup x = some .free
noncomputable def Loc (sc:Scope) (x:Str):Prop:=sc.names.lookup x = some .local∨sc.names.lookup x = some .cell
noncomputable def Look (env:Env) (h:Heap) (m:Str→Option Value) (x:Str) (u:Value):Prop :=
 (env.kindOf x = some .local∧m x = some u)∨((env.kindOf x = some .cell∨env.kindOf x = some .free)∧∃ c,env.cells.lookup x = some c∧h.IsCell c (some u))
structure Cx.Ok (X:Cx):Prop where
 mod:Mod X.K X.mg X.base
 kind:X.env.scope.kind = .function
 glob:X.env.globals = mainGlobals
 blt:X.env.builtins = builtinsNs
 above:X.s₀.heap.objs.size≤X.env.locals
 inj:∀ x y c,X.env.cells.lookup x = some c→X.env.cells.lookup y = some c→x = y
 has:∀ x,(X.env.kindOf x = some .cell∨X.env.kindOf x = some .free)→∃ c,X.env.cells.lookup x = some c
 cab:∀ x c,X.fn x = true→X.env.cells.lookup x = some c→X.s₀.heap.objs.size≤c
 hd:X.calm = true→X.A.handled = none
 frames:X.A.frames = some X.stack
 stk:X.stack = X.outer∨(X.stack = X.env::X.outer∧X.env.frame = some X.env.locals)
 exf:∀ b∈X.ex,b≠X.env.locals∧∀ x c,X.env.cells.lookup x = some c→c≠b
 bs:∀ b o,X.base.get? b = some o→X.s₀.heap.get? b = some o∧X.H₀ b = none
 bsz:X.base.objs.size≤X.s₀.heap.objs.size
 noex:∀ b o,X.base.get? b = some o→b∉X.ex
 exfs:∀ b∈X.ex,b∉X.fs
 funs:X.s₀.heap.FunFrames X.base X.outer
 frf:∀ b∈X.fs,X.H₀ b = none
structure Inv (X:Cx) (pins:List (Addr×Obj)) (σ:List (Option V)) (H:Hp) (s:Shared):Prop where
 ok:X.Ok
 os:s.os = X.s₀.os
 bare:AllBare s.gens
 base:Un X.fs X.ex X.H₀ H X.s₀.heap s.heap
 loc:∃ m,s.heap.Ns X.env.locals m∧∀ (i:Nat) (x:Str) (v:V),X.N[i]? = some x→σ[i]? = some (some v)→Vis X.env.scope x→∃ u,RelV v u∧Look X.env s.heap m x u
 cell:∀ x c,X.env.cells.lookup x = some c→∃ v,s.heap.IsCell c v
 free:H X.env.locals = none
 freeC:∀ x c,X.env.cells.lookup x = some c→H c = none
 pin:∀ p∈X.pn++pins,s.heap.get? p.1 = some p.2∧H p.1 = none∧p.1≠X.env.locals∧p.1∉X.fs∧∀ v,p.2.data≠.cell v
 hok:HOk X.prog X.w H s.heap
 len:σ.length = X.N.length
section
variable {X:Cx} {pins:List (Addr×Obj)} {σ:List (Option V)} {H H':Hp} {s:Shared} {h':Heap}
theorem Cx.Ok.nofr (ok:X.Ok) {b:Addr} {o:Obj} (e:X.base.get? b = some o):b∉X.fs:=fun hb => by
 have:=(ok.funs.mem hb).1
 rw [e] at this; cases this
theorem Inv.bs (I:Inv X pins σ H s):∀ b o,X.base.get? b = some o→s.heap.get? b = some o∧H b = none:=fun b o e =>
 ⟨I.base.keep b o (I.ok.bs b o e).1 (I.ok.bs b o e).2 (I.ok.nofr e) (I.ok.noex b o e),I.base.free b o (I.ok.bs b o e).1 (I.ok.bs b o e).2 (I.ok.noex b o e)⟩
theorem Inv.bk (I:Inv X pins σ H s):∀ b o,X.base.get? b = some o→s.heap.get? b = some o:=fun b o e => (I.bs b o e).1
theorem Inv.mod (I:Inv X pins σ H s):Mod X.K X.mg X.base:=I.ok.mod
theorem Inv.kIn (I:Inv X pins σ H s):X.K.In s.heap:=I.ok.mod.kin.keeps I.bk
theorem Inv.lt (I:Inv X pins σ H s):X.env.locals < s.heap.objs.size:=let ⟨_,hn,_⟩:=I.loc; hn.lt
theorem Inv.sz (I:Inv X pins σ H s):X.s₀.heap.objs.size≤s.heap.objs.size:=Nat.le_trans I.ok.above (Nat.le_of_lt I.lt)
theorem Inv.nofs (I:Inv X pins σ H s) {a:Addr} (h:s.heap.objs.size≤a):a∉X.fs:=fun hb => by
 obtain ⟨_,o,ho,_⟩:=I.ok.funs.mem hb
 exact absurd (Nat.lt_of_lt_of_le (Heap.lt_size ho) (Nat.le_trans I.sz h)) (Nat.lt_irrefl _)
theorem Inv.cne (I:Inv X pins σ H s):∀ x c,X.env.cells.lookup x = some c→c≠X.env.locals:=fun x c e z => by
 obtain ⟨v,o,ho,hd⟩:=I.cell x c e
 obtain ⟨m,⟨o',es,ep,ho',hd',_⟩,_⟩:=I.loc
 rw [z,ho'] at ho; cases ho; rw [hd'] at hd; cases hd
theorem Inv.funs (I:Inv X pins σ H s):s.heap.FunFrames X.base X.outer:=by
 have all:∀ (l:List Env),(∀ b∈frs l,b∈X.fs)→X.s₀.heap.FunFrames X.base l→s.heap.FunFrames X.base l:=by
  intro l
  induction l with
  | nil => intro _ _; trivial
  | cons env r ih =>
   intro hs hl
   obtain ⟨hk,⟨L,o,hf,hn,ho,hd⟩,hr⟩:=hl
   have hL:L∈X.fs:=hs L (by unfold frs; rw [List.filterMap_cons,hf]; exact List.mem_cons_self)
   obtain ⟨sl,e⟩:=I.base.slot L o ho (I.ok.frf L hL) hL fun z => I.ok.exfs L z hL
   exact ⟨hk,⟨L,_,hf,hn,e,hd⟩,ih (fun b hb => hs b (by unfold frs; rw [List.filterMap_cons,hf]; exact List.mem_cons_of_mem _ hb)) hr⟩
 exact all X.outer (fun _ hb => hb) I.ok.funs
theorem Inv.stack (I:Inv X pins σ H s):s.heap.FunFrames X.base X.stack:=by
 rcases I.ok.stk with e | ⟨e,hf⟩
 ·rw [e]; exact I.funs
 ·rw [e]
  obtain ⟨m,hn,_⟩:=I.loc
  refine .cons (by rw [I.ok.kind]; decide) hf hn ?_ I.funs
  exact Heap.get?_none_of_le (Nat.le_trans I.ok.bsz I.ok.above)
theorem Inv.stkSub (I:Inv X pins σ H s):∀ b∈frs X.stack,b∈X.env.locals::X.fs:=fun b hb => by
 rcases I.ok.stk with e | ⟨e,hf⟩
 ·rw [e] at hb; exact List.mem_cons_of_mem _ hb
 ·rw [e] at hb
  unfold frs at hb
  rw [List.filterMap_cons,hf] at hb
  exact hb
theorem Inv.stkFree (I:Inv X pins σ H s):∀ b∈frs X.stack,H b = none:=fun b hb => by
 rcases List.mem_cons.mp (I.stkSub b hb) with e | hb
 ·rw [e]; exact I.free
 ·obtain ⟨_,o,ho,_⟩:=I.ok.funs.mem hb
  exact I.base.free b o ho (I.ok.frf b hb) fun z => I.ok.exfs b z hb
theorem Inv.step {g':Array GenState} {t':Nat} {d':Drawn} {ch:List Addr} (I:Inv X pins σ H s)
  (hch:∀ b∈ch,(b∈X.ex∨X.s₀.heap.objs.size≤b)∧b≠X.env.locals∧(∀ x c,X.env.cells.lookup x = some c→c≠b)∧∀ p∈X.pn++pins,p.1≠b)
  (keep:∀ b o,b≠X.env.locals→b∉X.fs→b∉ch→s.heap.get? b = some o→H b = none→h'.get? b = some o)
  (slot:∀ b o,b≠X.env.locals→b∈X.fs→b∉ch→s.heap.get? b = some o→H b = none→∃ sl,h'.get? b = some { o with slots:=sl }) (free:∀ b o,b∉ch→s.heap.get? b = some o→H b = none→H' b = none)
  (there:∀ b o,b∉ch→s.heap.get? b = some o→∃ o',h'.get? b = some o')
  (tups:∀ b xs,H b = some (.tup xs)→H' b = some (.tup xs)) (frzs:∀ b o u,H b = some (.frz o u)→H' b = some (.frz o u)) (tbls:∀ b ps,H b = some (.tbl ps)→∃ more,H' b = some (.tbl (ps++more)))
  (ns:∀ m,s.heap.Ns X.env.locals m→h'.Ns X.env.locals m) (hok:HOk X.prog X.w H' h') (hg:AllBare g') :
  Inv X pins σ H' { s with heap:=h',gens:=g',drawn:=d',toks:=t' }:=by
 have neL:∀ b o,X.s₀.heap.get? b = some o→b≠X.env.locals:=fun b o e => Nat.ne_of_lt (Nat.lt_of_lt_of_le (Heap.lt_size e) I.ok.above)
 have neC:∀ b o,X.s₀.heap.get? b = some o→b∉X.ex→b∉ch:=fun b o e hx hb => by
  rcases (hch b hb).1 with z | z
  ·exact hx z
  ·exact absurd (Nat.lt_of_lt_of_le (Heap.lt_size e) z) (Nat.lt_irrefl _)
 have cellK:∀ x c,X.env.cells.lookup x = some c→∀ v,s.heap.IsCell c v→h'.IsCell c v:=fun x c e v ⟨o,ho,hd⟩ => by
  have nch:c∉ch:=fun z => (hch c z).2.2.1 x c e rfl
  by_cases hc:c∈X.fs
  ·obtain ⟨sl,q⟩:=slot c o (I.cne x c e) hc nch ho (I.freeC x c e)
   exact ⟨_,q,hd⟩
  ·exact ⟨o,keep c o (I.cne x c e) hc nch ho (I.freeC x c e),hd⟩
 refine ⟨I.ok,I.os,hg,⟨fun b o e n hb hx => ?_,fun b o e n hb hx => ?_,fun b o e n hx => ?_,fun b o e hx => ?_,fun b xs e => tups b xs (I.base.tups b xs e),fun b o xs e => frzs b o xs (I.base.frzs b o xs e),fun b ps e => ?_⟩,?_,fun x c e => ?_,?_,fun x c e => ?_,fun p hp => ?_,hok,I.len⟩
 ·exact keep b o (neL b o e) hb (neC b o e hx) (I.base.keep b o e n hb hx) (I.base.free b o e n hx)
 ·obtain ⟨sl,e1⟩:=I.base.slot b o e n hb hx
  obtain ⟨sl',e2⟩:=slot b _ (neL b o e) hb (neC b o e hx) e1 (I.base.free b o e n hx)
  exact ⟨sl',e2⟩
 ·obtain ⟨o',e1⟩:=I.base.there b o e hx
  exact free b o' (neC b o e hx) e1 (I.base.free b o e n hx)
 ·obtain ⟨o',e1⟩:=I.base.there b o e hx
  exact there b o' (neC b o e hx) e1
 ·obtain ⟨m1,e1⟩:=I.base.tbls b ps e
  obtain ⟨m2,e2⟩:=tbls b _ e1
  exact ⟨m1++m2,by rw [e2,Array.append_assoc]⟩
 ·obtain ⟨m,hn,hl⟩:=I.loc
  refine ⟨m,ns m hn,fun i x v e1 e2 e3 => ?_⟩
  obtain ⟨u,r,l⟩:=hl i x v e1 e2 e3
  refine ⟨u,r,?_⟩
  rcases l with l | ⟨k,c,e,z⟩
  ·exact .inl l
  ·exact .inr ⟨k,c,e,cellK x c e _ z⟩
 ·obtain ⟨v,z⟩:=I.cell x c e
  exact ⟨v,cellK x c e v z⟩
 ·obtain ⟨m,⟨o,_,_,ho,_⟩,_⟩:=I.loc
  exact free _ o (fun z => (hch _ z).2.1 rfl) ho I.free
 ·obtain ⟨v,o,ho,hd⟩:=I.cell x c e
  exact free c o (fun z => (hch c z).2.2.1 x c e rfl) ho (I.freeC x c e)
 ·obtain ⟨e,n,ne,nf,d⟩:=I.pin p hp
  have nch:p.1∉ch:=fun z => (hch p.1 z).2.2.2 p hp rfl
  exact ⟨keep p.1 p.2 ne nf nch e n,free p.1 p.2 nch e n,ne,nf,d⟩
theorem Inv.un {t':Nat} (I:Inv X pins σ H s) (u:Un X.fs [] H H' s.heap h') (hok:HOk X.prog X.w H' h'):Inv X pins σ H' { s with heap:=h',toks:=t' }:=by
 obtain ⟨m,⟨o,es,ep,ho,r⟩,_⟩:=id I.loc
 obtain ⟨sl,hL⟩:=u.any ho I.free (by simp)
 exact I.step (g':=s.gens) (d':=s.drawn) (ch:=[]) (fun _ z => nomatch z) (fun b o _ hb _ e n => u.keep b o e n hb (by simp)) (fun b o _ hb _ e n => u.slot b o e n hb (by simp)) (fun b o _ e n => u.free b o e n (by simp)) (fun b o _ e => u.there b o e (by simp)) u.tups u.frzs u.tbls (fun m' hm => by
  obtain ⟨o',es',ep',ho',r'⟩:=hm
  rw [ho] at ho'; cases ho'
  exact ⟨_,es',ep',hL,r'⟩) hok I.bare
theorem Inv.call {g':Array GenState} {t':Nat} {d':Drawn} {ch:List Addr} (I:Inv X pins σ H s) (u:Un (frs X.stack) ch H H' s.heap h') (hok:HOk X.prog X.w H' h') (hg:AllBare g')
  (hch:∀ b∈ch,(b∈X.ex∨X.s₀.heap.objs.size≤b)∧b≠X.env.locals∧(∀ x c,X.env.cells.lookup x = some c→c≠b)∧∀ p∈X.pn++pins,p.1≠b) :
  Inv X pins σ H' { s with heap:=h',gens:=g',drawn:=d',toks:=t' }:=by
 obtain ⟨m,⟨o,es,ep,ho,r⟩,_⟩:=id I.loc
 obtain ⟨sl,hL⟩:=u.any ho I.free fun z => (hch _ z).2.1 rfl
 exact I.step (ch:=ch) hch (fun b o hL hb hc e n => u.keep b o e n (fun z => (List.mem_cons.mp (I.stkSub b z)).elim hL hb) hc) (fun b o _ _ hc e n => u.any e n hc) (fun b o hc e n => u.free b o e n hc) (fun b o hc e => u.there b o e hc) u.tups u.frzs u.tbls (fun m' hm => by
  obtain ⟨o',es',ep',ho',r'⟩:=hm
  rw [ho] at ho'; cases ho'
  exact ⟨_,es',ep',hL,r'⟩) hok hg
theorem Inv.turned {t':Nat} {it:Addr} (I:Inv X pins σ H s) (k:∀ b o,b≠it→s.heap.get? b = some o→h'.get? b = some o) (hn:H it = none) (hL:it≠X.env.locals)
  (h1:it∈X.ex∨X.s₀.heap.objs.size≤it) (h2:∀ x c,X.env.cells.lookup x = some c→c≠it) (h3:∀ p∈X.pn++pins,p.1≠it):Inv X pins σ H { s with heap:=h',toks:=t' }:=by
 have nit:∀ b u,H b = some u→b≠it:=fun b u e z => by rw [z,hn] at e; cases e
 refine I.step (g':=s.gens) (d':=s.drawn) (ch:=[it]) (fun b hb => ?_) (fun b o _ _ hc e _ => k b o (fun z => hc (by simp [z])) e) (fun b o _ _ hc e _ => ⟨o.slots,k b o (fun z => hc (by simp [z])) e⟩) (fun _ _ _ _ n => n)
  (fun b o hc e => ⟨o,k b o (fun z => hc (by simp [z])) e⟩) (fun _ _ e => e) (fun _ _ _ e => e) (fun b ps e => ⟨#[],by rw [e]; simp⟩) (fun m hm => ?_) (fun b u e => ?_) I.bare
 ·have e:b = it:=by simpa using hb
  subst e
  exact ⟨h1,hL,h2,h3⟩
 ·obtain ⟨o,es,ep,ho,r⟩:=hm
  exact ⟨o,es,ep,k _ o (Ne.symm hL) ho,r⟩
 ·refine (I.hok b u e).stay (fun c v hc q => k c v ?_ q) (fun _ q => q) fun _ _ q => q
  rcases hc with z | z
  ·rw [z]; exact nit b u e
  ·exact nit c _ z
theorem Inv.tok (I:Inv X pins σ H s) (t:Nat):Inv X pins σ H { s with toks:=t }:=I.un (h':=s.heap) (t':=t) Un.refl I.hok
theorem Inv.kept {t':Nat} (I:Inv X pins σ H s) (k:∀ b u,s.heap.get? b = some u→h'.get? b = some u):Inv X pins σ H { s with heap:=h',toks:=t' }:=I.un (Un.kept k) (I.hok.kept k)
theorem Inv.laid {a:Addr} {o:HO} {t':Nat} (I:Inv X pins σ H s) (k:∀ b u,s.heap.get? b = some u→h'.get? b = some u) (hp:s.heap.objs.size≤a) (new:ObjOk X.prog X.w (upd H a o) h' a o) :
  Inv X pins σ (upd H a o) { s with heap:=h',toks:=t' }:=I.un (Un.laid k hp (I.hok.fresh hp)) (I.hok.laid k hp new)
theorem Inv.write {x e:Addr} {o:HO} {t':Nat} (I:Inv X pins σ H s) (mu:Mut (H x)) (he:e = x∨H e = some (.own x)) (k:∀ b u,b≠e→s.heap.get? b = some u→h'.get? b = some u) (heo:∃ u,h'.get? e = some u)
  (new:ObjOk X.prog X.w (upd H x o) h' x o):Inv X pins σ (upd H x o) { s with heap:=h',toks:=t' }:=I.un (Un.write mu he k heo) (I.hok.write mu he k heo new)
theorem Inv.weak {σ':List (Option V)} (I:Inv X pins σ H s) (hl:σ'.length = σ.length) (w:∀ (i:Nat) v,σ'[i]? = some (some v)→σ[i]? = some (some v)):Inv X pins σ' H s :=
 ⟨I.ok,I.os,I.bare,I.base,let ⟨m,hn,hl'⟩:=I.loc; ⟨m,hn,fun i x v e1 e2 e3 => hl' i x v e1 (w i v e2) e3⟩,I.cell,I.free,I.freeC,I.pin,I.hok,hl.trans I.len⟩
theorem Inv.pins_of {pins':List (Addr×Obj)} (I:Inv X pins σ H s) (h:∀ p∈pins',s.heap.get? p.1 = some p.2∧H p.1 = none∧p.1≠X.env.locals∧p.1∉X.fs∧∀ v,p.2.data≠.cell v):Inv X pins' σ H s :=
 ⟨I.ok,I.os,I.bare,I.base,I.loc,I.cell,I.free,I.freeC,fun p hp => (List.mem_append.mp hp).elim (fun z => I.pin p (List.mem_append_left _ z)) (h p),I.hok,I.len⟩
theorem nodup_ix {N:List Str} (hN:N.Nodup) {i j:Nat} {x:Str} (a:N[i]? = some x) (b:N[j]? = some x):i = j:=by
 obtain ⟨h1,e1⟩:=List.getElem?_eq_some_iff.mp a
 obtain ⟨h2,e2⟩:=List.getElem?_eq_some_iff.mp b
 exact (List.getElem_inj hN).mp (e1.trans e2.symm)
theorem store_ok2 {M:Model} {A:Around} {E:Value→Shared→Prop} {i:Nat} {x:Str} {v:V} {u:Value} {Q:Unit→Shared→Prop} (I:Inv X pins σ H s) (hN:X.N.Nodup) (hi:X.N[i]? = some x) (hx:Loc X.env.scope x) (r:RelV v u)
  (h:∀ s',Inv X pins (σ.set i (some v)) H s'→(∃ a,Heap.SameBut a s.heap s'.heap∧(a = X.env.locals∨X.env.cells.lookup x = some a))→Q () s') (hf:X.fn x = true∨X.env.scope.names.lookup x = some .local:=by first | exact .inl rfl | exact .inr rfl | assumption):wpAny M A (storeName X.env x u) Q E s:=by
 obtain ⟨m,hn,hl⟩:=id I.loc
 have hcls:(X.env.scope.kind == .class || (X.env.scope.kind == .module && X.env.locals != X.env.globals)) = false:=by rw [I.ok.kind]; rfl
 have hiσ:i < σ.length:=by rw [I.len]; exact (List.getElem?_eq_some_iff.mp hi).1
 have cne:=I.cne
 have tracked:∀ {a:Addr} {h':Heap},(∃ o,s.heap.get? a = some o∧H a = none)→Heap.SameBut a s.heap h'→HOk X.prog X.w H h':=fun {a h'} ha hs b ob e => by
  obtain ⟨_,_,hfree⟩:=ha
  refine (I.hok b ob e).stay (fun c w' hc q => (hs.2 c ?_).trans q) (fun _ q => q) fun _ _ q => q
  rintro rfl
  rcases hc with rfl | hc
  ·rw [hfree] at e; cases e
  ·rw [hfree] at hc; cases hc
 rcases hx with hk | hk
 ·refine wpAny_storeName_local hk hn (fun h' hn' hs => ?_) hcls
  obtain ⟨oL,_,_,hoL,_⟩:=id hn
  refine h _ ⟨I.ok,I.os,I.bare,⟨fun b o e n hb hx => ?_,fun b o e n hb hx => ?_,I.base.free,fun b o e hx => ?_,I.base.tups,I.base.frzs,I.base.tbls⟩,⟨_,hn',fun j y v' e1 e2 e3 => ?_⟩,fun y c e => ?_,I.free,I.freeC,fun p hp => ?_,tracked ⟨oL,hoL,I.free⟩ hs,by simpa using I.len⟩ ⟨_,hs,.inl rfl⟩
  ·exact (hs.2 b (Nat.ne_of_lt (Nat.lt_of_lt_of_le (Heap.lt_size e) I.ok.above))).trans (I.base.keep b o e n hb hx)
  ·obtain ⟨sl,e1⟩:=I.base.slot b o e n hb hx
   exact ⟨sl,(hs.2 b (Nat.ne_of_lt (Nat.lt_of_lt_of_le (Heap.lt_size e) I.ok.above))).trans e1⟩
  ·obtain ⟨o',e1⟩:=I.base.there b o e hx
   exact ⟨o',(hs.2 b (Nat.ne_of_lt (Nat.lt_of_lt_of_le (Heap.lt_size e) I.ok.above))).trans e1⟩
  ·by_cases hj:j = i
   ·subst hj
    rw [hi] at e1; cases e1
    rw [List.getElem?_set_self hiσ] at e2
    cases e2
    exact ⟨u,r,.inl ⟨hk,by simp⟩⟩
   ·rw [List.getElem?_set_ne (Ne.symm hj)] at e2
    obtain ⟨u',r',q⟩:=hl j y v' e1 e2 e3
    refine ⟨u',r',?_⟩
    rcases q with ⟨k,e⟩ | ⟨k,c,e,z⟩
    ·refine .inl ⟨k,?_⟩
     have:y≠x:=fun e => hj (nodup_ix hN e1 (e▸hi))
     simp [this,e]
    ·exact .inr ⟨k,c,e,z.sameBut hs (cne y c e)⟩
  ·obtain ⟨w',z⟩:=I.cell y c e
   exact ⟨w',z.sameBut hs (cne y c e)⟩
  ·obtain ⟨e,n,ne,nf,d⟩:=I.pin p hp
   exact ⟨(hs.2 p.1 ne).trans e,n,ne,nf,d⟩
 ·have hfn:X.fn x = true:=by
   rcases hf with z | z
   ·exact z
   ·rw [z] at hk; cases hk
  obtain ⟨c,hc⟩:=I.ok.has x (.inl hk)
  obtain ⟨w',z⟩:=I.cell x c hc
  refine wpAny_storeName_cell I.ok.kind hk hc z (fun h' hc' hs => ?_)
  obtain ⟨oc,hoc,hocd⟩:=id z
  refine h { s with heap:=h' } ⟨I.ok,I.os,I.bare,⟨fun b o e n hb hx => ?_,fun b o e n hb hx => ?_,I.base.free,fun b o e hx => ?_,I.base.tups,I.base.frzs,I.base.tbls⟩,⟨m,hn.sameBut hs (Ne.symm (cne x c hc)),fun j y v' e1 e2 e3 => ?_⟩,fun y c' e => ?_,I.free,I.freeC,fun p hp => ?_,tracked ⟨oc,hoc,I.freeC x c hc⟩ hs,by simpa using I.len⟩ ⟨c,hs,.inr hc⟩
  ·exact (hs.2 b (Nat.ne_of_lt (Nat.lt_of_lt_of_le (Heap.lt_size e) (I.ok.cab x c hfn hc)))).trans (I.base.keep b o e n hb hx)
  ·obtain ⟨sl,e1⟩:=I.base.slot b o e n hb hx
   exact ⟨sl,(hs.2 b (Nat.ne_of_lt (Nat.lt_of_lt_of_le (Heap.lt_size e) (I.ok.cab x c hfn hc)))).trans e1⟩
  ·obtain ⟨o',e1⟩:=I.base.there b o e hx
   exact ⟨o',(hs.2 b (Nat.ne_of_lt (Nat.lt_of_lt_of_le (Heap.lt_size e) (I.ok.cab x c hfn hc)))).trans e1⟩
  ·by_cases hj:j = i
   ·subst hj
    rw [hi] at e1; cases e1
    rw [List.getElem?_set_self hiσ] at e2
    cases e2
    exact ⟨u,r,.inr ⟨.inl hk,c,hc,hc'⟩⟩
   ·rw [List.getElem?_set_ne (Ne.symm hj)] at e2
    obtain ⟨u',r',q⟩:=hl j y v' e1 e2 e3
    refine ⟨u',r',?_⟩
    rcases q with q | ⟨k,c',e,z'⟩
    ·exact .inl q
    ·refine .inr ⟨k,c',e,z'.sameBut hs ?_⟩
     rintro rfl
     exact hj (nodup_ix hN e1 (I.ok.inj _ _ _ e hc▸hi))
  ·by_cases hcc:c' = c
   ·subst hcc; exact ⟨_,hc'⟩
   ·obtain ⟨w2,z2⟩:=I.cell y c' e
    exact ⟨w2,z2.sameBut hs hcc⟩
  ·obtain ⟨e,n,ne,nf,d⟩:=I.pin p hp
   refine ⟨(hs.2 p.1 ?_).trans e,n,ne,nf,d⟩
   intro q
   rw [q,hoc] at e
   have q':oc = p.2:=Option.some.inj e
   exact d w' (by rw [← q']; exact hocd)
theorem store_ok {M:Model} {A:Around} {E:Value→Shared→Prop} {i:Nat} {x:Str} {v:V} {u:Value} {Q:Unit→Shared→Prop} (I:Inv X pins σ H s) (hN:X.N.Nodup) (hi:X.N[i]? = some x) (hx:Loc X.env.scope x) (r:RelV v u)
  (h:∀ s',Inv X pins (σ.set i (some v)) H s'→Q () s') (hf:X.fn x = true∨X.env.scope.names.lookup x = some .local:=by first | exact .inl rfl | exact .inr rfl | assumption):wpAny M A (storeName X.env x u) Q E s :=
 store_ok2 I hN hi hx r (fun s' I' _ => h s' I') hf
theorem Inv.call' {s':Shared} {ch:List Addr} (I:Inv X pins σ H s) (ho:s'.os = s.os) (u:Un (frs X.stack) ch H H' s.heap s'.heap) (hok:HOk X.prog X.w H' s'.heap) (hg:AllBare s'.gens)
  (hch:∀ b∈ch,(b∈X.ex∨X.s₀.heap.objs.size≤b)∧b≠X.env.locals∧(∀ x c,X.env.cells.lookup x = some c→c≠b)∧∀ p∈X.pn++pins,p.1≠b):Inv X pins σ H' s':=by
 obtain ⟨h',g',d',t',o'⟩:=s'
 have e:o' = s.os:=ho
 subst e
 exact I.call (g':=g') (t':=t') (d':=d') u hok hg hch
end
noncomputable abbrev XK:=Value→Option Addr→Hp→Prop
noncomputable abbrev St:=List (Option V)
noncomputable abbrev VK:=V→Hp→Prop
noncomputable abbrev TE:=St→Hp→VK→Prop
noncomputable abbrev TT:=St→Hp→(Bool→Hp→Prop)→Prop
noncomputable abbrev TA:=St→Hp→(List V→Hp→Prop)→Prop
structure Ends where
 nx:St→Hp→Prop
 rt:VK
 bk:St→Hp→Prop:=fun _ _ => False
 ct:St→Hp→Prop:=fun _ _ => False
noncomputable abbrev TS:=Ends→St→Hp→Prop
noncomputable def EP (X:Cx) (pins:List (Addr×Obj)) (σ:St) (Q:VK) (u:Value) (s':Shared):Prop:=∃ v H',Inv X pins σ H' s'∧RelV v u∧Q v H'
noncomputable def TP (X:Cx) (pins:List (Addr×Obj)) (σ:St) (Q:Bool→Hp→Prop) (b:Bool) (s':Shared):Prop:=∃ H',Inv X pins σ H' s'∧Q b H'
noncomputable def AP (X:Cx) (pins:List (Addr×Obj)) (σ:St) (Q:List V→Hp→Prop) (us:List Value) (s':Shared):Prop:=∃ vs H',Inv X pins σ H' s'∧Vals vs us∧Q vs H'
noncomputable def SP (X:Cx) (pins:List (Addr×Obj)) (D:Ends) (f:Flow) (s':Shared):Prop :=
 match f with
 | .next => ∃ σ' H',Inv X pins σ' H' s'∧D.nx σ' H'
 | .brk => ∃ σ' H',Inv X pins σ' H' s'∧D.bk σ' H'
 | .cont => ∃ σ' H',Inv X pins σ' H' s'∧D.ct σ' H'
 | .ret u => ∃ v σ' H',Inv X pins σ' H' s'∧RelV v u∧D.rt v H'
noncomputable def PE (X:Cx) (e:Expr) (t:TE):Prop :=
 ∀ (pins:List (Addr×Obj)) (s:Shared) (σ:St) (H:Hp) (Q:VK),Inv X pins σ H s→t σ H Q→wpAny (model X.prog X.w) X.A (eval e X.env) (EP X pins σ Q) X.xe s
noncomputable def PT (X:Cx) (e:Expr) (t:TT):Prop :=
 ∀ (pins:List (Addr×Obj)) (s:Shared) (σ:St) (H:Hp) (Q:Bool→Hp→Prop),Inv X pins σ H s→t σ H Q→wpAny (model X.prog X.w) X.A (isTrue e X.env (eval e X.env)) (TP X pins σ Q) X.xe s
noncomputable def PW (X:Cx) (e:Expr) (t:TT):Prop :=
 ∀ (whole:Sem Value) (pins:List (Addr×Obj)) (s:Shared) (σ:St) (H:Hp) (Q:Bool→Hp→Prop),Inv X pins σ H s→t σ H Q→wpAny (model X.prog X.w) X.A (isTrue e X.env whole) (TP X pins σ Q) X.xe s
theorem PW.pt {X:Cx} {e:Expr} {t:TT} (h:PW X e t):PT X e t:=h _
noncomputable def PA (X:Cx) (es:List Expr) (t:TA):Prop :=
 ∀ (pos:Pos) (pins:List (Addr×Obj)) (s:Shared) (σ:St) (H:Hp) (Q:List V→Hp→Prop),Inv X pins σ H s→t σ H Q→wpAny (model X.prog X.w) X.A (spliced (backTo pos (starEach es X.env))) (AP X pins σ Q) X.xe s
noncomputable def PS (X:Cx) (st:Stmt) (t:TS):Prop :=
 ∀ (pins:List (Addr×Obj)) (s:Shared) (σ:St) (H:Hp) (D:Ends),Inv X pins σ H s→t D σ H→wpAny (model X.prog X.w) X.A (exec st X.env) (SP X pins D) X.xe s
noncomputable def PSs (X:Cx) (st:List Stmt) (t:TS):Prop :=
 ∀ (pins:List (Addr×Obj)) (s:Shared) (σ:St) (H:Hp) (D:Ends),Inv X pins σ H s→t D σ H→wpAny (model X.prog X.w) X.A (execs st X.env) (SP X pins D) X.xe s
theorem thn {α:Type} {t:Sem α} {Q Q':α→Shared→Prop} {M:Model} {A:Around} {E:Value→Shared→Prop} {s:Shared} (h:wpAny M A t Q E s) (hQ:∀ a s,Q a s→Q' a s):wpAny M A t Q' E s:=wpAny_mono h hQ fun _ _ x => x
section
variable {X:Cx}
noncomputable def tVar (i:Nat):TE:=fun σ H Q => ∃ v,σ[i]? = some (some v)∧Q v H
noncomputable def tC (v:V):TE:=fun _ H Q => Q v H
theorem pe_var {i:Nat} {x:Str} {pos:Pos} (hN:X.N[i]? = some x) (hv:Vis X.env.scope x) (hd:(x == ("__debug__" : Str)) = false:=by decide) (hcd:(x == ("__classdict__" : Str)) = false:=by decide):PE X (.Name x pos) (tVar i):=by
 intro pins s σ H Q I h
 obtain ⟨v,e,h⟩:=h
 obtain ⟨m,hn,hl⟩:=I.loc
 obtain ⟨u,r,l⟩:=hl i x v hN e hv
 have fin:EP X pins σ Q u s:=⟨v,H,I,r,h⟩
 rcases l with ⟨hk,hm⟩ | ⟨hk,c,hc,hcell⟩
 ·exact wpAny_Name (wpAny_loadName_local I.ok.kind hk hn hm fin) hd
 ·rcases hk with hk | hk
  ·exact wpAny_Name (wpAny_loadName_cell I.ok.kind hk hc hcell fin) hd
  ·exact wpAny_Name (wpAny_loadName_free I.ok.kind hk hc hcell fin hcd) hd
theorem pe_int {i j pos}:PE X (.Constant (.int i) j pos) (tC (.int i)):=fun _ _ _ H _ I h => wpAny_Constant_int ⟨.int i,H,I.tok _,⟨_,rfl⟩,h⟩
theorem pe_bl {b j pos}:PE X (.Constant (.bool b) j pos) (tC (.bl b)):=fun _ _ _ H _ I h => Constant_bool ⟨.bl b,H,I,rfl,h⟩
theorem pe_non {j pos}:PE X (.Constant .none j pos) (tC .non):=fun _ _ _ H _ I h => Constant_none ⟨.non,H,I,rfl,h⟩
theorem pe_str {x j pos}:PE X (.Constant (.str x) j pos) (tC (.str x)):=fun _ _ _ H _ I h => Calls.Constant_str ⟨.str x,H,I.tok _,⟨_,rfl⟩,h⟩
noncomputable def Gl (X:Cx) (x:Str):Prop:=X.env.kindOf x = some .globalImplicit
theorem ld_glob {E:Value→Shared→Prop} {pins:List (Addr×Obj)} {s:Shared} {σ:St} {H:Hp} {x:Str} {u:Value} {pos:Pos} {Q:Value→Shared→Prop} (I:Inv X pins σ H s) (hg:Gl X x) (hm:X.mg x = some u) (h:Q u s)
  (hd:(x == ("__debug__" : Str)) = false:=by decide):wpAny (model X.prog X.w) X.A (eval (.Name x pos) X.env) Q E s :=
 Calls.Name_function_global I.ok.kind hg (Calls.loadGlobal_global (by rw [I.ok.glob]; exact I.mod.glob.keeps I.bk) hm h) hd
theorem ld_blt {E:Value→Shared→Prop} {pins:List (Addr×Obj)} {s:Shared} {σ:St} {H:Hp} {x:Str} {u:Value} {pos:Pos} {Q:Value→Shared→Prop} (I:Inv X pins σ H s) (hg:Gl X x) (hm:X.mg x = none) (hv:bootBuiltins x = some u) (h:Q u s)
  (hn:x ≠ "__name__":=by decide) (hd:(x == ("__debug__" : Str)) = false:=by decide):wpAny (model X.prog X.w) X.A (eval (.Name x pos) X.env) Q E s:=by
 obtain ⟨mb,h1,h2⟩:=I.mod.blt
 exact Calls.Name_function_global I.ok.kind hg (Calls.loadGlobal_builtin (by rw [I.ok.glob]; exact I.mod.glob.keeps I.bk) hm (by rw [I.ok.blt]; exact h1.keeps I.bk) ((h2 x hn).trans hv) h) hd
theorem pe_glob {x:Str} {v:V} {u:Value} {pos:Pos} (hg:Gl X x) (hm:X.mg x = some u) (r:RelV v u) (hd:(x == ("__debug__" : Str)) = false:=by decide):PE X (.Name x pos) (tC v) :=
 fun _ _ _ H _ I h => ld_glob I hg hm ⟨v,H,I,r,h⟩ hd
theorem pe_bltn {x:Str} {v:V} {u:Value} {pos:Pos} (hg:Gl X x) (hm:X.mg x = none) (hv:bootBuiltins x = some u) (r:RelV v u) (hn:x ≠ "__name__":=by decide) (hd:(x == ("__debug__" : Str)) = false:=by decide):PE X (.Name x pos) (tC v) :=
 fun _ _ _ H _ I h => ld_blt I hg hm hv ⟨v,H,I,r,h⟩ hn hd
variable {a b:Expr} {ta tb:TE} {pos:Pos}
noncomputable def tB (t:TE):TT:=fun σ H Q => t σ H fun x H1 => ∃ c,x = .bl c∧Q c H1
theorem pt_val {e:Expr} {t:TE} (h:PE X e t) (he:∀ whole,isTrue e X.env whole = (do let v ← whole; standAt e.pos; holding [v] (truthy v)):=by intro _; rfl):PT X e (tB t):=by
 intro pins s σ H Q I hw
 refine isTrue_plain (thn (h pins s σ H _ I hw) fun v s1 zz => ?_) (he _)
 obtain ⟨x,H1,I1,r1,q1⟩:=zz
 obtain ⟨d,rfl,q⟩:=q1
 cases r1
 exact wpAny_truthy_bool ⟨H1,I1,q⟩
variable {tA tB':TT} {rest:List Expr}
noncomputable def tAnd (t u:TT):TT:=fun σ H Q => t σ H fun c H1 => if c = true then u σ H1 Q else Q false H1
noncomputable def tOr (t u:TT):TT:=fun σ H Q => t σ H fun c H1 => if c = true then Q true H1 else u σ H1 Q
noncomputable def tNot (t:TT):TT:=fun σ H Q => t σ H fun c H1 => Q (!c) H1
theorem pw_and1 (ha:PT X a tA):PW X (.BoolOp .And [a] pos) tA:=by
 intro wh pins s σ H Q I h
 refine isTrue_and (thn (ha pins s σ H Q I h) fun c s1 e => ?_)
 cases c with
 | true => exact isTrue_and_nil e
 | false => exact e
theorem pw_or1 (ha:PT X a tA):PW X (.BoolOp .Or [a] pos) tA:=by
 intro wh pins s σ H Q I h
 refine isTrue_or (thn (ha pins s σ H Q I h) fun c s1 e => ?_)
 cases c with
 | false => exact isTrue_or_nil e
 | true => exact e
theorem pw_and (ha:PT X a tA) (hb:PW X (.BoolOp .And (b::rest) pos) tB'):PW X (.BoolOp .And (a::b::rest) pos) (tAnd tA tB'):=by
 intro wh pins s σ H Q I h
 refine isTrue_and (thn (ha pins s σ H _ I h) fun c s1 zz => ?_)
 obtain ⟨H1,I1,q1⟩:=zz
 cases c with
 | true => exact hb wh pins s1 σ H1 Q I1 q1
 | false => exact ⟨H1,I1,q1⟩
theorem pw_or (ha:PT X a tA) (hb:PW X (.BoolOp .Or (b::rest) pos) tB'):PW X (.BoolOp .Or (a::b::rest) pos) (tOr tA tB'):=by
 intro wh pins s σ H Q I h
 refine isTrue_or (thn (ha pins s σ H _ I h) fun c s1 zz => ?_)
 obtain ⟨H1,I1,q1⟩:=zz
 cases c with
 | true => exact ⟨H1,I1,q1⟩
 | false => exact hb wh pins s1 σ H1 Q I1 q1
theorem pt_not (ha:PT X a tA):PT X (.UnaryOp .Not a pos) (tNot tA):=by
 intro pins s σ H Q I h
 exact isTrue_not (ha pins s σ H (fun c H1 => Q (!c) H1) I h)
noncomputable def tAndV (ta tb:TE):TE:=fun σ H Q => ta σ H fun x H1 => ∃ c,x = .bl c∧if c = true then tb σ H1 Q else Q (.bl false) H1
noncomputable def tNotV (ta:TE):TE:=fun σ H Q => ta σ H fun x H1 => ∃ c,x = .bl c∧Q (.bl (!c)) H1
theorem pe_one {op} {t:TE} (h:PE X a t):PE X (.BoolOp op [a] pos) t:=fun pins s σ H Q I hw => BoolOp_one (h pins s σ H Q I hw)
theorem pe_and (ha:PE X a ta) (hb:PE X (.BoolOp .And (b::rest) pos) tb):PE X (.BoolOp .And (a::b::rest) pos) (tAndV ta tb):=by
 intro pins s σ H Q I h
 refine BoolOp_and (thn (ha pins s σ H _ I h) fun v s1 zz => ?_)
 obtain ⟨x,H1,I1,r1,q1⟩:=zz
 obtain ⟨c,rfl,q1⟩:=q1
 cases r1
 refine wpAny_truthy_bool ?_
 cases c with
 | true => exact hb pins s1 σ H1 Q I1 q1
 | false => exact ⟨.bl false,H1,I1,rfl,q1⟩
theorem pe_not (ha:PE X a ta):PE X (.UnaryOp .Not a pos) (tNotV ta):=by
 intro pins s σ H Q I h
 refine UnaryOp_ (thn (ha pins s σ H _ I h) fun v s1 zz => ?_)
 obtain ⟨x,H1,I1,r1,q1⟩:=zz
 obtain ⟨c,rfl,q1⟩:=q1
 cases r1
 exact not_of (wpAny_truthy_bool ⟨.bl (!c),H1,I1,rfl,q1⟩)
end
noncomputable def SqL (K:PySem.W.Frag) (H:Hp) (a:Addr) (xs:List V):Prop :=
 Rd H a (.lst xs) ∨
  ∃ (o:Obj) (its:Array Value) (n:Nat),K.lookup a = some o∧o.cls = .type "list"∧o.dict = none∧o.data = .seq its n∧its.size≤sizeLine∧Vals xs its.toList
noncomputable def SqT (K:PySem.W.Frag) (H:Hp) (a:Addr) (xs:List V):Prop :=
 Rd H a (.tup xs) ∨
  ∃ (o:Obj) (its:Array Value) (n:Nat),K.lookup a = some o∧o.cls = .type "tuple"∧o.data = .seq its n∧its.size≤sizeLine∧Vals xs its.toList
noncomputable def absV:Value→Option V
 | .none => some .non
 | .bool b => some (.bl b)
 | .int i _ => some (.int i)
 | .str x _ => some (.str x)
 | .bytes b _ => some (.byt b)
 | .float b _ => some (.flt b)
 | .ref a => some (.ref a)
 | .type n => some (.ty n)
 | _ => none
theorem RelV.abs {x:V} {u:Value} (r:RelV x u):absV u = some x:=by
 cases x with
 | non => cases r; rfl
 | bl _ => cases r; rfl
 | int _ => obtain ⟨t,rfl⟩:=r; rfl
 | str _ => obtain ⟨t,rfl⟩:=r; rfl
 | byt _ => obtain ⟨t,rfl⟩:=r; rfl
 | flt _ => obtain ⟨t,rfl⟩:=r; rfl
 | ref _ => cases r; rfl
 | ty _ => cases r; rfl
theorem RelV.inj {x y:V} {u:Value} (r:RelV x u) (q:RelV y u):x = y:=Option.some.inj (r.abs.symm.trans q.abs)
theorem Vals.inj:∀ {xs ys:List V} {us:List Value},Vals xs us→Vals ys us→xs = ys
 | _,_,_,.nil,.nil => rfl
 | _,_,_,.cons r t,.cons r' t' => by rw [r.inj r',Vals.inj t t']
section
variable {X:Cx} {pins:List (Addr×Obj)} {σ:St} {H:Hp} {s:Shared} {a:Addr} {xs ys:List V}
theorem SqL.of {K:PySem.W.Frag} (h:H a = some (.lst xs)):SqL K H a xs:=.inl (.inl h)
theorem SqT.of {K:PySem.W.Frag} (h:H a = some (.tup xs)):SqT K H a xs:=.inl (.inl h)
theorem Inv.list (I:Inv X pins σ H s) (h:SqL X.K H a xs):∃ its:List Value,Vals xs its∧PlainL s.heap a its.toArray∧xs.length≤sizeLine:=by
 rcases h with h | ⟨o,its,n,hk,hc,hd,hs,hz,r⟩
 ·obtain ⟨z,its,n,r,e⟩:=h.ok I.hok
  exact ⟨its,r,⟨_,n,e,rfl,rfl,rfl⟩,z⟩
 ·refine ⟨its.toList,r,⟨o,n,I.kIn a o hk,hc,hd,by simpa using hs⟩,?_⟩
  have e:=r.length
  simp only [Array.length_toList] at e
  omega
theorem Inv.tuple (I:Inv X pins σ H s) (h:SqT X.K H a xs):∃ its:List Value,Vals xs its∧IsTup s.heap a its.toArray∧xs.length≤sizeLine:=by
 rcases h with h | ⟨o,its,n,hk,hc,hs,hz,r⟩
 ·obtain ⟨z,its,r,p⟩:=h.ok I.hok
  exact ⟨its,r,p.tup,z⟩
 ·refine ⟨its.toList,r,⟨o,I.kIn a o hk,hc,n,by simpa using hs⟩,?_⟩
  have e:=r.length
  simp only [Array.length_toList] at e
  omega
theorem Inv.list_inj (I:Inv X pins σ H s) (h:SqL X.K H a xs) (h':SqL X.K H a ys):xs = ys:=by
 obtain ⟨its,r,⟨o,n,e,_,_,d⟩,_⟩:=I.list h
 obtain ⟨its',r',⟨o',n',e',_,_,d'⟩,_⟩:=I.list h'
 rw [e] at e'; cases e'
 rw [d] at d'
 injection d' with d1 _
 have:its = its':=by simpa using congrArg Array.toList d1
 subst this
 exact r.inj r'
theorem Inv.tuple_inj (I:Inv X pins σ H s) (h:SqT X.K H a xs) (h':SqT X.K H a ys):xs = ys:=by
 obtain ⟨its,r,⟨o,e,_,n,d⟩,_⟩:=I.tuple h
 obtain ⟨its',r',⟨o',e',_,n',d'⟩,_⟩:=I.tuple h'
 rw [e] at e'; cases e'
 rw [d] at d'
 injection d' with d1 _
 have:its = its':=by simpa using congrArg Array.toList d1
 subst this
 exact r.inj r'
end
noncomputable abbrev Cx.wish (X:Cx) (E:Value→Shared→Prop):Cx:={ X with xe:=E }
noncomputable abbrev Cx.nox (X:Cx):Cx:=X.wish fun _ _ => False
theorem Cx.Ok.wish {X:Cx} (ok:X.Ok) (E:Value→Shared→Prop):(X.wish E).Ok :=
 ⟨ok.mod,ok.kind,ok.glob,ok.blt,ok.above,ok.inj,ok.has,ok.cab,ok.hd,ok.frames,ok.stk,ok.exf,ok.bs,ok.bsz,ok.noex,ok.exfs,ok.funs,ok.frf⟩
theorem Cx.Ok.unwish {X:Cx} {E:Value→Shared→Prop} (ok:(X.wish E).Ok):X.Ok :=
 ⟨ok.mod,ok.kind,ok.glob,ok.blt,ok.above,ok.inj,ok.has,ok.cab,ok.hd,ok.frames,ok.stk,ok.exf,ok.bs,ok.bsz,ok.noex,ok.exfs,ok.funs,ok.frf⟩
section
variable {X:Cx} {pins:List (Addr×Obj)} {σ:St} {H:Hp} {s:Shared} {E:Value→Shared→Prop}
theorem Inv.wish (I:Inv X pins σ H s) (E:Value→Shared→Prop):Inv (X.wish E) pins σ H s:=⟨I.ok.wish E,I.os,I.bare,I.base,I.loc,I.cell,I.free,I.freeC,I.pin,I.hok,I.len⟩
theorem Inv.unwish (I:Inv (X.wish E) pins σ H s):Inv X pins σ H s:=⟨I.ok.unwish,I.os,I.bare,I.base,I.loc,I.cell,I.free,I.freeC,I.pin,I.hok,I.len⟩
theorem SP.unwish {D:Ends} {f:Flow} {s':Shared} (h:SP (X.wish E) pins D f s'):SP X pins D f s':=by
 cases f with
 | next => obtain ⟨σ',H',I,q⟩:=h; exact ⟨σ',H',I.unwish,q⟩
 | brk => obtain ⟨σ',H',I,q⟩:=h; exact ⟨σ',H',I.unwish,q⟩
 | cont => obtain ⟨σ',H',I,q⟩:=h; exact ⟨σ',H',I.unwish,q⟩
 | ret u => obtain ⟨v,σ',H',I,r,q⟩:=h; exact ⟨v,σ',H',I.unwish,r,q⟩
theorem PT.nox {e:Expr} {t:TT} (h:PT X.nox e t):PT X e t:=fun pins s σ H Q I hw =>
 wpAny_mono (h pins s σ H Q (I.wish _) hw) (fun _ _ ⟨H',I',q⟩ => ⟨H',I'.unwish,q⟩) fun _ _ z => False.elim z
theorem PSs.nox {st:List Stmt} {t:TS} (h:PSs X.nox st t):PSs X st t:=fun pins s σ H D I hw =>
 wpAny_mono (h pins s σ H D (I.wish _) hw) (fun _ _ q => q.unwish) fun _ _ z => False.elim z
end
section
variable {X:Cx} {st:Stmt} {rest:List Stmt} {t u:TS} {e:Expr} {te:TE} {pos:Pos}
noncomputable def tNext:TS:=fun D σ H => D.nx σ H
noncomputable def tSeq (t u:TS):TS:=fun D σ H => t { D with nx:=u D } σ H
theorem pss_nil:PSs X [] tNext:=fun _ _ σ H _ I h => wpAny_execs_nil ⟨σ,H,I,h⟩
theorem pss_cons (h1:PS X st t) (h2:PSs X rest u):PSs X (st::rest) (tSeq t u):=by
 intro pins s σ H D I h
 refine wpAny_execs_cons (thn (h1 pins s σ H { D with nx:=u D } I h) fun f s1 q => ?_)
 cases f with
 | next =>
  obtain ⟨σ',H',I',q⟩:=q
  exact h2 pins s1 σ' H' D I' q
 | ret v => exact q
 | brk => exact q
 | cont => exact q
theorem pss_one (h1:PS X st t):PSs X [st] t:=by
 intro pins s σ H D I h
 refine wpAny_execs_cons (thn (h1 pins s σ H D I h) fun f s1 q => ?_)
 cases f with
 | next => exact wpAny_execs_nil q
 | ret v => exact q
 | brk => exact q
 | cont => exact q
theorem Inv.quiet {pins:List (Addr×Obj)} {σ:St} {H:Hp} {s:Shared} (I:Inv X pins σ H s):interactive X.env = false:=by simp [interactive,I.ok.kind]
noncomputable def tDrop (te:TE):TS:=fun D σ H => te σ H fun _ H1 => D.nx σ H1
theorem ps_expr (he:PE X e te) (hs:swapsWith e none pos.line X.env = pure false:=by rfl):PS X (.Expr e pos) (tDrop te):=by
 intro pins s σ H D I h
 exact wpAny_Expr_any (thn (he pins s σ H _ I h) fun v s1 ⟨x,H1,I1,r1,q1⟩ => ⟨σ,H1,I1,q1⟩) I.quiet hs
noncomputable def tRet (te:TE):TS:=fun D σ H => te σ H D.rt
theorem ps_ret (he:PE X e te):PS X (.Return (some e) pos) (tRet te):=by
 intro pins s σ H D I h
 exact wpAny_Return_some (thn (he pins s σ H _ I h) fun v s1 ⟨x,H1,I1,r1,q1⟩ => ⟨x,σ,H1,I1,r1,q1⟩)
noncomputable def tIfS (c:TT) (t u:TS):TS:=fun D σ H => c σ H fun b H1 => if b = true then t D σ H1 else u D σ H1
theorem ps_if {c:Expr} {a b:List Stmt} {tc:TT} (hc:PT X c tc) (ha:PSs X a t) (hb:PSs X b u):PS X (.If c a b pos) (tIfS tc t u):=by
 intro pins s σ H D I h
 refine wpAny_If (thn (hc pins s σ H _ I h) fun d s1 zz => ?_)
 obtain ⟨H1,I1,q1⟩:=zz
 cases d with
 | true => exact ha pins s1 σ H1 D I1 q1
 | false => exact hb pins s1 σ H1 D I1 q1
end
noncomputable abbrev TG:=V→St→Hp→(St→Hp→Prop)→Prop
noncomputable abbrev TGs:=List V→St→Hp→(St→Hp→Prop)→Prop
noncomputable def PG (X:Cx) (target:Expr) (t:TG):Prop :=
 ∀ (pins:List (Addr×Obj)) (s:Shared) (σ:St) (H:Hp) (v:V) (u:Value) (Q:St→Hp→Prop),Inv X pins σ H s→RelV v u→t v σ H Q →
  wpAny (model X.prog X.w) X.A (assign target X.env u) (fun _ s' => ∃ σ' H',Inv X pins σ' H' s'∧Q σ' H') X.xe s
noncomputable def PGs (X:Cx) (ts:List Expr) (t:TGs):Prop :=
 ∀ (pins:List (Addr×Obj)) (s:Shared) (σ:St) (H:Hp) (vs:List V) (us:List Value) (Q:St→Hp→Prop),Inv X pins σ H s→Vals vs us→t vs σ H Q →
  wpAny (model X.prog X.w) X.A (assignInOrder ((assignEach ts X.env).map (·.2)) us) (fun _ s' => ∃ σ' H',Inv X pins σ' H' s'∧Q σ' H') X.xe s
noncomputable abbrev TSet:=V→V→V→Hp→(Hp→Prop)→Prop
noncomputable def PSet (X:Cx) (t:TSet):Prop :=
 ∀ (pins:List (Addr×Obj)) (s:Shared) (σ:St) (H:Hp) (o i v:V) (ov iv u:Value) (Q:Hp→Prop),Inv X pins σ H s→RelV o ov→RelV i iv→RelV v u→t o i v H Q →
  wpAny (model X.prog X.w) X.A (setItem ov iv u) (fun _ s' => ∃ H',Inv X pins σ H' s'∧Q H') X.xe s
section
variable {X:Cx} {pos:Pos}
noncomputable def gName (i:Nat):TG:=fun v σ H Q => Q (σ.set i (some v)) H
theorem pg_name {i:Nat} {x:Str} (hN:X.N.Nodup) (hi:X.N[i]? = some x) (hx:Loc X.env.scope x) (hf:X.fn x = true∨X.env.scope.names.lookup x = some .local:=by first | exact .inl rfl | exact .inr rfl | assumption):PG X (.Name x pos) (gName i):=by
 intro pins s σ H v u Q I r h
 exact wpAny_assign_Name (store_ok I hN hi hx r (fun s' I' => ⟨_,H,I',h⟩) hf)
noncomputable def gNil:TGs:=fun vs σ H Q => vs = []∧Q σ H
noncomputable def gCons (t:TG) (u:TGs):TGs:=fun vs σ H Q => ∃ v r,vs = v::r∧t v σ H fun σ' H' => u r σ' H' Q
theorem pgs_nil:PGs X [] gNil:=by
 intro pins s σ H vs us Q I r h
 obtain ⟨e,h⟩:=h
 subst e
 cases r
 exact assignInOrder_nil ⟨σ,H,I,h⟩
theorem pgs_cons {e:Expr} {es:List Expr} {t:TG} {u:TGs} (h1:PG X e t) (h2:PGs X es u)
  (hs:(assignEach (e::es) X.env).map (·.2) = assign e X.env::(assignEach es X.env).map (·.2):=by rfl):PGs X (e::es) (gCons t u):=by
 intro pins s σ H vs us Q I r h
 obtain ⟨v,vr,e1,h⟩:=h
 subst e1
 cases r with
 | cons r rr =>
  rw [hs]
  refine assignInOrder_cons (thn (h1 pins s σ H _ _ _ I r h) fun _ s1 zz => ?_)
  obtain ⟨σ1,H1,I1,q1⟩:=zz
  exact h2 pins s1 σ1 H1 _ _ Q I1 rr q1
noncomputable def gTup (K:PySem.W.Frag) (n:Nat) (t:TGs):TG:=fun v σ H Q => ∃ a xs,v = .ref a∧SqT K H a xs∧xs.length = n∧t xs σ H Q
theorem pg_tup {es:List Expr} {k:Nat} {t:TGs} {n:Nat} (hc:X.calm = true) (h:PGs X es t)
  (hn:(assignEach es X.env).length = n:=by rfl) (hst:(assignEach es X.env).findIdx? (·.1) = none:=by rfl):PG X (.Tuple es k pos) (gTup X.K n t):=by
 intro pins s σ H v u Q I r hw
 obtain ⟨a,xs,e1,hq,hl,hw⟩:=hw
 subst e1
 cases r
 obtain ⟨its,rv,ht,hz⟩:=I.tuple hq
 refine assign_Tuple_tuple (I.ok.hd hc) ht (by simp [hn,← hl,rv.length]) hst fun h' hx => ?_
 have I1:Inv X pins σ H { s with heap:=h' }:=I.kept (t':=s.toks) fun b o e => hx b o (Nat.ne_of_lt (Heap.lt_size e)) e
 exact h pins _ σ H xs _ Q I1 (by simpa using rv) hw
noncomputable def gSub (to ti:TE) (t:TSet):TG:=fun v σ H Q => to σ H fun o H1 => ti σ H1 fun i H2 => t o i v H2 fun H3 => Q σ H3
theorem pg_sub {o i:Expr} {to ti:TE} {t:TSet} (ho:PE X o to) (hi:PE X i ti) (hs:PSet X t)
  (ha:∀ v,assign (.Subscript o i pos) X.env v = (do
   let ov ← holding [v] (eval o X.env)
   let iv ← holding [v,ov] (eval i X.env)
   standAt pos
   holding [v,ov,iv] (setItem ov iv v)
   release [v,ov,iv] []):=by intro _; rfl):PG X (.Subscript o i pos) (gSub to ti t):=by
 intro pins s σ H v u Q I r h
 rw [ha]
 refine wpAny_bind (wpAny_holding (thn (ho pins s σ H _ I h) fun ov s1 zz => ?_))
 obtain ⟨x,H1,I1,r1,q1⟩:=zz
 refine wpAny_bind (wpAny_holding (thn (hi pins s1 σ H1 _ I1 q1) fun iv s2 zz => ?_))
 obtain ⟨y,H2,I2,r2,q2⟩:=zz
 refine wpAny_bind (wpAny_standAt (wpAny_bind (wpAny_holding (thn (hs pins s2 σ H2 x y v ov iv u _ I2 r1 r2 r q2) fun _ s3 zz => ?_))))
 obtain ⟨H3,I3,q3⟩:=zz
 exact wpAny_release ⟨σ,H3,I3,q3⟩
noncomputable def tAsg (te:TE) (g:TG):TS:=fun D σ H => te σ H fun x H1 => g x σ H1 D.nx
theorem ps_asg {tg e:Expr} {te:TE} {g:TG} (he:PE X e te) (hg:PG X tg g) (hs:swapsWithSole [tg] e pos.line X.env = pure false:=by rfl) (hw:swappedStores [tg] e X.env = pure none:=by rfl)
  (h1:(assignEach [tg] X.env).map (·.2) = [assign tg X.env]:=by rfl):PS X (.Assign [tg] e pos) (tAsg te g):=by
 intro pins s σ H D I h
 refine wpAny_Assign_stores (thn (he pins s σ H _ I h) fun v s1 zz => ?_) hs hw
 obtain ⟨x,H1,I1,r1,q1⟩:=zz
 rw [h1]
 exact thn (hg pins s1 σ H1 x v _ I1 r1 q1) fun _ s2 q => q
theorem ps_set {i:Nat} {x:Str} {e:Expr} {te:TE} {pos':Pos} (hN:X.N.Nodup) (hi:X.N[i]? = some x) (hx:Loc X.env.scope x) (he:PE X e te) (hs:swapsWith e (some (.Name x pos')) pos.line X.env = pure false:=by rfl) (hf:X.fn x = true∨X.env.scope.names.lookup x = some .local:=by first | exact .inl rfl | exact .inr rfl | assumption) :
  PS X (.Assign [.Name x pos'] e pos) (tAsg te (gName i)):=by
 intro pins s σ H D I h
 refine wpAny_Assign_Name (thn (he pins s σ H _ I h) fun v s1 zz => ?_) hs
 obtain ⟨y,H1,I1,r1,q1⟩:=zz
 exact store_ok I1 hN hi hx r1 (fun s2 I2 => ⟨_,H1,I2,q1⟩) hf
end
section
variable {X:Cx} {pos:Pos}
noncomputable def tWhile (c:TT) (tb:TS):TS:=fun D σ H => ∃ W:Nat→St→Hp→Prop,(∃ m,W m σ H)∧∀ m σ H,W m σ H →
 c σ H fun b H1 => if b = true then ∃ N:St→Hp→Prop,(∀ σ' H',N σ' H'→∃ m',m' < m∧W m' σ' H')∧tb { D with nx:=N,ct:=N,bk:=D.nx } σ H1 else D.nx σ H1
theorem ps_while {c:Expr} {body:List Stmt} {tc:TT} {tb:TS} (hp:PassesOwn (model X.prog X.w) X.A X.env X.xe) (hc:PT X c tc) (hb:PSs X body tb):PS X (.While c body [] pos) (tWhile tc tb):=by
 intro pins s σ H D I h
 obtain ⟨W,⟨m0,w0⟩,turn⟩:=h
 refine wpAny_While (codeAny_whileLoop (fun n s' => ∃ σ' H',Inv X pins σ' H' s'∧W n σ' H') ?_ m0 ⟨σ,H,I,w0⟩)
 rintro n s1 ⟨σ1,H1,I1,w1⟩
 refine wpAny_passesOwn hp (thn (hc pins s1 σ1 H1 _ I1 (turn n σ1 H1 w1)) fun b s2 zz => ?_)
 obtain ⟨H2,I2,q2⟩:=zz
 cases b with
 | true =>
  obtain ⟨N,hN,q2⟩:=q2
  rw [if_pos rfl]
  refine wpAny_passesOwn hp (thn (hb pins s2 σ1 H2 _ I2 q2) fun f s3 q3 => ?_)
  cases f with
  | next =>
   obtain ⟨σ3,H3,I3,n3⟩:=q3
   obtain ⟨m',hm,w3⟩:=hN σ3 H3 n3
   exact ⟨m',hm,σ3,H3,I3,w3⟩
  | cont =>
   obtain ⟨σ3,H3,I3,n3⟩:=q3
   obtain ⟨m',hm,w3⟩:=hN σ3 H3 n3
   exact ⟨m',hm,σ3,H3,I3,w3⟩
  | brk => exact q3
  | ret v => exact q3
 | false =>
  rw [if_neg Bool.false_ne_true]
  exact wpAny_execs_nil ⟨σ1,H2,I2,q2⟩
end
structure It where
 go:Nat→Hp→Prop
 yld:Nat→Hp→V→Hp→Prop
 stop:Nat→Hp→Prop
noncomputable def FpOk (X:Cx) (pins:List (Addr×Obj)) (H:Hp) (b:Addr):Prop :=
 H b = none∧b≠X.env.locals∧b∉X.fs∧(b∈X.ex∨X.s₀.heap.objs.size≤b)∧(∀ x c,X.env.cells.lookup x = some c→c≠b)∧∀ p∈X.pn++pins,p.1≠b
theorem Inv.fpOk {X:Cx} {pins:List (Addr×Obj)} {σ:St} {H H':Hp} {s:Shared} {b:Addr} (I:Inv X pins σ H s) (hb:s.heap.objs.size≤b) (hn:H' b = none):FpOk X pins H' b:=by
 refine ⟨hn,Nat.ne_of_gt (Nat.lt_of_lt_of_le I.lt hb),I.nofs hb,.inr (Nat.le_trans I.sz hb),fun x c e z => ?_,fun p hp z => ?_⟩
 ·obtain ⟨v,q⟩:=I.cell x c e
  exact absurd (Nat.lt_of_lt_of_le q.lt (by rw [z]; exact hb)) (Nat.lt_irrefl _)
 ·exact absurd (Nat.lt_of_lt_of_le (Heap.lt_size (I.pin p hp).1) (by rw [z]; exact hb)) (Nat.lt_irrefl _)
structure Turn (P:Program) (w:World) (K:PySem.W.Frag) (tg:Expr) (J:It) (fp:List Addr) (it:Addr) (tn:Nat→Heap→Prop):Prop where
 mem:it∈fp
 obj:∀ i h,tn i h→∀ b∈fp,∃ o,h.get? b = some o∧∀ v,o.data≠.cell v
 keep:∀ i h h',tn i h→(∀ b∈fp,∀ o,h.get? b = some o→h'.get? b = some o)→tn i h'
 item:∀ (X:Cx),X.prog = P→X.w = w→X.K = K→X.calm = true→∀ (i:Nat) (pins:List (Addr×Obj)) (s:Shared) (σ:St) (H:Hp) (E:Value→Shared→Prop),Inv X pins σ H s→(∀ b∈fp,FpOk X pins H b)→tn i s.heap→J.go i H →
  wpAny (model P w) X.A (pyNext (.ref it)) (fun r s1 => ∃ u,r = some u ∧
   wpAny (model P w) X.A (letOwnedTupleGo tg (.ref it) u) (fun _ s2 => ∃ x H',Inv X pins σ H' s2∧RelV x u∧J.yld i H x H'∧tn (i + 1) s2.heap∧∀ b∈fp,H' b = none) E s1) E s
 done:∀ (X:Cx),X.prog = P→X.w = w→X.K = K→X.calm = true→∀ (i:Nat) (pins:List (Addr×Obj)) (s:Shared) (σ:St) (H:Hp) (E:Value→Shared→Prop),Inv X pins σ H s→(∀ b∈fp,FpOk X pins H b)→tn i s.heap→J.stop i H →
  wpAny (model P w) X.A (pyNext (.ref it)) (fun r s1 => r = none∧Inv X pins σ H s1) E s
 self:∀ (A:Around) (i:Nat) (s:Shared) (Q:Value→Shared→Prop) (E:Value→Shared→Prop),tn i s.heap→Q (.ref it) s→wpAny (model P w) A (pyIter (.ref it)) Q E s
noncomputable abbrev TI:=St→Hp→(It→Hp→Prop)→Prop
noncomputable def PIE (X:Cx) (pins:List (Addr×Obj)) (σ:St) (tg:Expr) (R:It→Hp→Prop) (itv:Value) (s2:Shared):Prop :=
 ∃ (it:Addr) (fp:List Addr) (tn:Nat→Heap→Prop) (J:It) (H':Hp),itv = .ref it∧Inv X pins σ H' s2∧Turn X.prog X.w X.K tg J fp it tn∧tn 0 s2.heap∧(∀ b∈fp,FpOk X pins H' b)∧R J H'
noncomputable def PI (X:Cx) (tg iter:Expr) (wi:TI):Prop :=
 ∀ (pins:List (Addr×Obj)) (s:Shared) (σ:St) (H:Hp) (R:It→Hp→Prop),Inv X pins σ H s→wi σ H R →
  wpAny (model X.prog X.w) X.A (eval iter X.env) (fun v s1 => wpAny (model X.prog X.w) X.A (pyIter v) (PIE X pins σ tg R) X.xe s1) X.xe s
theorem go_of {M:Model} {A:Around} {E:Value→Shared→Prop} {s:Shared} {tg:Expr} {it:Addr} {u:Value} {o:Obj} {n:String} {vs:Array Value} {Q:Unit→Shared→Prop} (ho:s.heap.get? it = some o) (hc:o.cls = .type n) (hd:o.data = .fields vs)
  (hn:["enumerate", "zip", "dict_itemiterator", "dict_reverseitemiterator", "odict_iterator", "itertools.zip_longest", "itertools.pairwise"].contains n = false) (hQ:Q () s):wpAny M A (letOwnedTupleGo tg (.ref it) u) Q E s:=by
 unfold letOwnedTupleGo
 cases tg <;> first
  | exact wpAny_pure hQ
  | (cases u <;> first
    | exact wpAny_pure hQ
    | (refine wpAny_bind (wpAny_load ho ?_)
       rw [hc,hd]
       show wpAny M A (if (["enumerate", "zip", "dict_itemiterator", "dict_reverseitemiterator", "odict_iterator", "itertools.zip_longest", "itertools.pairwise"].contains n && vs[0]? == some (rawInt _)) = true then _ else _) Q E s
       rw [if_neg (by intro h; rw [hn,Bool.false_and] at h; cases h)]
       exact wpAny_pure hQ))
noncomputable def Itl (K:PySem.W.Frag) (a:Addr):It :=
 ⟨fun i H => ∃ xs x,SqL K H a xs∧xs[i]? = some x,fun i H x H' => H' = H∧∀ xs,SqL K H a xs→xs[i]? = some x,fun i H => ∃ xs,SqL K H a xs∧xs.length≤i⟩
noncomputable def Itt (K:PySem.W.Frag) (a:Addr):It :=
 ⟨fun i H => ∃ xs x,SqT K H a xs∧xs[i]? = some x,fun i H x H' => H' = H∧∀ xs,SqT K H a xs→xs[i]? = some x,fun i H => ∃ xs,SqT K H a xs∧xs.length≤i⟩
noncomputable def Itr (lo:Int) (n:Nat):It:=⟨fun i _ => i < n,fun i H x H' => H' = H∧x = .int (lo + i),fun i _ => n≤i⟩
theorem turn_list {P:Program} {w:World} {K:PySem.W.Frag} {tg:Expr} (a it:Addr):Turn P w K tg (Itl K a) [it] it (fun i h => h.IsListIter it a i) where
 mem:=by simp
 obj:=fun i h st b hb => by
  have e:b = it:=by simpa using hb
  subst e
  obtain ⟨o,e,c,d⟩:=st
  exact ⟨o,e,fun v z => by rw [d] at z; cases z⟩
 keep:=fun i h h' st k => st.at fun o e => k it (by simp) o e
 item:=by
  intro X hP hw hK hc i pins s σ H E I hf st hg
  subst hP hw hK
  obtain ⟨xs,x,hq,hx⟩:=hg
  obtain ⟨its,rv,p,hz⟩:=I.list hq
  obtain ⟨u,hu,ru⟩:=rv.get hx
  obtain ⟨f0,f1,f2,f3,f4,f5⟩:=hf it (by simp)
  refine wpAny_pyNext_list_item st p.isList (x:=u) (by simpa using hu) fun h' st' sb => ?_
  have I1:Inv X pins σ H { s with heap:=h' }:=I.turned (t':=s.toks) (fun b o hb e => (sb.2 b hb).trans e) f0 f1 f3 f4 f5
  obtain ⟨o,e,c,d⟩:=id st'
  exact ⟨u,rfl,go_of (s:={ s with heap:=h' }) e c d (by decide) ⟨x,H,I1,ru,⟨rfl,fun ys hy => by rw [I.list_inj hy hq]; exact hx⟩,st',fun b hb => (hf b hb).1⟩⟩
 done:=by
  intro X hP hw hK hc i pins s σ H E I hf st hg
  subst hP hw hK
  obtain ⟨xs,hq,hx⟩:=hg
  obtain ⟨its,rv,p,hz⟩:=I.list hq
  obtain ⟨f0,f1,f2,f3,f4,f5⟩:=hf it (by simp)
  have hl:=rv.length
  exact wpAny_pyNext_list_end (I.ok.hd hc) st p.isList (by simp; omega) fun h' eb => ⟨rfl,I.turned (t':=s.toks) (fun b o hb e => eb b o hb e) f0 f1 f3 f4 f5⟩
 self:=fun _ _ _ _ _ st h => wpAny_pyIter_listiter st h
theorem turn_tuple {P:Program} {w:World} {K:PySem.W.Frag} {tg:Expr} (a it:Addr):Turn P w K tg (Itt K a) [it] it (fun i h => h.IsTupleIter it a i) where
 mem:=by simp
 obj:=fun i h st b hb => by
  have e:b = it:=by simpa using hb
  subst e
  obtain ⟨o,e,c,d⟩:=st
  exact ⟨o,e,fun v z => by rw [d] at z; cases z⟩
 keep:=fun i h h' st k => st.at fun o e => k it (by simp) o e
 item:=by
  intro X hP hw hK hc i pins s σ H E I hf st hg
  subst hP hw hK
  obtain ⟨xs,x,hq,hx⟩:=hg
  obtain ⟨its,rv,p,hz⟩:=I.tuple hq
  obtain ⟨u,hu,ru⟩:=rv.get hx
  obtain ⟨f0,f1,f2,f3,f4,f5⟩:=hf it (by simp)
  refine wpAny_pyNext_tuple_item st (show s.heap.IsTuple a its.toArray from p) (x:=u) (by simpa using hu) fun h' st' sb => ?_
  have I1:Inv X pins σ H { s with heap:=h' }:=I.turned (t':=s.toks) (fun b o hb e => (sb.2 b hb).trans e) f0 f1 f3 f4 f5
  obtain ⟨o,e,c,d⟩:=id st'
  exact ⟨u,rfl,go_of (s:={ s with heap:=h' }) e c d (by decide) ⟨x,H,I1,ru,⟨rfl,fun ys hy => by rw [I.tuple_inj hy hq]; exact hx⟩,st',fun b hb => (hf b hb).1⟩⟩
 done:=by
  intro X hP hw hK hc i pins s σ H E I hf st hg
  subst hP hw hK
  obtain ⟨xs,hq,hx⟩:=hg
  obtain ⟨its,rv,p,hz⟩:=I.tuple hq
  obtain ⟨f0,f1,f2,f3,f4,f5⟩:=hf it (by simp)
  have hl:=rv.length
  exact wpAny_pyNext_tuple_end (I.ok.hd hc) st (show s.heap.IsTuple a its.toArray from p) (by simp; omega) fun h' eb => ⟨rfl,I.turned (t':=s.toks) (fun b o hb e => eb b o hb e) f0 f1 f3 f4 f5⟩
 self:=fun _ _ _ _ _ st h => wpAny_pyIter_tupleiter st h
theorem turn_range {P:Program} {w:World} {K:PySem.W.Frag} {tg:Expr} (it:Addr) (lo:Int) (n:Nat):Turn P w K tg (Itr lo n) [it] it (fun i h => IsRangeIter h it (lo + (i:Nat) * 1) ((n:Int) - (i:Nat)) 1) where
 mem:=by simp
 obj:=fun i h st b hb => by
  have e:b = it:=by simpa using hb
  subst e
  exact ⟨_,st,fun v z => by
   have z':Data.fields _ = Data.cell v:=z
   cases z'⟩
 keep:=fun i h h' st k => k it (by simp) _ st
 item:=by
  intro X hP hw hK hc i pins s σ H E I hf st hg
  subst hP hw hK
  obtain ⟨f0,f1,f2,f3,f4,f5⟩:=hf it (by simp)
  have W:=Walks.range (prog:=X.prog) (w:=X.w) (I.ok.hd hc) it lo 1 n
  refine W.item i s _ _ hg st fun v h' tk hv st' kk => ?_
  obtain ⟨t,rfl⟩:=hv
  have I1:Inv X pins σ H { s with heap:=h',toks:=tk }:=I.turned (fun b o hb e => kk b o (by simpa using hb) e) f0 f1 f3 f4 f5
  refine ⟨_,rfl,go_of (s:={ s with heap:=h',toks:=tk }) (n := "range_iterator") st' rfl rfl (by decide) ⟨.int (lo + i),H,I1,⟨t,?_⟩,⟨rfl,rfl⟩,st',fun b hb => (hf b hb).1⟩⟩
  rw [Int.mul_one]
 done:=by
  intro X hP hw hK hc i pins s σ H E I hf st hg
  subst hP hw hK
  obtain ⟨f0,f1,f2,f3,f4,f5⟩:=hf it (by simp)
  exact wpAny_pyNext_range_end (I.ok.hd hc) st (by have:n≤i:=hg; omega) fun h' eb => ⟨rfl,I.turned (t':=s.toks) (fun b o hb e => eb b o hb e) f0 f1 f3 f4 f5⟩
 self:=fun _ _ _ _ _ st h => wpAny_pyIter_rangeiter st h
section
variable {X:Cx} {tg:Expr}
noncomputable def iList (K:PySem.W.Frag) (tl:TE):TI:=fun σ H R => tl σ H fun x H1 => ∃ a,x = .ref a∧(∃ xs,SqL K H1 a xs)∧R (Itl K a) H1
noncomputable def iTup (K:PySem.W.Frag) (tl:TE):TI:=fun σ H R => tl σ H fun x H1 => ∃ a,x = .ref a∧(∃ xs,SqT K H1 a xs)∧R (Itt K a) H1
theorem pi_list {l:Expr} {tl:TE} (hl:PE X l tl):PI X tg l (iList X.K tl):=by
 intro pins s σ H R I h
 refine thn (hl pins s σ H _ I h) fun v s1 zz => ?_
 obtain ⟨x,H1,I1,r1,q1⟩:=zz
 obtain ⟨a,e,⟨xs,hq⟩,q⟩:=q1
 subst e
 cases r1
 obtain ⟨its,rv,p,hz⟩:=I1.list hq
 refine wpAny_pyIter_list p.isList ?_
 refine ⟨s1.heap.objs.size,[s1.heap.objs.size],_,_,H1,rfl,I1.kept (t':=s1.toks) fun b o e => Heap.get?_push_of_some _ e,turn_list a _,⟨_,Heap.get?_push_size _ rfl,rfl,rfl⟩,fun b hb => ?_,q⟩
 have e:b = s1.heap.objs.size:=by simpa using hb
 subst e
 exact I1.fpOk (Nat.le_refl _) (I1.hok.fresh (Nat.le_refl _))
theorem pi_tup {l:Expr} {tl:TE} (hl:PE X l tl):PI X tg l (iTup X.K tl):=by
 intro pins s σ H R I h
 refine thn (hl pins s σ H _ I h) fun v s1 zz => ?_
 obtain ⟨x,H1,I1,r1,q1⟩:=zz
 obtain ⟨a,e,⟨xs,hq⟩,q⟩:=q1
 subst e
 cases r1
 obtain ⟨its,rv,p,hz⟩:=I1.tuple hq
 refine wpAny_pyIter_tuple (show s1.heap.IsTuple a its.toArray from p) ?_
 refine ⟨s1.heap.objs.size,[s1.heap.objs.size],_,_,H1,rfl,I1.kept (t':=s1.toks) fun b o e => Heap.get?_push_of_some _ e,turn_tuple a _,⟨_,Heap.get?_push_size _ rfl,rfl,rfl⟩,fun b hb => ?_,q⟩
 have e:b = s1.heap.objs.size:=by simpa using hb
 subst e
 exact I1.fpOk (Nat.le_refl _) (I1.hok.fresh (Nat.le_refl _))
noncomputable def tFor (wi:TI) (g:TG) (tb:TS):TS:=fun D σ H => wi σ H fun J H1 => ∃ W:Nat→Nat→St→Hp→Prop,(∃ m,W 0 m σ H1)∧∀ i m σ H,W i m σ H →
 (J.stop i H∧D.nx σ H)∨(J.go i H∧∃ N:St→Hp→Prop,(∀ σ' H',N σ' H'→∃ m',m' < m∧W (i + 1) m' σ' H')∧∀ x H',J.yld i H x H'→g x σ H' fun σ2 H2 => tb { D with nx:=N,ct:=N,bk:=D.nx } σ2 H2)
noncomputable def pinsAt (fp:List Addr) (h:Heap):List (Addr×Obj):=fp.filterMap fun b => (h.get? b).map fun o => (b,o)
theorem mem_pinsAt {fp:List Addr} {h:Heap} {b:Addr} {o:Obj} (hb:b∈fp) (e:h.get? b = some o):(b,o)∈pinsAt fp h:=List.mem_filterMap.mpr ⟨b,hb,by rw [e]; rfl⟩
theorem of_pinsAt {fp:List Addr} {h:Heap} {p:Addr×Obj} (hp:p∈pinsAt fp h):p.1∈fp∧h.get? p.1 = some p.2:=by
 obtain ⟨b,hb,e⟩:=List.mem_filterMap.mp hp
 cases q:h.get? b with
 | none => rw [q] at e; cases e
 | some o =>
  rw [q] at e
  have e':(b,o) = p:=Option.some.inj e
  subst e'
  exact ⟨hb,q⟩
theorem Inv.pinned {pins:List (Addr×Obj)} {σ:St} {H:Hp} {s:Shared} {fp:List Addr} (I:Inv X pins σ H s) (hf:∀ b∈fp,FpOk X pins H b) (ho:∀ b∈fp,∃ o,s.heap.get? b = some o∧∀ v,o.data≠.cell v):Inv X (pins++pinsAt fp s.heap) σ H s :=
 I.pins_of fun p hp => (List.mem_append.mp hp).elim (fun z => I.pin p (List.mem_append_right _ z)) fun z => by
  obtain ⟨hb,e⟩:=of_pinsAt z
  obtain ⟨f0,f1,f2,_⟩:=hf p.1 hb
  obtain ⟨o,e',d⟩:=ho p.1 hb
  rw [e] at e'; cases e'
  exact ⟨e,f0,f1,f2,d⟩
theorem Inv.unpinned {pins pl:List (Addr×Obj)} {σ:St} {H:Hp} {s:Shared} (I:Inv X (pins++pl) σ H s):Inv X pins σ H s:=I.pins_of fun p hp => I.pin p (List.mem_append_right _ (List.mem_append_left _ hp))
theorem ps_for {iter:Expr} {body:List Stmt} {wi:TI} {g:TG} {tb:TS} {pos:Pos} (hp:PassesOwn (model X.prog X.w) X.A X.env X.xe) (hc:X.calm = true) (hi:PI X tg iter wi) (hg:PG X tg g) (hb:PSs X body tb)
  (hs:∀ x,foldedSetIterable iter X.env x = pure x:=by intro _; rfl):PS X (.For tg iter body [] pos) (tFor wi g tb):=by
 intro pins s σ H D I h
 refine wpAny_For (thn (hi pins s σ H _ I h) fun v s1 h1 => thn h1 fun itv s2 h2 => ?_) hs
 obtain ⟨it,fp,tn,J,H2,e,I2,T,st2,f2,W,⟨m0,w0⟩,turn⟩:=h2
 subst e
 have stat:∀ {H':Hp},(∀ b∈fp,H' b = none)→∀ b∈fp,FpOk X pins H' b:=fun hn b hb => ⟨hn b hb,(f2 b hb).2⟩
 refine codeAny_forLoop_any (fun n s' => ∃ i σ' H',Inv X pins σ' H' s'∧tn i s'.heap∧(∀ b∈fp,H' b = none)∧W i n σ' H') ?_ m0 ⟨0,σ,H2,I2,st2,fun b hb => (f2 b hb).1,w0⟩
 rintro n s3 ⟨i,σ3,H3,I3,st3,fr3,w3⟩
 rcases turn i n σ3 H3 w3 with ⟨stop,qn⟩ | ⟨go,N,hN,step⟩
 ·refine wpAny_passesOwn hp (thn (T.done X rfl rfl rfl hc i pins s3 σ3 H3 X.xe I3 (stat fr3) st3 stop) fun r s4 zz => ?_)
  obtain ⟨hr,I4⟩:=zz
  subst hr
  exact wpAny_execs_nil ⟨σ3,H3,I4,qn⟩
 ·refine wpAny_passesOwn hp (thn (T.item X rfl rfl rfl hc i pins s3 σ3 H3 X.xe I3 (stat fr3) st3 go) fun r s4 zz => ?_)
  obtain ⟨u,hr,h4⟩:=zz
  subst hr
  refine wpAny_passesOwn hp (thn h4 fun _ s5 zz => ?_)
  obtain ⟨x,H5,I5,r5,y5,st5,fr5⟩:=zz
  have I5':=I5.pinned (stat fr5) (T.obj _ _ st5)
  refine wpAny_passesOwn hp (thn (hg _ s5 σ3 H5 x u _ I5' r5 (step x H5 y5)) fun _ s6 zz => ?_)
  obtain ⟨σ6,H6,I6,q6⟩:=zz
  refine wpAny_passesOwn hp (thn (hb _ s6 σ6 H6 _ I6 q6) fun f s7 q7 => ?_)
  have again:∀ {σ7:St} {H7:Hp},Inv X (pins++pinsAt fp s5.heap) σ7 H7 s7→N σ7 H7→∃ m,m < n∧∃ i σ' H',Inv X pins σ' H' s7∧tn i s7.heap∧(∀ b∈fp,H' b = none)∧W i m σ' H':=fun {σ7 H7} I7 n7 => by
   obtain ⟨m',hm,w7⟩:=hN σ7 H7 n7
   refine ⟨m',hm,i + 1,σ7,H7,I7.unpinned,T.keep _ _ _ st5 fun b hb o e => (I7.pin (b,o) (List.mem_append_right _ (List.mem_append_right _ (mem_pinsAt hb e)))).1,fun b hb => ?_,w7⟩
   obtain ⟨o,e,d⟩:=T.obj _ _ st5 b hb
   exact (I7.pin (b,o) (List.mem_append_right _ (List.mem_append_right _ (mem_pinsAt hb e)))).2.1
  cases f with
  | next => obtain ⟨σ7,H7,I7,n7⟩:=q7; exact again I7 n7
  | cont => obtain ⟨σ7,H7,I7,n7⟩:=q7; exact again I7 n7
  | brk => obtain ⟨σ7,H7,I7,q7⟩:=q7; exact ⟨σ7,H7,I7.unpinned,q7⟩
  | ret v => obtain ⟨x7,σ7,H7,I7,r7,q7⟩:=q7; exact ⟨x7,σ7,H7,I7.unpinned,r7,q7⟩
end
noncomputable abbrev R2:=V→V→Hp→VK→Prop
noncomputable def OpR (X:Cx) (f:Value→Value→Sem Value) (r:R2):Prop :=
 ∀ (pins:List (Addr×Obj)) (s:Shared) (σ:St) (H:Hp) (x y:V) (v u:Value) (Q:VK),Inv X pins σ H s→RelV x v→RelV y u→r x y H Q →
  wpAny (model X.prog X.w) X.A (f v u) (EP X pins σ Q) X.xe s
noncomputable def UnR (X:Cx) (f:Value→Sem Value) (r:V→Hp→VK→Prop):Prop :=
 ∀ (pins:List (Addr×Obj)) (s:Shared) (σ:St) (H:Hp) (x:V) (v:Value) (Q:VK),Inv X pins σ H s→RelV x v→r x H Q →
  wpAny (model X.prog X.w) X.A (f v) (EP X pins σ Q) X.xe s
noncomputable def CallR (X:Cx) (f:Value) (r:List V→Hp→VK→Prop):Prop :=
 ∀ (pins:List (Addr×Obj)) (s:Shared) (σ:St) (H:Hp) (xs:List V) (us:List Value) (Q:VK),Inv X pins σ H s→Vals xs us→r xs H Q →
  wpAny (model X.prog X.w) X.A (call f us) (EP X pins σ Q) X.xe s
noncomputable def tOp (r:R2) (ta tb:TE):TE:=fun σ H Q => ta σ H fun x H1 => tb σ H1 fun y H2 => r x y H2 Q
noncomputable def tUn (r:V→Hp→VK→Prop) (ta:TE):TE:=fun σ H Q => ta σ H fun x H1 => r x H1 Q
noncomputable def rI (C:Int→Int→Prop) (g:Int→Int→V):R2:=fun x y H Q => ∃ i j,x = .int i∧y = .int j∧C i j∧Q (g i j) H
noncomputable def rI0 (g:Int→Int→V):R2:=fun x y H Q => ∃ i j,x = .int i∧y = .int j∧Q (g i j) H
noncomputable def rU (g:Int→V):V→Hp→VK→Prop:=fun x H Q => ∃ i,x = .int i∧Q (g i) H
section
variable {X:Cx} {a b c:Expr} {ta tb tc:TE} {pos:Pos}
theorem binT (ha:PE X a ta) (hb:PE X b tb) {pins:List (Addr×Obj)} {s:Shared} {σ:St} {H:Hp} {R:V→V→Hp→Prop} (I:Inv X pins σ H s)
  (h:ta σ H fun x H1 => tb σ H1 fun y H2 => R x y H2) {Q:Value→Shared→Prop} {f:Value→Value→Sem Value}
  (hf:∀ v u s2 x y H2,Inv X pins σ H2 s2→RelV x v→RelV y u→R x y H2→wpAny (model X.prog X.w) X.A (f v u) Q X.xe s2) :
  wpAny (model X.prog X.w) X.A (eval a X.env) (fun v s₁ => wpAny (model X.prog X.w) X.A (eval b X.env) (fun u s₂ => wpAny (model X.prog X.w) X.A (f v u) Q X.xe s₂) X.xe s₁) X.xe s:=by
 refine thn (ha pins s σ H _ I h) fun v s1 zz => ?_
 obtain ⟨x,H1,I1,r1,q1⟩:=zz
 refine thn (hb pins s1 σ H1 _ I1 q1) fun u s2 zz => ?_
 obtain ⟨y,H2,I2,r2,q2⟩:=zz
 exact hf v u s2 x y H2 I2 r1 r2 q2
theorem pe_op {op:Operator} {r:R2} (ho:OpR X (binaryOp op) r) (ha:PE X a ta) (hb:PE X b tb):PE X (.BinOp a op b pos) (tOp r ta tb):=by
 intro pins s σ H Q I h
 exact wpAny_BinOp (binT ha hb I h fun v u s2 x y H2 I2 rx ry q => ho pins s2 σ H2 x y v u Q I2 rx ry q)
theorem pe_un {op:UnaryOp} {r:V→Hp→VK→Prop} (ho:UnR X (unaryOp op) r) (ha:PE X a ta):PE X (.UnaryOp op a pos) (tUn r ta):=by
 intro pins s σ H Q I h
 exact UnaryOp_ (thn (ha pins s σ H _ I h) fun v s1 ⟨x,H1,I1,r1,q1⟩ => ho pins s1 σ H1 x v Q I1 r1 q1)
theorem opI {f:Value→Value→Sem Value} {C:Int→Int→Prop} {g:Int→Int→Int}
  (rule:∀ (i j:Int) (t u:Tok) (s:Shared) (Q:Value→Shared→Prop) (E:Value→Shared→Prop),C i j→Q (.int (g i j) s.toks) { s with toks:=s.toks + 1 }→wpAny (model X.prog X.w) X.A (f (.int i t) (.int j u)) Q E s) :
  OpR X f (rI C fun i j => .int (g i j)):=by
 intro pins s σ H x y v u Q I rx ry h
 obtain ⟨i,j,rfl,rfl,hc,q⟩:=h
 obtain ⟨t,rfl⟩:=rx
 obtain ⟨t',rfl⟩:=ry
 exact rule i j t t' s _ _ hc ⟨.int (g i j),H,I.tok _,⟨_,rfl⟩,q⟩
theorem opI0 {f:Value→Value→Sem Value} {g:Int→Int→Int}
  (rule:∀ (i j:Int) (t u:Tok) (s:Shared) (Q:Value→Shared→Prop) (E:Value→Shared→Prop),Q (.int (g i j) s.toks) { s with toks:=s.toks + 1 }→wpAny (model X.prog X.w) X.A (f (.int i t) (.int j u)) Q E s) :
  OpR X f (rI0 fun i j => .int (g i j)):=by
 intro pins s σ H x y v u Q I rx ry h
 obtain ⟨i,j,rfl,rfl,q⟩:=h
 obtain ⟨t,rfl⟩:=rx
 obtain ⟨t',rfl⟩:=ry
 exact rule i j t t' s _ _ ⟨.int (g i j),H,I.tok _,⟨_,rfl⟩,q⟩
theorem opB0 {f:Value→Value→Sem Value} {g:Int→Int→Bool}
  (rule:∀ (i j:Int) (t u:Tok) (s:Shared) (Q:Value→Shared→Prop) (E:Value→Shared→Prop),Q (.bool (g i j)) s→wpAny (model X.prog X.w) X.A (f (.int i t) (.int j u)) Q E s) :
  OpR X f (rI0 fun i j => .bl (g i j)):=by
 intro pins s σ H x y v u Q I rx ry h
 obtain ⟨i,j,rfl,rfl,q⟩:=h
 obtain ⟨t,rfl⟩:=rx
 obtain ⟨t',rfl⟩:=ry
 exact rule i j t t' s _ _ ⟨.bl (g i j),H,I,rfl,q⟩
noncomputable def CDiv (i j:Int):Prop:=0 < j∧j < 1073741824
noncomputable def CMul (i j:Int):Prop:=(-(2 ^ 64) < i∧i < 2 ^ 64)∨(-(2 ^ 64) < j∧j < 2 ^ 64)
theorem CMul.ok {i j:Int} (h:CMul i j):IntMulOk i j:=by
 rcases h with ⟨h1,h2⟩ | ⟨h1,h2⟩
 ·exact .of_left (intBits_le_64 h1 h2)
 ·exact .of_right (intBits_le_64 h1 h2)
theorem op_add:OpR X (binaryOp .Add) (rI0 fun i j => .int (i + j)):=opI0 fun _ _ _ _ _ _ _ q => add_int q
theorem op_sub:OpR X (binaryOp .Sub) (rI0 fun i j => .int (i - j)):=opI0 fun _ _ _ _ _ _ _ q => sub_int q
theorem op_mul:OpR X (binaryOp .Mult) (rI CMul fun i j => .int (i * j)):=opI fun _ _ _ _ _ _ _ hc q => mul_int q hc.ok
theorem op_fdiv:OpR X (binaryOp .FloorDiv) (rI CDiv fun i j => .int (i / j)):=opI fun i j _ _ _ _ _ hc q => by
 have h1:(0:Int) < j:=hc.1
 have h2:j < 1073741824:=hc.2
 exact floordiv_int (by omega) (by rw [Int.fdiv_eq_ediv_of_nonneg i (by omega)]; exact q) (.inl (PyProof.noPylong_small (by omega)))
theorem op_mod:OpR X (binaryOp .Mod) (rI (fun _ j => 0 < j) fun i j => .int (i % j)):=opI fun i j _ _ _ _ _ hc q => by
 have h1:(0:Int) < j:=hc
 exact mod_int' (by omega) (by rw [Int.fmod_eq_emod_of_nonneg i (by omega)]; exact q)
theorem unI {f:Value→Sem Value} {g:Int→Int}
  (rule:∀ (i:Int) (t:Tok) (s:Shared) (Q:Value→Shared→Prop) (E:Value→Shared→Prop),Q (.int (g i) s.toks) { s with toks:=s.toks + 1 }→wpAny (model X.prog X.w) X.A (f (.int i t)) Q E s) :
  UnR X f (rU fun i => .int (g i)):=by
 intro pins s σ H x v Q I rx h
 obtain ⟨i,rfl,q⟩:=h
 obtain ⟨t,rfl⟩:=rx
 exact rule i t s _ _ ⟨.int (g i),H,I.tok _,⟨_,rfl⟩,q⟩
theorem un_neg:UnR X (unaryOp .USub) (rU fun i => .int (-i)):=unI fun _ _ _ _ _ q => neg_int q
end
section
variable {X:Cx} {a b c:Expr} {ta tb tc:TE} {pos:Pos}
theorem fin_bl {pins:List (Addr×Obj)} {σ:St} {H:Hp} {s:Shared} {Q:VK} {k k':Bool} (I:Inv X pins σ H s) (q:Q (.bl k) H) (e:k = k'):EP X pins σ Q (.bool k') s:=by
 subst e
 exact ⟨.bl k,H,I,rfl,q⟩
theorem op_lt:OpR X (compareOp .Lt) (rI0 fun i j => .bl (decide (i < j))):=opB0 fun _ _ _ _ _ _ _ q => lt_int q
theorem op_gt:OpR X (compareOp .Gt) (rI0 fun i j => .bl (decide (j < i))):=opB0 fun _ _ _ _ _ _ _ q => gt_int q
theorem op_isN:OpR X (compareOp .Is) (fun x y H Q => y = .non∧Q (.bl (decide (x = .non))) H):=by
 intro pins s σ H x y v u Q I rx ry h
 obtain ⟨rfl,q⟩:=h
 cases ry
 refine is_none_gen (fin_bl I q ?_)
 cases x <;> first
  | (cases rx; rfl)
  | (obtain ⟨t,rfl⟩:=rx; rfl)
theorem op_notN:OpR X (compareOp .IsNot) (fun x y H Q => y = .non∧Q (.bl (!decide (x = .non))) H):=by
 intro pins s σ H x y v u Q I rx ry h
 obtain ⟨rfl,q⟩:=h
 cases ry
 refine isnot_none_gen (fin_bl I q ?_)
 cases x <;> first
  | (cases rx; rfl)
  | (obtain ⟨t,rfl⟩:=rx; rfl)
theorem nomark (b:Expr) {op:CmpOp} (h:op≠.In:=by decide) (h2:op≠.NotIn:=by decide):behindInMarks op b = false:=by
 have e1:(op == CmpOp.In) = false:=by cases op <;> first | rfl | exact absurd rfl h
 have e2:(op == CmpOp.NotIn) = false:=by cases op <;> first | rfl | exact absurd rfl h2
 cases b <;> simp [behindInMarks,e1,e2]
theorem pe_cmpR {op:CmpOp} {r:R2} (ho:OpR X (compareOp op) r) (ha:PE X a ta) (hb:PE X b tb) (hm:behindInMarks op b = false):PE X (.Compare a [op] [b] pos) (tOp r ta tb):=by
 intro pins s σ H Q I h
 exact wpAny_Compare1 (binT ha hb I h fun v u s2 x y H2 I2 rx ry q => ho pins s2 σ H2 x y v u Q I2 rx ry q) hm
noncomputable def tTest (t:TE):TT:=fun σ H Q => t σ H fun x H' => ∃ k,x = .bl k∧Q k H'
theorem pt_cmpR {op:CmpOp} {r:R2} (ho:OpR X (compareOp op) r) (ha:PE X a ta) (hb:PE X b tb) (hm:behindInMarks op b = false):PT X (.Compare a [op] [b] pos) (tTest (tOp r ta tb)):=by
 intro pins s σ H Q I h
 refine wpAny_isTrue_Compare1 (thn (ha pins s σ H _ I h) fun v s1 ⟨x,H1,I1,r1,q1⟩ => thn (hb pins s1 σ H1 _ I1 q1) fun u s2 ⟨y,H2,I2,r2,q2⟩ =>
  thn (ho pins s2 σ H2 x y v u _ I2 r1 r2 q2) fun c s3 ⟨z,H3,I3,r3,k,e,q3⟩ => ?_) hm
 subst e
 cases r3
 exact wpAny_truthy_bool ⟨H3,I3,q3⟩
theorem line63:(sizeLine:Nat) < 2 ^ 63:=by rw [sizeLine_eq]; decide
theorem op_add_str:OpR X (binaryOp .Add) (fun x y H Q => ∃ i j,x = .str i∧y = .str j∧i.length + j.length≤sizeLine∧Q (.str (i++j)) H):=by
 intro pins s σ H x y v u Q I rx ry h
 obtain ⟨i,j,rfl,rfl,hz,q⟩:=h
 obtain ⟨t,rfl⟩:=rx
 obtain ⟨t',rfl⟩:=ry
 exact add_str (fun t' tk => ⟨.str (i++j),H,I.tok _,⟨_,rfl⟩,q⟩) hz
theorem vals1 {x:V} {us:List Value} (r:Vals [x] us):∃ u,us = [u]∧RelV x u:=by
 cases r with
 | cons r1 r2 => cases r2; exact ⟨_,rfl,r1⟩
theorem vals2 {x y:V} {us:List Value} (r:Vals [x,y] us):∃ u w',us = [u,w']∧RelV x u∧RelV y w':=by
 cases r with
 | cons r1 r2 =>
  cases r2 with
  | cons r3 r4 => cases r4; exact ⟨_,_,rfl,r1,r3⟩
end
structure ObjM (h:Heap) (x dx C:Addr) (mA:Str→Option Value):Prop where
 obj:h.get? x = some (PySem.W.instObj C dx)
 ns:h.Ns1 dx mA
 ne:dx≠x
theorem lookIn_ns {h:Heap} {dx:Addr} {mA:Str→Option Value} (n:h.Ns1 dx mA):∃ od,h.get? dx = some od∧∀ name,PySem.W.lookIn name od = some (mA name):=by
 obtain ⟨o,es,ep,ho,hd,hk,_,hm⟩:=n
 refine ⟨o,ho,fun name => ?_⟩
 have e:=hm name
 unfold nsFind findBy at e
 rw [← Array.find?_toList] at e
 unfold PySem.W.lookIn
 rw [hd]
 dsimp only
 split
 ·rename_i y q
  rw [q] at e
  exact congrArg some e
 ·rename_i q
  rw [q] at e
  have a:es.toList.any (·.refKey) = false:=by
   rw [List.any_eq_false]
   intro y hy
   obtain ⟨z,t,hkey⟩:=hk y (Array.mem_toList_iff.mp hy)
   simp [DictEntry.refKey,hkey]
  have a':¬ es.toList.any (·.refKey) = true:=by rw [a]; exact Bool.false_ne_true
  rw [if_neg a']
  exact congrArg some e
theorem ObjM.look {h:Heap} {x dx C:Addr} {mA:Str→Option Value} (I:ObjM h x dx C mA):∃ od,PySem.W.InstAt h x (PySem.W.instObj C dx) C (some od)∧∀ name,PySem.W.lookIn name od = some (mA name) :=
 let ⟨od,ho,hl⟩:=lookIn_ns I.ns
 ⟨od,⟨I.obj,rfl,rfl,ho⟩,hl⟩
theorem RelO.some_of {v:V} {o:Option Value} (r:RelO (some v) o):∃ u,o = some u∧RelV v u:=by
 cases o with
 | none => exact (show False from r).elim
 | some u => exact ⟨u,rfl,r⟩
theorem handed_of {v:V} {u:Value} (r:RelV v u):PySem.W.handedIn u = true:=by
 cases v with
 | non => cases (show u = Value.none from r); rfl
 | bl b => cases (show u = Value.bool b from r); rfl
 | int i => obtain ⟨t,e⟩:=(show ∃ t,u = Value.int i t from r); cases e; rfl
 | str x => obtain ⟨t,e⟩:=(show ∃ t,u = Value.str x t from r); cases e; rfl
 | byt b => obtain ⟨t,e⟩:=(show ∃ t,u = Value.bytes b t from r); cases e; rfl
 | flt b => obtain ⟨t,e⟩:=(show ∃ t,u = Value.float b t from r); cases e; rfl
 | ref a => cases (show u = Value.ref a from r); rfl
 | ty n => cases (show u = Value.type n from r); rfl
section
variable {P:Program} {w:World} {H H':Hp} {h h':Heap} {a C dx:Addr} {fs fs':List (Str×V)}
theorem ins_get (hok:HOk P w H h) (e:H a = some (.ins C dx fs)):∃ mA,ObjM h a dx C mA∧(∀ f,RelO (fs.lookup f) (mA f))∧PySem.Within mA (fs.map (·.1))∧fs.length≤1000∧H dx = some (.own a):=by
 obtain ⟨d,z,ne,ob,mA,n,r,q⟩:=(show ObjOk P w H h a (.ins C dx fs) from hok a _ e)
 exact ⟨mA,⟨ob,n,ne⟩,r,q,z,d⟩
end
structure Cls (K:PySem.W.Frag) (C:Addr):Prop where
 pg:PySem.W.plainGet K C Str.empty = true
 hd:PySem.W.hasDictIn K C = true
 po:PySem.W.plainOver K C = true
 sa:PySem.W.findIn K (.ref C) "__setattr__" = some (some (.builtin "object.__setattr__"))
theorem Cls.get {K:PySem.W.Frag} {C:Addr} (c:Cls K C) (f:Str):PySem.W.plainGet K C f = true:=c.pg
section
variable {X:Cx} {pins:List (Addr×Obj)} {σ:St} {H:Hp} {s:Shared} {a C dx:Addr} {fs:List (Str×V)} {f:Str} {v:V} {A:Around} {E:Value→Shared→Prop}
theorem attr_of {prog:Program} {w:World} {env:Env} {e:Expr} {f:Str} {pos:Pos} {s:Shared} {Q:Value→Shared→Prop} (hb:attributeBase e f env (eval e env) = eval e env)
  (h:wpAny (model prog w) A (eval e env) (fun o s₁ => wpAny (model prog w) A (getAttr o f true) Q E s₁) E s):wpAny (model prog w) A (eval (.Attribute e f pos) env) Q E s :=
 Attribute_any_ h (by rw [arm_eval_Attribute,hb])
end
section
variable {X:Cx} {pins:List (Addr×Obj)} {σ:St} {H:Hp} {s:Shared} {A:Around} {E:Value→Shared→Prop} {Q:Value→Shared→Prop} {c:Value} {b:Bool}
inductive TyOf (K:PySem.W.Frag) (H:Hp):V→Value→Prop where
 | non:TyOf K H .non (.type "NoneType")
 | bl (x:Bool):TyOf K H (.bl x) (.type "bool")
 | int (i:Int):TyOf K H (.int i) (.type "int")
 | str (x:Str):TyOf K H (.str x) (.type "str")
 | flt (x:UInt64):TyOf K H (.flt x) (.type "float")
 | lst {a:Addr} {xs:List V} (e:H a = some (.lst xs)):TyOf K H (.ref a) (.type "list")
 | frz {a:Addr} {o:Obj} {xs:List V} (e:H a = some (.frz o (.lst xs))):TyOf K H (.ref a) (.type "list")
 | tup {a:Addr} {xs:List V} (e:H a = some (.tup xs)):TyOf K H (.ref a) (.type "tuple")
 | dK {a:Addr} {kvs:List (Key×V)} (e:H a = some (.dK kvs)):TyOf K H (.ref a) (.type "dict")
 | dT {a:Addr} {kvs:List (List Key×V)} (e:H a = some (.dT kvs)):TyOf K H (.ref a) (.type "dict")
 | ins {a C dx:Addr} {fs:List (Str×V)} (e:H a = some (.ins C dx fs)) (cl:Cls K C) (ha:PySem.W.findIn K (.ref C) "__class__" = some (some (.builtin "object.__class__")))
   (hn:PySem.W.specialIn K (.builtin "object.__class__") "__get__" = some (some (.builtin "getset_descriptor.__get__"))) (htk:PySem.W.takesIn K (.builtin "object.__class__") = some true)
   (hm:PySem.W.mroIn K C (.type "object") = some true):TyOf K H (.ref a) (.ref C)
theorem isinst_ok {x:V} {u t:Value} (I:Inv X pins σ H s) (rx:RelV x u) (ty:TyOf X.K H x t) (e:PySem.W.kitOne X.K t c = some b) (h:∀ tk,Q (.bool b) { s with toks:=tk }) :
  wpAny (model X.prog X.w) A (call (.builtin "isinstance") [u,c]) Q E s:=by
 cases ty with
 | non => cases (show u = Value.none from rx); exact PySem.W.kia_one PySem.W.kitx_none I.kIn True.intro e (fun z => nomatch z) h
 | bl y => cases (show u = Value.bool y from rx); exact PySem.W.kia_one PySem.W.kitx_bool I.kIn True.intro e (fun z => nomatch z) h
 | int i => obtain ⟨t,q⟩:=(show ∃ t,u = Value.int i t from rx); cases q; exact PySem.W.kia_one PySem.W.kitx_int I.kIn True.intro e (fun z => nomatch z) h
 | str y => obtain ⟨t,q⟩:=(show ∃ t,u = Value.str y t from rx); cases q; exact PySem.W.kia_one PySem.W.kitx_str I.kIn True.intro e (fun z => nomatch z) h
 | flt y => obtain ⟨t,q⟩:=(show ∃ t,u = Value.float y t from rx); cases q; exact PySem.W.kia_one PySem.W.kitx_float I.kIn True.intro e (fun z => nomatch z) h
 | @lst a xs ea =>
  cases (show u = Value.ref a from rx)
  obtain ⟨_,_,n,_,h1⟩:=(show ObjOk X.prog X.w H s.heap a (.lst xs) from I.hok a _ ea)
  exact PySem.W.kia_one PySem.W.kitx_list I.kIn ⟨_,h1,rfl⟩ e (fun z => nomatch z) h
 | @frz a ob xs ea =>
  cases (show u = Value.ref a from rx)
  obtain ⟨_,_,_,n,_,h1⟩:=(show ObjOk X.prog X.w H s.heap a (.frz ob (.lst xs)) from I.hok a _ ea)
  exact PySem.W.kia_one PySem.W.kitx_list I.kIn ⟨_,h1,rfl⟩ e (fun z => nomatch z) h
 | @tup a xs ea =>
  cases (show u = Value.ref a from rx)
  obtain ⟨_,_,_,p⟩:=(show ObjOk X.prog X.w H s.heap a (.tup xs) from I.hok a _ ea)
  obtain ⟨o,h1,h2,_⟩:=p
  exact PySem.W.kia_one PySem.W.kitx_tuple I.kIn ⟨o,h1,h2⟩ e (fun z => nomatch z) h
 | @dK a kvs ea =>
  cases (show u = Value.ref a from rx)
  obtain ⟨_,_,vs,_,p⟩:=(show ObjOk X.prog X.w H s.heap a (.dK kvs) from I.hok a _ ea)
  obtain ⟨o,es,ep,h1,h2,_⟩:=p
  exact PySem.W.kia_one PySem.W.kitx_dict I.kIn ⟨o,h1,h2.1⟩ e (fun z => nomatch z) h
 | @dT a kvs ea =>
  cases (show u = Value.ref a from rx)
  obtain ⟨_,_,xs,_,o,es,ep,h1,h2,_⟩:=(show ObjOk X.prog X.w H s.heap a (.dT kvs) from I.hok a _ ea)
  exact PySem.W.kia_one PySem.W.kitx_dict I.kIn ⟨o,h1,h2.1⟩ e (fun z => nomatch z) h
 | @ins a C dx fs ea cl ha hn htk hm =>
  cases (show u = Value.ref a from rx)
  obtain ⟨mA,O,_⟩:=ins_get I.hok ea
  obtain ⟨od,J,_⟩:=O.look
  exact PySem.W.kia_one (PySem.W.kitx_own (cl.get _) cl.hd ha hn htk hm) I.kIn J e (fun z => nomatch z) h
end
structure Room (k:Nat) (A:Around):Prop where
 hd:A.handled = none
 dp:A.depth + 3 * k + 5 < recursionLimit
 un:A.units + 16 * k + 200 < cLine
theorem Room.mono {j k:Nat} {A:Around} (r:Room k A) (h:j≤k):Room j A:=⟨r.hd,by have:=r.dp; omega,by have:=r.un; omega⟩
theorem Room.deeper {k:Nat} {A:Around} (r:Room (k + 1) A) (env:Env):Room k (A.deeper env) :=
 ⟨r.hd,by have:=r.dp; show A.depth + 1 + 3 * k + 5 < _; omega,by have:=r.un; show A.units + 3 + 16 * k + 200 < _; omega⟩
theorem Room.in1 {k:Nat} {A:Around} (r:Room (k + 1) A):Room k A.in1 :=
 ⟨r.hd,by have:=r.dp; show A.depth + 3 * k + 5 < _; omega,by have:=r.un; show A.units + 1 + 16 * k + 200 < _; omega⟩
theorem make_depth {A:Around} {C:Addr} {us:List Value} {kw:List (Str×Value)}:(A.under (.builtin "type.__call__" ⟨.ref C::us,kw⟩)).depth = A.depth + 1:=by
 first | rfl | simp [Around.under,Code.weight,Code.isCreation,Code.isGuard,Code.isCaller,Code.frames,Code.isFrame,guardIds]
theorem make_units {A:Around} {C:Addr} {us:List Value} {kw:List (Str×Value)}:(A.under (.builtin "type.__call__" ⟨.ref C::us,kw⟩)).units = A.units + 1:=by
 first | rfl | simp [Around.under,Code.cUnits,Code.frames,Code.isFrame]
theorem Room.make {k:Nat} {A:Around} (r:Room (k + 1) A) (C:Addr) (us:List Value) (kw:List (Str×Value)):Room k (A.under (.builtin "type.__call__" ⟨.ref C::us,kw⟩)) :=
 ⟨r.hd,by have:=r.dp; rw [make_depth]; omega,by have:=r.un; rw [make_units]; omega⟩
theorem Room.depth {k:Nat} {A:Around} (r:Room k A):A.depth < recursionLimit:=by have:=r.dp; omega
theorem Room.units {k:Nat} {A:Around} (r:Room k A):A.units + 64 < cLine:=by have:=r.un; omega
theorem Room.units0 {k:Nat} {A:Around} (r:Room k A):A.units < cLine:=by have:=r.un; omega
noncomputable def tNil:TA:=fun _ H Q => Q [] H
noncomputable def tCons (ta:TE) (tr:TA):TA:=fun σ H Q => ta σ H fun x H1 => tr σ H1 fun xs H2 => Q (x::xs) H2
section
variable {X:Cx} {e:Expr} {es:List Expr} {te:TE} {t:TA} {pos:Pos}
theorem pa_nil:PA X [] tNil:=fun _ _ _ _ H Q I h => Calls.spliced_nil ⟨[],H,I,.nil,h⟩
theorem pa_cons (ha:PE X e te) (hr:PA X es t) (hs:starEach (e::es) X.env = (false,eval e X.env)::starEach es X.env:=by rfl):PA X (e::es) (tCons te t):=by
 intro pos pins s σ H Q I h
 rw [hs]
 show wpAny _ _ (spliced ((false,eval e X.env)::backTo pos (starEach es X.env))) _ _ s
 refine Calls.spliced_cons (thn (ha pins s σ H _ I h) fun u s1 zz => ?_)
 obtain ⟨x,H1,I1,r1,q1⟩:=zz
 exact thn (hr pos pins s1 σ H1 _ I1 q1) fun us s2 ⟨xs,H2,I2,r2,q2⟩ => ⟨x::xs,H2,I2,.cons r1 r2,q2⟩
noncomputable def tTup (t:TA):TE:=fun σ H Q => t σ H fun xs H1 => xs.length≤sizeLine∧∀ p,H1 p = none→Q (.ref p) (upd H1 p (.tup xs))
noncomputable def tLst (t:TA):TE:=fun σ H Q => t σ H fun xs H1 => xs.length≤sizeLine∧∀ p,H1 p = none→Q (.ref p) (upd H1 p (.lst xs))
theorem pe_tup {x1} (h:PA X es t):PE X (.Tuple es x1 pos) (tTup t):=by
 intro pins s σ H Q I hq
 refine wpAny_Tuple_spliced (thn (h pos pins s σ H _ I hq) fun us s1 ⟨xs,H1,I1,r,z,q⟩ => ⟨by rw [← r.length]; exact z,?_⟩)
 have hf:H1 s1.heap.objs.size = none:=I1.hok.fresh (Nat.le_refl _)
 refine ⟨.ref s1.heap.objs.size,upd H1 s1.heap.objs.size (.tup xs),I1.laid (t':=s1.toks) (fun b u e => Heap.get?_push_of_some _ e) (Nat.le_refl _) ?_,rfl,q _ hf⟩
 exact ⟨z,us,r,⟨_,Heap.get?_push_size _ rfl,rfl,_,rfl,rfl⟩⟩
theorem pe_lst (h:PA X es t):PE X (.List es pos) (tLst t):=by
 intro pins s σ H Q I hq
 refine wpAny_List_spliced (thn (h pos pins s σ H _ I hq) fun us s1 ⟨xs,H1,I1,r,z,q⟩ => ⟨by rw [← r.length]; exact z,?_⟩)
 have hf:H1 s1.heap.objs.size = none:=I1.hok.fresh (Nat.le_refl _)
 refine ⟨.ref s1.heap.objs.size,upd H1 s1.heap.objs.size (.lst xs),I1.laid (t':=s1.toks) (fun b u e => Heap.get?_push_of_some _ e) (Nat.le_refl _) ?_,rfl,q _ hf⟩
 exact ⟨z,us,0,r,Heap.get?_push_size _ rfl⟩
end
noncomputable abbrev Sp:=List V→Hp→VK→XK→Prop
noncomputable abbrev CXT:=List Env→Hp→Shared→XK→Value→Shared→Prop
structure Env0 (P:Program) (w:World) (K:PySem.W.Frag) (mg:Str→Option Value) (base:Heap) (A:Around) (outer:List Env) (s:Shared) (H:Hp):Prop where
 frames:A.frames = some outer
 mod:Mod K mg base
 bs:∀ b o,base.get? b = some o→s.heap.get? b = some o∧H b = none
 bsz:base.objs.size≤s.heap.objs.size
 funs:s.heap.FunFrames base outer
 frf:∀ b∈frs outer,H b = none
 hok:HOk P w H s.heap
 bare:AllBare s.gens
noncomputable def CE (outer:List Env) (P:Program) (w:World) (H:Hp) (s:Shared) (Q:VK) (u:Value) (s':Shared):Prop :=
 ∃ v H',s'.os = s.os∧AllBare s'.gens∧Un (frs outer) [] H H' s.heap s'.heap∧HOk P w H' s'.heap∧RelV v u∧Q v H'
noncomputable def CR (CX:CXT) (outer:List Env) (P:Program) (w:World) (H:Hp) (s:Shared) (Q:VK) (E:XK) (r:Result) (s':Shared):Prop :=
 match r with
 | .ok (.ret u) => CE outer P w H s Q u s'
 | .ok _ => False
 | .error e => CX outer H s E e s'
structure FnOk (P:Program) (w:World) (K:PySem.W.Frag) (mg:Str→Option Value) (base:Heap) (CX:CXT) (k:Nat) (f:Addr) (fd:FuncData) (ps:List Str) (sp:Sp):Prop where
 len:∀ vs H Q E,sp vs H Q E→vs.length = ps.length
 run:∀ (A:Around) (outer:List Env) (s:Shared) (H:Hp) (args:Args) (us:List Value) (vs:List V) (Q:VK) (E:XK),Room k A→Env0 P w K mg base A outer s H→BindsTo s fd args (ps.zip us)→Vals vs us→sp vs H Q E →
  codeAny (model P w) A (.call (.ref f) args) (CR CX outer P w H s Q E) s
theorem Env0.make {P:Program} {w:World} {K:PySem.W.Frag} {mg:Str→Option Value} {base:Heap} {A:Around} {outer:List Env} {s:Shared} {H:Hp} (e:Env0 P w K mg base A outer s H) (C:Addr) (us:List Value) (kw:List (Str×Value)) :
  Env0 P w K mg base (A.under (.builtin "type.__call__" ⟨.ref C::us,kw⟩)) outer s H:=⟨by first | exact e.frames | (simpa [Around.under,Code.envs,Code.isFrame,pushEnvs] using e.frames),e.mod,e.bs,e.bsz,e.funs,e.frf,e.hok,e.bare⟩
section
variable {X:Cx} {pins:List (Addr×Obj)} {σ:St} {H:Hp} {s s':Shared}
theorem Inv.env0 (I:Inv X pins σ H s):Env0 X.prog X.w X.K X.mg X.base X.A X.stack s H :=
 ⟨I.ok.frames,I.ok.mod,I.bs,Nat.le_trans I.ok.bsz I.sz,I.stack,I.stkFree,I.hok,I.bare⟩
theorem Inv.after {Q:VK} {u:Value} (I:Inv X pins σ H s) (h:CE X.stack X.prog X.w H s Q u s'):EP X pins σ Q u s':=by
 obtain ⟨v,H',os,bare,un,hok,r,q⟩:=h
 obtain ⟨hh,g,d,t,os'⟩:=s'
 obtain rfl:os' = s.os:=os
 exact ⟨v,H',I.call (h':=hh) (g':=g) (d':=d) (t':=t) (ch:=[]) un hok bare (fun b z => absurd z (by simp)),r,q⟩
end
noncomputable def tCall (sp:Sp) (dvs:List V) (E:XK) (t:TA):TE:=fun σ H Q => t σ H fun vs H1 => sp (vs++dvs) H1 Q E
noncomputable def Binds (K:PySem.W.Frag) (fd:FuncData) (ps:List Str) (ds:List Value):Prop :=
 ∀ (s:Shared) (us:List Value),K.In s.heap→(us++ds).length = ps.length→BindsTo s fd ⟨us,[]⟩ (ps.zip (us++ds))
theorem Binds.all {K:PySem.W.Frag} {fd:FuncData} {ps:List Str} (h:∀ us:List Value,us.length = ps.length→bindArgs fd ⟨us,[]⟩ = pure (ps.zip us)):Binds K fd ps []:=fun s us _ hl => by
 rw [List.append_nil] at hl ⊢
 exact .of_eq (h us hl)
noncomputable def Passes (CX:CXT) (X:Cx) (E:XK):Prop:=∀ (pins:List (Addr×Obj)) (σ:St) (H:Hp) (s:Shared) (e:Value) (s':Shared),Inv X pins σ H s→CX X.stack H s E e s'→X.xe e s'
section
variable {X:Cx} {CX:CXT} {k:Nat} {f C:Addr} {fd:FuncData} {ps:List Str} {sp:Sp} {dvs:List V} {ds:List Value} {E:XK} {x m:Str} {p pos apos:Pos} {e o:Expr} {es:List Expr} {ta:TE} {t:TA}
theorem run_fn {pins:List (Addr×Obj)} {σ:St} {H:Hp} {s:Shared} {Q:VK} {us:List Value} {vs:List V} (F:FnOk X.prog X.w X.K X.mg X.base CX k f fd ps sp) (hr:Room k X.A) (hb:Binds X.K fd ps ds) (hd:Vals dvs ds) (hx:Passes CX X E)
  (I:Inv X pins σ H s) (r:Vals vs us) (h:sp (vs++dvs) H Q E):wpAny (model X.prog X.w) X.A (call (.ref f) us) (EP X pins σ Q) X.xe s:=by
 have r2:Vals (vs++dvs) (us++ds):=r.append hd
 have hl:(us++ds).length = ps.length:=by rw [← r2.length]; exact F.len _ _ _ _ h
 refine wpAny_call (codeAny_mono (F.run X.A X.stack s H ⟨us,[]⟩ (us++ds) (vs++dvs) Q E hr I.env0 (hb s us I.kIn hl) r2 h) fun r s' hq => ?_)
 cases r with
 | error e => exact hx pins σ H s e s' I hq
 | ok fl =>
  cases fl with
  | ret u => exact I.after hq
  | next => exact False.elim hq
  | brk => exact False.elim hq
  | cont => exact False.elim hq
theorem pe_call (F:FnOk X.prog X.w X.K X.mg X.base CX k f fd ps sp) (hr:Room k X.A) (hg:Gl X x) (hm:X.mg x = some (.ref f)) (hk:PySem.W.keepIn X.K (.ref f) = true) (hb:Binds X.K fd ps ds) (hd:Vals dvs ds) (hx:Passes CX X E)
  (ha:PA X (e::es) t) (hdb:(x == ("__debug__" : Str)) = false:=by decide) (he:starEach (e::es) X.env = (false,eval e X.env)::starEach es X.env:=by rfl) (hpl:(backTo pos (starEach es X.env)).any (·.1) = false:=by rfl) :
  PE X (.Call (.Name x p) (e::es) [] pos) (tCall sp dvs E t):=by
 intro pins s σ H Q I h
 refine wpAny_Call_Name_kw (ld_glob I hg hm ?_ hdb)
 refine PySem.W.callWith_K (h₀:=X.base) I.ok.mod.kin hk (thn (ha pos pins s σ H _ I h) fun us s1 ⟨vs,H1,I1,r,q⟩ => ⟨I1.kIn,?_⟩) he hpl
 exact run_fn F hr hb hd hx I1 r q
end
noncomputable def PK (X:Cx) (kws:List Keyword) (t:TA):Prop :=
 ∀ (pos:Pos) (pins:List (Addr×Obj)) (s:Shared) (σ:St) (H:Hp) (Q:List V→Hp→Prop),Inv X pins σ H s→t σ H Q→wpAny (model X.prog X.w) X.A (evalAll ((backToKw pos (keywordEach kws X.env)).map (·.2))) (AP X pins σ Q) X.xe s
section
variable {X:Cx} {CX:CXT} {k:Nat} {f C:Addr} {fd:FuncData} {ps ks:List Str} {sp:Sp} {E:XK} {x m:Str} {p pos apos kpos:Pos} {e o:Expr} {es:List Expr} {kws:List Keyword} {te ta:TE} {t tk:TA} {nm:Option Str}
theorem pk_nil:PK X [] tNil:=fun _ _ _ _ H Q I h => wpAny_evalAll_nil ⟨[],H,I,.nil,h⟩
theorem pk_cons (ha:PE X e te) (hr:PK X kws t):PK X (⟨nm,e,kpos⟩::kws) (tCons te t):=by
 intro pos pins s σ H Q I h
 show wpAny _ _ (evalAll ((do let v ← eval e X.env; standAt pos; pure v)::(backToKw pos (keywordEach kws X.env)).map (·.2))) _ _ s
 refine wpAny_evalAll_cons (wpAny_bind (thn (ha pins s σ H _ I h) fun u s1 ⟨x,H1,I1,r1,q1⟩ => wpAny_bind (wpAny_standAt (wpAny_pure ?_))))
 exact thn (hr pos pins s1 σ H1 _ I1 q1) fun us s2 ⟨xs,H2,I2,r2,q2⟩ => ⟨x::xs,H2,I2,.cons r1 r2,q2⟩
variable {g:List Value→List Value→List Value} {gV:List V→List V→List V}
end
structure FnScope (N P:List Str) (sc:Scope):Prop where
 kind:sc.kind = .function
 co:sc.isCoroutine = false
 gen:sc.isGenerator = false
 nd:N.Nodup
 pre:N.take P.length = P
 par:∀ x∈P,sc.names.lookup x = some .local∨sc.names.lookup x = some .cell
 nofree:∀ y∈sc.names,y.2≠.free
theorem bindL_out {kindOf:Str→Option NameKind} {x:Str}:∀ {binds:List (Str×Value)} {m:Str→Option Value},(∀ v,(x,v)∉binds)→bindL kindOf binds m x = m x
 | [],_,_ => rfl
 | (n,v)::r,m,h => by
  unfold bindL
  rw [bindL_out fun w hw => h w (List.mem_cons_of_mem _ hw)]
  split
  ·have:x≠n:=by rintro rfl; exact h v List.mem_cons_self
   simp [this]
  ·rfl
theorem bindC_out {kindOf:Str→Option NameKind} {x:Str}:∀ {binds:List (Str×Value)} {m:Str→Option Value},(∀ v,(x,v)∉binds)→bindC kindOf binds m x = m x
 | [],_,_ => rfl
 | (n,v)::r,m,h => by
  unfold bindC
  rw [bindC_out fun w hw => h w (List.mem_cons_of_mem _ hw)]
  split
  ·rfl
  ·have:x≠n:=by rintro rfl; exact h v List.mem_cons_self
   simp [this]
theorem bindL_get {kindOf:Str→Option NameKind} {x:Str} {v:Value}:∀ {P:List Str} {vs:List Value} {i:Nat} {m:Str→Option Value},P.Nodup→P[i]? = some x→vs[i]? = some v→kindOf x = some .local →
  bindL kindOf (P.zip vs) m x = some v
 | [],_,_,_,_,h,_,_ => by simp at h
 | _::_,[],_,_,_,_,h,_ => by simp at h
 | p::P,w::vs,0,m,nd,h1,h2,hk => by
  simp at h1 h2; subst h1; subst h2
  show bindL kindOf ((p,w)::P.zip vs) m p = _
  unfold bindL
  rw [bindL_out fun v hv => (List.nodup_cons.mp nd).1 (List.of_mem_zip hv).1,if_pos hk]
  simp
 | p::P,w::vs,i + 1,m,nd,h1,h2,hk => by
  show bindL kindOf ((p,w)::P.zip vs) m x = _
  unfold bindL
  exact bindL_get (i:=i) (List.nodup_cons.mp nd).2 (by simpa using h1) (by simpa using h2) hk
theorem bindC_get {kindOf:Str→Option NameKind} {x:Str} {v:Value}:∀ {P:List Str} {vs:List Value} {i:Nat} {m:Str→Option Value},P.Nodup→P[i]? = some x→vs[i]? = some v→kindOf x≠some .local →
  bindC kindOf (P.zip vs) m x = some v
 | [],_,_,_,_,h,_,_ => by simp at h
 | _::_,[],_,_,_,_,h,_ => by simp at h
 | p::P,w::vs,0,m,nd,h1,h2,hk => by
  simp at h1 h2; subst h1; subst h2
  show bindC kindOf ((p,w)::P.zip vs) m p = _
  unfold bindC
  rw [bindC_out fun v hv => (List.nodup_cons.mp nd).1 (List.of_mem_zip hv).1,if_neg hk]
  simp
 | p::P,w::vs,i + 1,m,nd,h1,h2,hk => by
  show bindC kindOf ((p,w)::P.zip vs) m x = _
  unfold bindC
  exact bindC_get (i:=i) (List.nodup_cons.mp nd).2 (by simpa using h1) (by simpa using h2) hk
noncomputable def start (N:List Str) (vs:List V):St:=vs.map some++List.replicate (N.length - vs.length) none
noncomputable def cxOf (CX:CXT) (P:Program) (w:World) (K:PySem.W.Frag) (mg:Str→Option Value) (base:Heap) (N:List Str) (qual:Str) (scope:Scope) (f:Addr) (cd:Value) (A:Around) (outer:List Env) (s:Shared) (H:Hp) (E:XK):Cx where
 prog:=P
 w:=w
 K:=K
 mg:=mg
 base:=base
 A:=A.deeper (envOfC qual scope s.heap.objs.size f cd)
 N:=N
 s₀:=s
 H₀:=H
 env:=envOfC qual scope s.heap.objs.size f cd
 outer:=outer
 stack:=envOfC qual scope s.heap.objs.size f cd::outer
 ex:=[]
 calm:=true
 fn:=fun _ => true
 pn:=[]
 xe:=fun e s' => wpAny (model P w) (A.deeper (envOfC qual scope s.heap.objs.size f cd)) (leaving (envOfC qual scope s.heap.objs.size f cd) e) (fun _ s'' => CX outer H s E e s'') (fun e' s'' => CX outer H s E e' s'') s'
theorem cell_has {sc:Scope} {n:Nat} {x:Str} (h:sc.names.lookup x = some .cell):∃ c,(cellsFrom n sc.names []).lookup x = some c:=by
 have q:=PySem.W.cellsFrom_some sc.names n [] (.inl h)
 exact Option.isSome_iff_exists.mp q
theorem inv_start {CX:CXT} {P:Program} {w:World} {K:PySem.W.Frag} {mg:Str→Option Value} {base:Heap} {N ps:List Str} {qual:Str} {scope:Scope} {f:Addr} {cd:Value} {A:Around} {outer:List Env} {s s1:Shared} {H:Hp} {E:XK} {us:List Value} {vs:List V}
  (S:FnScope N ps scope) (hd:A.handled = none) (e0:Env0 P w K mg base A outer s H) (hl:vs.length = ps.length) (r:Vals vs us)
  (x:InCallC s s.heap.objs.size (bindL (envOfC qual scope s.heap.objs.size f cd).kindOf (ps.zip us) fun _ => none) (cellsFrom (s.heap.objs.size + 1) scope.names []) (bindC (envOfC qual scope s.heap.objs.size f cd).kindOf (ps.zip us) fun _ => none) s1) :
  Inv (cxOf CX P w K mg base N qual scope f cd A outer s H E) [] (start N vs) H s1:=by
 have hpl:ps.length≤N.length:=by have:=congrArg List.length S.pre; rw [List.length_take] at this; omega
 obtain ⟨h1,tk,rfl,hk⟩:=x.done
 have noA:∀ b:Addr,b∉(cxOf CX P w K mg base N qual scope f cd A outer s H E).ex:=fun b z => absurd (show b∈([]:List Addr) from z) (by simp)
 refine ⟨⟨e0.mod,S.kind,rfl,rfl,Nat.le_refl _,fun y z c h1 h2 => ?_,fun y hy => ?_,fun y c _ h => ?_,fun _ => hd,Around.frames_deeper e0.frames,.inr ⟨rfl,rfl⟩,fun b z => absurd z (noA b),e0.bs,e0.bsz,fun b _ _ => noA b,fun b z => absurd z (noA b),e0.funs,e0.frf⟩,
  rfl,e0.bare,Un.kept hk,⟨_,x.toInCall.ns,fun i y v h1 h2 h3 => ?_⟩,fun y c h => ⟨_,x.cell y c h⟩,e0.hok.fresh (Nat.le_refl _),fun y c h => ?_,fun p hp => absurd (show p∈([]:List (Addr×Obj)) from hp) (by simp),e0.hok.kept hk,?_⟩
 ·exact name_of_addr x.apart (PySem.mem_of_lookup h1) (PySem.mem_of_lookup h2)
 ·have hy:scope.names.lookup y = some .cell∨scope.names.lookup y = some .free:=hy
  rcases hy with hy | hy
  ·exact cell_has hy
  ·exact absurd rfl (S.nofree _ (PySem.mem_of_lookup hy))
 ·exact Nat.le_of_lt (x.above y c (PySem.mem_of_lookup h))
 ·have hi:i < vs.length:=by
   unfold start at h2
   by_cases hi:i < vs.length
   ·exact hi
   ·rw [List.getElem?_append_right (by simpa using hi)] at h2
    rw [List.getElem?_replicate] at h2
    split at h2 <;> cases h2
  have ha:vs[i]? = some v:=by
   unfold start at h2
   rw [List.getElem?_append_left (by simpa using hi),List.getElem?_map] at h2
   cases e:vs[i]? with
   | none => rw [e] at h2; cases h2
   | some a => rw [e] at h2; cases h2; rfl
  obtain ⟨u,hu,rv⟩:=r.get ha
  have hp:ps[i]? = some y:=by
   rw [← S.pre,List.getElem?_take_of_lt (by omega)]; exact h1
  have ndP:ps.Nodup:=by rw [← S.pre]; exact S.nd.sublist (List.take_sublist _ _)
  refine ⟨u,rv,?_⟩
  rcases S.par y (List.mem_of_getElem? hp) with k | k
  ·exact .inl ⟨k,bindL_get ndP hp hu k⟩
  ·obtain ⟨c,e⟩:=cell_has (n:=s.heap.objs.size + 1) k
   refine .inr ⟨.inl k,c,e,?_⟩
   have q:=x.cell y c e
   rw [bindC_get ndP hp hu (by show scope.names.lookup y≠_; rw [k]; decide)] at q
   exact q
 ·exact e0.hok.fresh (Nat.le_of_lt (x.above y c (PySem.mem_of_lookup h)))
 ·unfold start
  show _ = N.length
  rw [List.length_append,List.length_map,List.length_replicate]
  omega
theorem fn_of {CX:CXT} {P:Program} {w:World} {K:PySem.W.Frag} {mg:Str→Option Value} {base:Heap} {k:Nat} {f:Addr} {name qual:Str} {params:Arguments} {body:List Stmt} {scope:Scope} {dV kV doc pm cdv ct oc:Value} {an od:Option Addr}
  {osl:Array (Option Value)} {N ps:List Str} {sp:Sp} (lk:K.lookup f = some ⟨oc,od,.func (PySem.W.fnOf name qual params body scope dV kV doc pm an cdv ct),osl⟩) (hcd:PySem.W.codeIn K cdv qual = true) (S:FnScope N ps scope)
  (len:∀ vs H Q E,sp vs H Q E→vs.length = ps.length)
  (hbody:∀ (A:Around) (outer:List Env) (s:Shared) (H:Hp) (vs:List V) (Q:VK) (E:XK),Room k (A.deeper (envOfC qual scope s.heap.objs.size f cdv))→sp vs H Q E →
   ∃ t,PSs (cxOf CX P w K mg base N qual scope f cdv A outer s H E) body t∧t { nx:=fun _ H' => Q .non H',rt:=Q } (start N vs) H) :
  FnOk P w K mg base CX (k + 1) f (PySem.W.fnOf name qual params body scope dV kV doc pm an cdv ct) ps sp:=by
 refine ⟨len,fun A outer s H args us vs Q E hr e0 hb r hsp => ?_⟩
 have hl:=len _ _ _ _ hsp
 have KX:K.In s.heap:=e0.mod.kin.keeps fun b o e => (e0.bs b o e).1
 have lim:s.heap.NoLimit:=e0.mod.nolimit.keeps fun b o e => (e0.bs b o e).1
 have hkind:∀ y∈ps.zip us,scope.names.lookup y.1 = some .local∨(scope.names.lookup y.1 = some .cell∧((cellsFrom (s.heap.objs.size + 1) scope.names []).lookup y.1).isSome = true):=fun ⟨n,v⟩ hy => by
  rcases S.par n (List.of_mem_zip hy).1 with q | q
  ·exact .inl q
  ·exact .inr ⟨q,PySem.W.cellsFrom_some _ _ _ (.inl q)⟩
 refine codeAny_call_function hr.depth (KX _ _ lk) rfl S.co S.gen rfl (PySem.W.codeRec_of KX hcd) (hb _ _ _ _ ?_)
 refine wpAny_newFunctionEnv_cells S.kind hkind fun env he s1 x => ?_
 subst he
 refine ⟨lim.keeps x.toInCall.keep,codeAny_func ?_⟩
 obtain ⟨t,ht,hq⟩:=hbody A outer s H vs Q E (hr.deeper _) hsp
 have I:Inv (cxOf CX P w K mg base N qual scope f cdv A outer s H E) [] (start N vs) H s1:=inv_start S hr.hd e0 hl r x
 refine wpAny_mono (ht [] s1 (start N vs) H _ I hq) (fun fl s' hs => ?_) fun e s' hs => hs
 have fin:∀ {σ':St} {H':Hp} {v:V} {u:Value},Inv (cxOf CX P w K mg base N qual scope f cdv A outer s H E) [] σ' H' s'→RelV v u→Q v H'→CE outer P w H s Q u s' :=
  fun {σ' H' v u} J rv q => ⟨v,H',J.os,J.bare,J.base,J.hok,rv,q⟩
 cases fl with
 | ret u =>
  obtain ⟨v,σ',H',J,rv,q⟩:=hs
  exact fin J rv q
 | next =>
  obtain ⟨σ',H',J,q⟩:=hs
  exact fin (v:=V.non) (u:=Value.none) J rfl q
 | brk =>
  obtain ⟨_,_,_,q⟩:=hs
  exact False.elim q
 | cont =>
  obtain ⟨_,_,_,q⟩:=hs
  exact False.elim q
section
variable {X:Cx} {x:Str} {p pos:Pos} {e:Expr} {es:List Expr} {t:TA} {id T:String} {r:List V→Hp→VK→Prop}
noncomputable def tCB (r:List V→Hp→VK→Prop) (t:TA):TE:=fun σ H Q => t σ H fun vs H1 => r vs H1 Q
theorem pe_callB (hc:CallR X (.builtin id) r) (hg:Gl X x) (hm:X.mg x = none) (hv:bootBuiltins x = some (.builtin id)) (ha:PA X (e::es) t) (hn:x ≠ "__name__":=by decide) (hdb:(x == ("__debug__" : Str)) = false:=by decide)
  (he:starEach (e::es) X.env = (false,eval e X.env)::starEach es X.env:=by rfl) (hpl:(backTo pos (starEach es X.env)).any (·.1) = false:=by rfl):PE X (.Call (.Name x p) (e::es) [] pos) (tCB r t):=by
 intro pins s σ H Q I h
 refine wpAny_Call_Name_kw (ld_blt I hg hm hv ?_ hn hdb)
 exact PyProof.Rows.callWith_builtin1 (thn (ha pos pins s σ H _ I h) fun us s1 ⟨vs,H1,I1,r1,q1⟩ => hc pins s1 σ H1 vs us Q I1 r1 q1) he hpl
theorem pe_callTy (hc:CallR X (.type T) r) (hg:Gl X x) (hm:X.mg x = none) (hv:bootBuiltins x = some (.type T)) (ha:PA X (e::es) t) (hn:x ≠ "__name__":=by decide) (hdb:(x == ("__debug__" : Str)) = false:=by decide)
  (he:starEach (e::es) X.env = (false,eval e X.env)::starEach es X.env:=by rfl) (hpl:(backTo pos (starEach es X.env)).any (·.1) = false:=by rfl):PE X (.Call (.Name x p) (e::es) [] pos) (tCB r t):=by
 intro pins s σ H Q I h
 refine wpAny_Call_Name_kw (ld_blt I hg hm hv ?_ hn hdb)
 exact PyProof.Rows.callWith_type1 (thn (ha pos pins s σ H _ I h) fun us s1 ⟨vs,H1,I1,r1,q1⟩ => hc pins s1 σ H1 vs us Q I1 r1 q1) he hpl
end
end L2
namespace HT
open PySem PyProof.Rows
noncomputable def lexLt:List Int→List Int→Bool
 | [],[] => false
 | [],_::_ => true
 | _::_,[] => false
 | x::xs,y::ys => if x = y then lexLt xs ys else decide (x < y)
theorem lexLt_cons (x y:Int) (xs ys:List Int):lexLt (x::xs) (y::ys) = if x = y then lexLt xs ys else decide (x < y):=rfl
theorem lexLt_nil_nil:lexLt [] [] = false:=rfl
theorem lexLt_nil_cons (y:Int) (ys:List Int):lexLt [] (y::ys) = true:=rfl
theorem lexLt_cons_nil (x:Int) (xs:List Int):lexLt (x::xs) [] = false:=rfl
theorem eqAt_int (A:Around) (s:Shared) (a:Int) (t:Tok) (c:Int) (u:Tok):∃ e,SeqAt.EqAt A s (.int a t) (.int c u) e∧(e = true↔a = c) :=
 ⟨(a == c),SeqAt.EqAt.int_int a t c u,by simp⟩
theorem rcLt_int (A:Around) (s:Shared) (a:Int) (t:Tok) (c:Int) (u:Tok) (prog:Program) (w:World) (E:Value→Shared→Prop) (Q:Value→Shared→Prop) (h:Q (.bool (decide (a < c))) s) :
  wpAny (model prog w) A (richCompare .Lt (.int a t) (.int c u)) Q E s :=
 (PyProof.Rows.lt_int h:wpAny (model prog w) A (compareOp .Lt (.int a t) (.int c u)) Q E s)
section
open PySem.SeqAt
open PySem.AutoSeq1 (wpAny_loadPart')
open PySem.MeetsSeq PySem.MeetsSeq2 PySem.MeetsSeq3
theorem tuple_lt_ints (l b:Addr) (items items2:Array Value) (n n2:Nat) (dd dd2:Option Addr) (sl sl2:Array (Option Value)) (ns ms:List Int) (hi:IntsAre items.toList ns) (hj:IntsAre items2.toList ms) :
  Meets (Builtin.«tuple.__lt__» ⟨[.ref l,.ref b],[]⟩)
   (fun _ R s => s.heap.get? l = some { cls:=.type "tuple",dict:=dd,data:=.seq items n,slots:=sl }∧s.heap.get? b = some { cls:=.type "tuple",dict:=dd2,data:=.seq items2 n2,slots:=sl2 } ∧
    R (.ok (.ret (.bool (lexLt ns ms)))) s) :=
 .of_wp fun prog w A R s h => by
  obtain ⟨hp,g,d,tk,os⟩:=s; obtain ⟨hl,hb,h⟩:=h
  have f2:=AutoSeq1.sub_tuple_tuple
  have z1:items.size = ns.length:=by rw [← hi.length]; simp
  have z2:items2.size = ms.length:=by rw [← hj.length]; simp
  wp_walk using wpAny_loadPart' hl,wpAny_loadPart' hb,wpAny_forIn_list _ (fun rest b s' => b.1 = none∧s' = ⟨hp,g,d,tk,os⟩∧∃ (vs ws:List Value) (ns' ms':List Int),rest = vs.zip ws ∧
   IntsAre vs ns'∧IntsAre ws ms'∧ns'.length + items2.size = ms'.length + items.size∧R (.ok (.ret (.bool (lexLt ns' ms')))) ⟨hp,g,d,tk,os⟩) _
  case turn =>
   rintro ⟨y,x⟩ rest b s' ⟨hb',rfl,vs,ws,ns',ms',hz,hvi,hwi,hlen,hR⟩
   cases hvi with
   | nil => rw [List.zip_nil_left] at hz; cases hz
   | cons a t hvi' =>
    cases hwi with
    | nil => rw [List.zip_nil_right] at hz; cases hz
    | cons c u hwi' =>
     rw [List.zip_cons_cons] at hz
     injection hz with hyx hrest
     injection hyx with hy hx
     subst hy hx
     rw [lexLt_cons] at hR
     simp only [List.length_cons] at hlen
     obtain ⟨e,he,hiff⟩:=eqAt_int A.in1 ⟨hp,g,d,tk,os⟩ a t c u
     refine wpAny_bind (he prog w _ _ ?_)
     cases e with
     | true =>
      rw [if_pos (hiff.mp rfl)] at hR
      wp_walk
      exact ⟨rfl,rfl,_,_,_,_,hrest,hvi',hwi',by omega,hR⟩
     | false =>
      rw [if_neg (fun q => absurd (hiff.mpr q) Bool.false_ne_true)] at hR
      have hri:=rcLt_int A.in1 ⟨hp,g,d,tk,os⟩ a t c u prog w
      wp_walk using hri
      exact ⟨_,rfl,by simpa using hR⟩
  case fin =>
   rintro ⟨b1,b2⟩ s' ⟨hb',rfl,vs,ws,ns',ms',hz,hvi,hwi,hlen,hR⟩
   simp only at hb'
   subst hb'
   have hv:lexLt ns' ms' = decide (items.size < items2.size):=by
    cases hvi with
    | nil =>
     cases hwi with
     | nil =>
      simp only [List.length_nil] at hlen
      rw [lexLt_nil_nil]
      exact (decide_eq_false (by omega)).symm
     | cons c u hw =>
      simp only [List.length_nil,List.length_cons] at hlen
      rw [lexLt_nil_cons]
      exact (decide_eq_true (by omega)).symm
    | cons a t hv =>
     cases hwi with
     | nil =>
      simp only [List.length_nil,List.length_cons] at hlen
      rw [lexLt_cons_nil]
      exact (decide_eq_false (by omega)).symm
     | cons c u hw =>
      rw [List.zip_cons_cons] at hz
      cases hz
   rw [hv] at hR
   wp_walk
   exact ⟨_,rfl,by simpa [Builtin.Tuple.tupleCompareSizes] using hR⟩
  case h =>
   exact ⟨rfl,rfl,items.toList,items2.toList,ns,ms,rfl,hi,hj,by omega,h⟩
end
section
variable {prog:Program} {w:World} {A:Around} {E:Value→Shared→Prop} {s:Shared}
theorem lt_tupInts {l b:Addr} {items items2:Array Value} {ns ms:List Int} {Q:Value→Shared→Prop} (hl:IsTup s.heap l items) (hb:IsTup s.heap b items2) (hi:IntsAre items.toList ns) (hj:IntsAre items2.toList ms)
  (hu:A.units < cLine) (h:Q (.bool (lexLt ns ms)) s):wpAny (model prog w) A (compareOp .Lt (.ref l) (.ref b)) Q E s:=by
 obtain ⟨⟨cls,dd,data,sl⟩,ho,hc,n,hd⟩:=id hl
 obtain ⟨⟨cls2,dd2,data2,sl2⟩,ho2,hc2,n2,hd2⟩:=id hb
 simp only at hc hd hc2 hd2
 subst hc hd hc2 hd2
 exact richCompare_meets_room (op:=.Lt) ⟨_,ho,rfl⟩ ⟨_,ho2,rfl⟩ PySem.F.slot_tuple_lt PySem.F.entry_tuple_lt (PySem.F.args_tuple_lt_2 _ _) (tuple_lt_ints l b items items2 n n2 dd dd2 sl sl2 ns ms hi hj)
  ⟨ho,ho2,show Value.bool (lexLt ns ms)≠Value.notImplemented∧Q (.bool (lexLt ns ms)) s from ⟨(fun x => nomatch x),h⟩⟩ hu
noncomputable def sIx (n d:Nat):Option Int→Nat
 | none => d
 | some v => if v < 0 then (v + (n:Int)).toNat else min v.toNat n
end
end HT
namespace L2
open PySem PySem.Spec PyProof.Rows
noncomputable abbrev TO:=St→Hp→(Option Int→Hp→Prop)→Prop
noncomputable def PO (X:Cx) (e:Option Expr) (t:TO):Prop :=
 ∀ (pins:List (Addr×Obj)) (s:Shared) (σ:St) (H:Hp) (Q:Option Int→Hp→Prop),Inv X pins σ H s→t σ H Q →
  wpAny (model X.prog X.w) X.A (evalPart e X.env) (fun u s' => ∃ o H',Inv X pins σ H' s'∧IsPart u o∧Q o H') X.xe s
noncomputable def tNoPart:TO:=fun _ H Q => Q none H
noncomputable def tPart (t:TE):TO:=fun σ H Q => t σ H fun x H1 => ∃ i,x = .int i∧Q (some i) H1
theorem intsAre_of {ns:List Int}:∀ {us:List Value},Vals (ns.map V.int) us→IntsAre us ns:=by
 induction ns with
 | nil => intro us r; rw [List.map_nil] at r; cases r; exact .nil
 | cons n ns ih =>
  intro us r
  rw [List.map_cons] at r
  cases r with
  | cons r1 r2 =>
   obtain ⟨t,e⟩:=r1
   subst e
   exact .cons n t (ih r2)
section
variable {X:Cx} {e:Expr} {te:TE} {lo hi:Option Expr} {tl th:TO} {pos p2:Pos}
theorem po_none:PO X none tNoPart:=by
 intro pins s σ H Q I h
 rw [evalPart_none]
 exact wpAny_pure ⟨none,H,I,.none,h⟩
theorem po_some (h:PE X e te):PO X (some e) (tPart te):=by
 intro pins s σ H Q I hw
 rw [evalPart_some]
 refine thn (h pins s σ H _ I hw) fun u s1 zz => ?_
 obtain ⟨x,H1,I1,r1,q1⟩:=zz
 obtain ⟨i,rfl,q⟩:=q1
 obtain ⟨t,rfl⟩:=r1
 exact ⟨some i,H1,I1,.int i t,q⟩
noncomputable def SlR (X:Cx) (r:V→Option Int→Option Int→Hp→VK→Prop):Prop :=
 ∀ (pins:List (Addr×Obj)) (s:Shared) (σ:St) (H:Hp) (x:V) (v vl vu:Value) (lo hi:Option Int) (sl:Addr) (Q:VK),Inv X pins σ H s→RelV x v→s.heap.IsSliceOf sl vl vu .none→IsPart vl lo→IsPart vu hi→r x lo hi H Q →
  ∃ T id,typeLookup (.type T) "__getitem__" = pure (some (.builtin id))∧s.TypeIs v T∧wpAny (model X.prog X.w) X.A (getItem v (.ref sl)) (EP X pins σ Q) X.xe s
noncomputable def tSl (r:V→Option Int→Option Int→Hp→VK→Prop) (te:TE) (tl th:TO):TE:=fun σ H Q => te σ H fun x H1 => tl σ H1 fun l H2 => th σ H2 fun u H3 => r x l u H3 Q
theorem pe_slice {r:V→Option Int→Option Int→Hp→VK→Prop} (hr:SlR X r) (he:PE X e te) (hl:PO X lo tl) (hu:PO X hi th):PE X (.Subscript e (.Slice lo hi none p2) pos) (tSl r te tl th):=by
 intro pins s σ H Q I h
 refine Subscript_ (thn (he pins s σ H _ I h) fun v s1 zz => ?_)
 obtain ⟨x,H1,I1,r1,q1⟩:=zz
 refine wpAny_Slice (thn (hl pins s1 σ H1 _ I1 q1) fun vl s2 ⟨l,H2,I2,pl,q2⟩ => thn (hu pins s2 σ H2 _ I2 q2) fun vu s3 zz => ?_)
 obtain ⟨u,H3,I3,pu,q3⟩:=zz
 rw [evalPart_none]
 refine wpAny_pure ?_
 have I4:Inv X pins σ H3 { s3 with heap:=s3.heap.push { cls:=.type "slice",data:=.fields #[vl,vu,.none] } }:=I3.kept (t':=s3.toks) fun b ob q => Heap.get?_push_of_some _ q
 obtain ⟨T,id,hT,ht,hg⟩:=hr pins { s3 with heap:=s3.heap.push { cls:=.type "slice",data:=.fields #[vl,vu,.none] } } σ H3 x v vl vu l u s3.heap.objs.size Q I4 r1 (Heap.IsSliceOf.new ..) pl pu q3
 show wpAny (model X.prog X.w) X.A (subscriptTail e (.Slice lo hi none p2) v (.ref s3.heap.objs.size)) (EP X pins σ Q) X.xe { s3 with heap:=s3.heap.push { cls:=.type "slice",data:=.fields #[vl,vu,.none] } }
 exact tail_any (ops:=[.ref s3.heap.objs.size,v]) ht hT hg (by with_unfolding_all rfl)
noncomputable def rLtT (K:PySem.W.Frag):R2:=fun x y H Q => ∃ a b ns ms,x = .ref a∧y = .ref b∧SqT K H a (ns.map V.int)∧SqT K H b (ms.map V.int)∧Q (.bl (HT.lexLt ns ms)) H
theorem op_ltT (hu:X.A.units < cLine):OpR X (compareOp .Lt) (rLtT X.K):=by
 intro pins s σ H x y v u Q I rx ry h
 obtain ⟨a,b,ns,ms,rfl,rfl,ha,hb,q⟩:=h
 cases rx
 cases ry
 obtain ⟨its,r1,p1,_⟩:=I.tuple ha
 obtain ⟨its2,r2,p2,_⟩:=I.tuple hb
 have i1:IntsAre its.toArray.toList ns:=intsAre_of r1
 have i2:IntsAre its2.toArray.toList ms:=intsAre_of r2
 exact HT.lt_tupInts p1 p2 i1 i2 hu ⟨.bl (HT.lexLt ns ms),H,I,rfl,q⟩
end
noncomputable def ixN (n:Nat) (i:Int):Option Nat:=if 0≤i then (if i < n then some i.toNat else none) else if -(n:Int)≤i then some (i + n).toNat else none
noncomputable def atI {α:Type} (xs:List α) (i:Int):Option α:=(ixN xs.length i).bind fun j => xs[j]?
theorem ixN_seq {n:Nat} {i:Int} {j:Nat} (h:ixN n i = some j):seqIndex? i n = some j∧j < n∧-(n:Int)≤i∧i < n:=by
 unfold ixN at h
 by_cases h0:0≤i
 ·rw [if_pos h0] at h
  by_cases h1:i < n
  ·rw [if_pos h1] at h
   have e:i.toNat = j:=Option.some.inj h
   exact ⟨by rw [seqIndex_of h0 h1,e],by omega,by omega,h1⟩
  ·rw [if_neg h1] at h; cases h
 ·rw [if_neg h0] at h
  by_cases h1 : -(n:Int)≤i
  ·rw [if_pos h1] at h
   have e:(i + n).toNat = j:=Option.some.inj h
   exact ⟨by rw [seqIndex_neg (by omega) h1,e],by omega,h1,by omega⟩
  ·rw [if_neg h1] at h; cases h
theorem atI_get {α:Type} {xs:List α} {i:Int} {v:α} (h:atI xs i = some v):∃ j,seqIndex? i xs.length = some j∧xs[j]? = some v∧j < xs.length∧-(xs.length:Int)≤i∧i < xs.length:=by
 unfold atI at h
 cases e:ixN xs.length i with
 | none => rw [e] at h; cases h
 | some j =>
  rw [e] at h
  obtain ⟨h1,h2,h3,h4⟩:=ixN_seq e
  exact ⟨j,h1,h,h2,h3,h4⟩
noncomputable def PlainIx (b:Expr):Prop:=∀ o i,subscripted b false o i = operate [o,i] (getItem o i)
noncomputable def IxR (X:Cx) (r:R2):Prop :=
 ∀ (value slice:Expr) (pins:List (Addr×Obj)) (s:Shared) (σ:St) (H:Hp) (x y:V) (v u:Value) (Q:VK),Inv X pins σ H s→RelV x v→RelV y u→r x y H Q →
  subscripted slice false v u = operate [v,u] (getItem v u)→wpAny (model X.prog X.w) X.A (subscriptTail value slice v u) (EP X pins σ Q) X.xe s
noncomputable def MtR (X:Cx) (id:String) (r:V→List V→Hp→VK→Prop):Prop :=
 ∀ (pins:List (Addr×Obj)) (s:Shared) (σ:St) (H:Hp) (x:V) (xs:List V) (v:Value) (us:List Value) (Q:VK),Inv X pins σ H s→RelV x v→Vals xs us→r x xs H Q →
  wpAny (model X.prog X.w) X.A (call (.builtin id) (v::us)) (EP X pins σ Q) X.xe s
section
variable {X:Cx} {a b:Expr} {ta tb:TE} {pos:Pos}
theorem pe_ix {r:R2} (hr:IxR X r) (ha:PE X a ta) (hb:PE X b tb) (hs:PlainIx b):PE X (.Subscript a b pos) (tOp r ta tb):=by
 intro pins s σ H Q I h
 exact Subscript_ (binT ha hb I h fun v u s2 x y H2 I2 rx ry q => hr a b pins s2 σ H2 x y v u Q I2 rx ry q (hs _ _))
noncomputable def rIxL (K:PySem.W.Frag):R2:=fun x y H Q => ∃ p xs i v,x = .ref p∧y = .int i∧SqL K H p xs∧atI xs i = some v∧Q v H
noncomputable def rIxT (K:PySem.W.Frag):R2:=fun x y H Q => ∃ p xs i v,x = .ref p∧y = .int i∧SqT K H p xs∧atI xs i = some v∧Q v H
noncomputable def rIxS:R2:=fun x y H Q => ∃ z i c,x = .str z∧y = .int i∧z.length≤sizeLine∧atI z.cps.toList i = some c∧Q (.str ⟨#[c]⟩) H
theorem ix_list:IxR X (rIxL X.K):=by
 intro value slice pins s σ H x y v u Q I rx ry h hs
 obtain ⟨p,xs,i,z,rfl,rfl,hq,he,q⟩:=h
 cases rx
 obtain ⟨t,rfl⟩:=ry
 obtain ⟨its,r,pl,hz⟩:=I.list hq
 obtain ⟨j,h1,h2,h3,h4,h5⟩:=atI_get he
 obtain ⟨w,ew,rw'⟩:=r.get h2
 have hl:=r.length
 have hn:=line63
 have fin:EP X pins σ Q w s:=⟨z,H,I,rw',q⟩
 by_cases h0:0≤i
 ·have hj:i.toNat = j:=by
   rw [seqIndex_of h0 h5] at h1
   exact Option.some.inj h1
  exact item_listR pl.isList h0 (by omega) (by rw [hj]; simpa using ew) fin hs
 ·have hj:(i + (its.toArray.size:Int)).toNat = j:=by
   rw [seqIndex_neg (by omega) h4] at h1
   rw [List.size_toArray,← hl]
   exact Option.some.inj h1
  exact subscriptTail_builtinR (x:=w) pl.isList.typeIs slot_list_getitem.lookup
   (wpAny_getItem_list_neg (Q:=fun r s' => r = w∧EP X pins σ Q r s') pl.isList (by omega) (by rw [List.size_toArray] <;> omega) (by omega) (by rw [hj]; simpa using ew) ⟨rfl,fin⟩) hs
theorem ix_tup:IxR X (rIxT X.K):=by
 intro value slice pins s σ H x y v u Q I rx ry h hs
 obtain ⟨p,xs,i,z,rfl,rfl,hq,he,q⟩:=h
 cases rx
 obtain ⟨t,rfl⟩:=ry
 obtain ⟨its,r,pl,hz⟩:=I.tuple hq
 obtain ⟨j,h1,h2,h3,h4,h5⟩:=atI_get he
 obtain ⟨w,ew,rw'⟩:=r.get h2
 have hl:=r.length
 have hn:=line63
 have fin:EP X pins σ Q w s:=⟨z,H,I,rw',q⟩
 exact subscriptTail_builtinR (x:=w) pl.typeIs slot_tuple_getitem.lookup
  (getItem_tuple (j:=j) (Q:=fun r s' => r = w∧EP X pins σ Q r s') pl (by omega) (by omega) (by rw [List.size_toArray,← hl]; exact h1) (by simpa using ew) ⟨rfl,fin⟩) hs
theorem ix_str:IxR X rIxS:=by
 intro value slice pins s σ H x y v u Q I rx ry h hs
 obtain ⟨z,i,c,rfl,rfl,hz,he,q⟩:=h
 obtain ⟨t,rfl⟩:=rx
 obtain ⟨t',rfl⟩:=ry
 obtain ⟨j,h1,h2,h3,h4,h5⟩:=atI_get he
 have hl:z.cps.toList.length = z.length:=by simp [Str.length]
 rw [hl] at h1 h4 h5
 have hn:=line63
 exact tail_any (typeIs_str s z t) slot_str_getitem.lookup (getItem_str (c:=c) (by
  have e1:decide (i < -(2 ^ 63:Int)) = false:=decide_eq_false (by omega)
  have e2:decide (i ≥ 2 ^ 63) = false:=decide_eq_false (by omega)
  rw [e1,e2,Bool.or_false]) (by rw [h1]; simpa using h2) ⟨.str ⟨#[c]⟩,H,I.tok _,⟨_,rfl⟩,q⟩) hs
theorem mapSeq_set (its:List Value) (n j:Nat) (u:Value):Obj.mapSeq (·.setIfInBounds j u) { cls:=.type "list",data:=.seq its.toArray n } = { cls:=.type "list",data:=.seq (its.set j u).toArray n }:=by
 simp [Obj.mapSeq]
theorem Inv.lst {pins:List (Addr×Obj)} {σ:St} {H:Hp} {s:Shared} {p:Addr} {xs:List V} (I:Inv X pins σ H s) (h:H p = some (.lst xs)) :
  ∃ (its:List Value) (n:Nat),Vals xs its∧s.heap.get? p = some { cls:=.type "list",data:=.seq its.toArray n }∧xs.length≤sizeLine:=by
 obtain ⟨z,its,n,r,e⟩:=I.hok p _ h
 exact ⟨its,n,r,e,z⟩
theorem Inv.lstUpd {pins:List (Addr×Obj)} {σ:St} {H:Hp} {s:Shared} {p:Addr} {xs ys:List V} {its its':List Value} {n n':Nat} {f:Obj→Obj} (I:Inv X pins σ H s) (h:H p = some (.lst xs))
  (ho:s.heap.get? p = some { cls:=.type "list",data:=.seq its.toArray n }) (hf:f { cls:=.type "list",data:=.seq its.toArray n } = { cls:=.type "list",data:=.seq its'.toArray n' }) (r:Vals ys its') (hz:ys.length≤sizeLine) (t:Nat) :
  Inv X pins σ (upd H p (.lst ys)) { s with heap:=s.heap.update p f,toks:=t }:=by
 have e:(s.heap.update p f).get? p = some { cls:=.type "list",data:=.seq its'.toArray n' }:=by
  rw [Heap.get?_update_self f ho (by rw [hf] <;> rfl),hf]
 refine I.write (x:=p) (e:=p) (by rw [h]; trivial) (.inl rfl) (fun b u hb q => (Heap.get?_update_other _ _ (Ne.symm hb)).trans q) ⟨_,e⟩ ?_
 exact ⟨hz,its',n',r,e⟩
noncomputable def rSetL:V→V→V→Hp→(Hp→Prop)→Prop:=fun o i v H Q => ∃ p xs k j,o = .ref p∧i = .int k∧H p = some (.lst xs)∧ixN xs.length k = some j∧Q (upd H p (.lst (xs.set j v)))
theorem set_list:PSet X rSetL:=by
 intro pins s σ H o i v ov iv u Q I ro ri rv h
 obtain ⟨p,xs,k,j,rfl,rfl,hp,hj,q⟩:=h
 cases ro
 obtain ⟨t,rfl⟩:=ri
 obtain ⟨its,n,r,ho,hz⟩:=I.lst hp
 obtain ⟨h1,h2,h3,h4⟩:=ixN_seq hj
 have hl:=r.length
 have hn:=line63
 have I':Inv X pins σ (upd H p (.lst (xs.set j v))) { s with heap:=s.heap.update p (Obj.mapSeq (·.setIfInBounds j u)) } :=
  I.lstUpd hp ho (mapSeq_set its n j u) (r.set rv j) (by rw [List.length_set]; exact hz) s.toks
 by_cases h0:0≤k
 ·have hk:k.toNat = j:=by
   rw [seqIndex_of h0 h4] at h1
   exact Option.some.inj h1
  exact PySem.W.ki_setAt ho h0 (by omega) (by rw [List.size_toArray,← hl]; exact h4) (by rw [hk]; exact ⟨_,I',q⟩)
 ·have hk:(k + (its.toArray.size:Int)).toNat = j:=by
   rw [seqIndex_neg (by omega) h3] at h1
   rw [List.size_toArray,← hl]
   exact Option.some.inj h1
  exact PySem.W.ki_setBack ho (by omega) (by rw [List.size_toArray,← hl]; exact h3) (by omega) (by rw [hk]; exact ⟨_,I',q⟩)
theorem call_len_seq:CallR X (.builtin "len") (fun xs H Q => ∃ p ys,xs = [.ref p]∧(SqL X.K H p ys∨SqT X.K H p ys)∧Q (.int ys.length) H):=by
 intro pins s σ H xs us Q I r h
 obtain ⟨p,ys,rfl,hq,q⟩:=h
 obtain ⟨u,rfl,rx⟩:=vals1 r
 cases rx
 have hn:=line63
 rcases hq with hq | hq
 ·obtain ⟨its,r',pl,hz⟩:=I.list hq
  have hlen:=r'.length
  exact Calls.call_len_list pl.isList (by simp only [List.size_toArray] <;> omega) ⟨.int ys.length,H,I.tok _,⟨s.toks + 1,by rw [List.size_toArray,hlen]⟩,q⟩
 ·obtain ⟨its,r',pl,hz⟩:=I.tuple hq
  have hlen:=r'.length
  exact len_tuple pl (by simp only [List.size_toArray] <;> omega) ⟨.int ys.length,H,I.tok _,⟨s.toks + 1,by rw [List.size_toArray,hlen]⟩,q⟩
theorem call_len_str:CallR X (.builtin "len") (fun xs H Q => ∃ z,xs = [.str z]∧z.length≤sizeLine∧Q (.int z.length) H):=by
 intro pins s σ H xs us Q I r h
 obtain ⟨z,rfl,hz,q⟩:=h
 obtain ⟨u,rfl,t,rfl⟩:=vals1 r
 have hn:=line63
 exact len_str (by omega) ⟨.int z.length,H,I.tok _,⟨_,rfl⟩,q⟩
theorem call_tuple_of:CallR X (.type "tuple") (fun xs H Q => ∃ p ys,xs = [.ref p]∧((SqL X.K H p ys∧∀ l,H l = none→Q (.ref l) (upd H l (.tup ys)))∨(SqT X.K H p ys∧Q (.ref p) H))):=by
 intro pins s σ H xs us Q I r h
 obtain ⟨p,ys,rfl,h⟩:=h
 obtain ⟨u,rfl,rx⟩:=vals1 r
 cases rx
 rcases h with ⟨hq,q⟩ | ⟨hq,q⟩
 ·obtain ⟨its,r',pl,hz⟩:=I.list hq
  have hlen:=r'.length
  refine call_tuple_list pl.isList (fun h' kp => ?_) (by simp only [List.size_toArray] <;> omega)
  have I1:Inv X pins σ H { s with heap:=h' }:=I.kept (t':=s.toks) kp
  have I2:Inv X pins σ (upd H h'.objs.size (.tup ys)) { s with heap:=h'.push { cls:=.type "tuple",data:=.seq its.toArray } } :=
   I1.laid (t':=s.toks) (fun b o e => Heap.get?_push_of_some _ e) (Nat.le_refl _) (show ObjOk X.prog X.w _ _ _ (.tup ys) from ⟨hz,its,r',TupD.new _ _⟩)
  exact ⟨.ref h'.objs.size,_,I2,rfl,q _ (I1.hok.fresh (Nat.le_refl _))⟩
 ·obtain ⟨its,r',pl,hz⟩:=I.tuple hq
  exact call_tuple_same pl ⟨.ref p,H,I,rfl,q⟩
noncomputable def tyV (K:PySem.W.Frag) (T:String) (x:V) (H:Hp):Prop:=match x with
 | .str _ => T = "str"
 | .int _ => T = "int"
 | .ref p => (T = "list"∧∃ xs,SqL K H p xs)∨(T = "tuple"∧∃ o,K.lookup p = some o∧o.cls = .type "tuple"∧o.dict = none) ∨
   (T = "dict"∧((∃ kvs,H p = some (.dK kvs))∨∃ kvs,H p = some (.dT kvs)))∨(T = "set"∧∃ S n,H p = some (.set S n))
 | _ => False
theorem tyV_is {pins:List (Addr×Obj)} {σ:St} {H:Hp} {s:Shared} {T:String} {x:V} {v:Value} (I:Inv X pins σ H s) (r:RelV x v) (ty:tyV X.K T x H) :
  s.TypeIs v T∧∀ a,v = .ref a→∃ ob,s.heap.get? a = some ob∧ob.dict = none:=by
 cases x with
 | str z =>
  obtain ⟨t,rfl⟩:=r
  cases (show T = "str" from ty)
  exact ⟨typeIs_str s z t,fun _ e => nomatch e⟩
 | int i =>
  obtain ⟨t,rfl⟩:=r
  cases (show T = "int" from ty)
  exact ⟨typeIs_int s i t,fun _ e => nomatch e⟩
 | ref p =>
  cases r
  rcases ty with ⟨rfl,xs,hq⟩ | ⟨rfl,o,hk,hc,hd⟩ | ⟨rfl,hk⟩ | ⟨rfl,S,n,hk⟩
  ·obtain ⟨its,_,pl,_⟩:=I.list hq
   refine ⟨pl.isList.typeIs,fun a e => ?_⟩
   cases e
   obtain ⟨o,n,e,c,hd,_⟩:=pl
   exact ⟨o,e,hd⟩
  ·refine ⟨⟨o,I.kIn p o hk,hc⟩,fun a e => ?_⟩
   cases e
   exact ⟨o,I.kIn _ o hk,hd⟩
  ·have z:∃ o,s.heap.get? p = some o∧o.ExactDict:=by
    rcases hk with ⟨kvs,hk⟩ | ⟨kvs,hk⟩
    ·obtain ⟨_,_,_,_,o,_,_,e,ex,_⟩:=I.hok p _ hk
     exact ⟨o,e,ex⟩
    ·obtain ⟨_,_,_,_,o,_,_,e,ex,_⟩:=I.hok p _ hk
     exact ⟨o,e,ex⟩
   obtain ⟨o,e,ex⟩:=z
   refine ⟨⟨o,e,ex.1⟩,fun a e2 => ?_⟩
   cases e2
   exact ⟨o,e,ex.2.1⟩
  ·obtain ⟨o,_,_,_,e,ex,_⟩:=I.hok p _ hk
   refine ⟨⟨o,e,ex.1⟩,fun a e2 => ?_⟩
   cases e2
   exact ⟨o,e,ex.2.1⟩
 | _ => exact False.elim ty
noncomputable def tBM0 (K:PySem.W.Frag) (T:String) (r:V→List V→Hp→VK→Prop) (to:TE):TE:=fun σ H Q => to σ H fun x H1 => tyV K T x H1∧r x [] H1 Q
noncomputable def tBM (K:PySem.W.Frag) (T:String) (r:V→List V→Hp→VK→Prop) (to:TE) (t:TA):TE:=fun σ H Q => to σ H fun x H1 => tyV K T x H1∧t σ H1 fun xs H2 => r x xs H2 Q
variable {o e:Expr} {es:List Expr} {to:TE} {t:TA} {name:Str} {apos cpos:Pos} {T id:String} {r:V→List V→Hp→VK→Prop}
theorem pe_bm0 (pa:PlainAttrs T) (slot:Slot T name id) (hty:typeOf (.builtin id) = pure (.type "method_descriptor")) (hm:MtR X id r) (ho:PE X o to)
  (hbase:attributeBase o name X.env (eval o X.env) = eval o X.env:=by rfl) (hline:(apos.endLine == cpos.line) = true:=by rfl):PE X (.Call (.Attribute o name apos) [] [] cpos) (tBM0 X.K T r to):=by
 intro pins s σ H Q I h
 refine wpAny_Call_method0_late hbase hline (thn (ho pins s σ H _ I h) fun v s1 zz => ?_)
 obtain ⟨x,H1,I1,r1,ty,q1⟩:=zz
 obtain ⟨h1,h2⟩:=tyV_is I1 r1 ty
 exact ⟨T,id,pa,slot,hty,h1,h2,Calls.callWith_builtin rfl (PySem.evalArgs_none (hm pins s1 σ H1 x [] v [] Q I1 r1 .nil q1))⟩
theorem pe_bm (pa:PlainAttrs T) (slot:Slot T name id) (hty:typeOf (.builtin id) = pure (.type "method_descriptor")) (hm:MtR X id r) (ho:PE X o to) (ha:PA X (e::es) t)
  (hbase:attributeBase o name X.env (eval o X.env) = eval o X.env:=by rfl)
  (hfew:((backTo cpos (starEach (e::es) X.env)).all (fun x => !x.1) && (backToKw cpos (keywordEach [] X.env)).all (fun x => x.1.isSome)
   && decide ((e::es).length + ([]:List Keyword).length + (if ([]:List Keyword).isEmpty then 0 else 1) < 30)) = true:=by rfl)
  (hline:(apos.endLine == cpos.line) = true:=by rfl) (hs:starEach (e::es) X.env = (false,eval e X.env)::starEach es X.env:=by rfl) (hplain:(backTo cpos (starEach es X.env)).any (·.1) = false:=by rfl) :
  PE X (.Call (.Attribute o name apos) (e::es) [] cpos) (tBM X.K T r to t):=by
 intro pins s σ H Q I h
 refine wpAny_Call_method_late hbase hfew hline rfl (thn (ho pins s σ H _ I h) fun v s1 zz => ?_)
 obtain ⟨x,H1,I1,r1,ty,q1⟩:=zz
 obtain ⟨h1,h2⟩:=tyV_is I1 r1 ty
 refine ⟨T,id,pa,slot,hty,h1,h2,?_⟩
 have hA:=ha cpos pins s1 σ H1 _ I1 q1
 rw [hs] at hA ⊢
 refine Calls.callWith_builtin (by show (false || (backTo cpos (starEach es X.env)).any (·.1)) = false; rw [hplain] <;> rfl) (Calls.evalArgs_plain ?_)
 exact thn hA fun us s2 ⟨vs,H2,I2,r2,q2⟩ => hm pins s2 σ H2 x vs v us Q I2 r1 r2 q2
/- xs.append(e),list.index on a module's tuple .. are MtR facts of 06m -/
end
noncomputable def MtM (X:Cx) (id:String) (r:V→List V→Hp→VK→Prop):Prop :=
 ∀ (pins:List (Addr×Obj)) (s:Shared) (σ:St) (H:Hp) (x:V) (xs:List V) (v:Value) (us:List Value) (Q:VK),Inv X pins σ H s→RelV x v→Vals xs us→r x xs H Q →
  wpAny (model X.prog X.w) X.A (call (.builtin id) (v::us)) (EP X pins σ Q) X.xe s
theorem Vals.one {x:V} {us:List Value} (h:Vals [x] us):∃ u,us = [u]∧RelV x u:=by
 cases h with
 | cons r t => cases t; exact ⟨_,rfl,r⟩
theorem Vals.two {x y:V} {us:List Value} (h:Vals [x,y] us):∃ u v,us = [u,v]∧RelV x u∧RelV y v:=by
 cases h with
 | cons r t =>
  obtain ⟨v,rfl,q⟩:=Vals.one t
  exact ⟨_,v,rfl,r,q⟩
theorem Vals.zero:∀ {us:List Value},Vals [] us→us = []
 | _,.nil => rfl
theorem Vals.dropLast {xs:List V} {us:List Value} (h:Vals xs us):Vals xs.dropLast us.dropLast:=by
 induction h with
 | nil => exact .nil
 | cons r t ih =>
  cases t with
  | nil => exact .nil
  | cons q t' => exact .cons r ih
theorem Vals.eraseIdx:∀ {xs:List V} {us:List Value} (i:Nat),Vals xs us→Vals (xs.eraseIdx i) (us.eraseIdx i)
 | _,_,_,.nil => .nil
 | _,_,0,.cons _ t => t
 | _,_,i + 1,.cons r t => .cons r (Vals.eraseIdx i t)
theorem erase_last {α:Type} (l:List α):l.eraseIdx (l.length - 1) = l.dropLast:=by
 induction l with
 | nil => rfl
 | cons a r ih =>
  cases r with
  | nil => rfl
  | cons b r =>
   have e:(a::b::r).length - 1 = ((b::r).length - 1) + 1:=by
    have h1:(a::b::r).length = r.length + 2:=rfl
    have h2:(b::r).length = r.length + 1:=rfl
    omega
   rw [e,List.eraseIdx_cons_succ,ih]
   all_goals rfl
theorem len_erase {α:Type}:∀ (l:List α) (i:Nat),(l.eraseIdx i).length≤l.length
 | [],_ => Nat.le_refl _
 | _::_,0 => Nat.le_succ _
 | _::r,i + 1 => Nat.succ_le_succ (len_erase r i)
section
variable {X:Cx} {pins:List (Addr×Obj)} {σ:St} {H:Hp} {s:Shared} {l b:Addr} {xs ys zs:List V}
theorem Inv.lset {its its':List Value} {n:Nat} {f:Array Value→Array Value} {t':Nat} (I:Inv X pins σ H s) (hH:H l = some (.lst xs))
  (e:s.heap.get? l = some { cls:=.type "list",data:=.seq its.toArray n }) (hf:f its.toArray = its'.toArray) (hv:Vals ys its') (hz:ys.length≤sizeLine) :
  Inv X pins σ (upd H l (.lst ys)) { s with heap:=s.heap.update l (Obj.mapSeq f),toks:=t' }:=by
 have q:=PySem.IsL.update e f
 rw [hf] at q
 refine I.write (x:=l) (e:=l) (by rw [hH]; exact trivial) (.inl rfl) (fun b' u hb hu => (Heap.get?_update_other s.heap (Obj.mapSeq f) (Ne.symm hb)).trans hu) ⟨_,q⟩ ?_
 exact ⟨hz,its',_,hv,q⟩
theorem Inv.lnew {its:List Value} {t':Nat} (I:Inv X pins σ H s) (hv:Vals ys its) (hz:ys.length≤sizeLine) :
  Inv X pins σ (upd H s.heap.objs.size (.lst ys)) { s with heap:=s.heap.push { cls:=.type "list",data:=.seq its.toArray },toks:=t' } :=
 I.laid (fun _ _ q => Heap.get?_push_of_some _ q) (Nat.le_refl _) ⟨hz,its,0,hv,Heap.get?_push_size _ rfl⟩
theorem Inv.fresh (I:Inv X pins σ H s):H s.heap.objs.size = none:=I.hok.fresh (Nat.le_refl _)
theorem Inv.lstM (I:Inv X pins σ H s) (hH:H l = some (.lst xs)):xs.length≤sizeLine∧∃ (its:List Value) (n:Nat),Vals xs its∧xs.length = its.length∧s.heap.get? l = some { cls:=.type "list",data:=.seq its.toArray n }:=by
 obtain ⟨z,its,n,r,e⟩:=I.hok l _ hH
 exact ⟨z,its,n,r,r.length,e⟩
theorem notLongL {n:Nat} (h:n≤sizeLine):Builtin.List.listTooLong n = false:=by
 unfold Builtin.List.listTooLong
 exact decide_eq_false (by omega)
end
section
variable {X:Cx}
noncomputable def rAppend:V→List V→Hp→VK→Prop:=fun x vs H Q => ∃ l xs y,x = .ref l∧vs = [y]∧H l = some (.lst xs)∧xs.length < sizeLine∧Q .non (upd H l (.lst (xs++[y])))
theorem mt_append:MtM X "list.append" rAppend:=by
 intro pins s σ H x vs v us Q I rx rv h
 obtain ⟨l,xs,y,rfl,rfl,hH,hz,q⟩:=h
 cases rx
 obtain ⟨u,rfl,ru⟩:=rv.one
 obtain ⟨z,its,n,r,hl,e⟩:=I.lstM hH
 refine call_meets F.slot_list_append ⟨_,e,rfl⟩ F.entry_list_append (F.args_list_append_2 _ _) (PySem.list_append l its.toArray n u (by rw [List.size_toArray]; omega)) ⟨e,?_⟩
 refine ⟨.non,_,I.lset (its':=its++[u]) hH e (by simp) (r.append (.cons ru .nil)) ?_,rfl,q⟩
 rw [List.length_append,List.length_singleton]
 omega
noncomputable def rExtend:V→List V→Hp→VK→Prop:=fun x vs H Q => ∃ l b xs zs,x = .ref l∧vs = [.ref b]∧H l = some (.lst xs)∧H b = some (.lst zs)∧xs.length + zs.length≤sizeLine∧Q .non (upd H l (.lst (xs++zs)))
theorem mt_extend:MtM X "list.extend" rExtend:=by
 intro pins s σ H x vs v us Q I rx rv h
 obtain ⟨l,b,xs,zs,rfl,rfl,hH,hB,hz,q⟩:=h
 cases rx
 obtain ⟨u,rfl,ru⟩:=rv.one
 cases ru
 obtain ⟨z,its,n,r,hl,e⟩:=I.lstM hH
 obtain ⟨z2,its2,n2,r2,hl2,e2⟩:=I.lstM hB
 have hsz:its.toArray.size + its2.toArray.size≤sizeLine:=by rw [List.size_toArray,List.size_toArray]; omega
 have hlong:¬ (!its.toArray.isEmpty && Builtin.List.listTooLong (its.toArray.size + its2.toArray.size)) = true:=by
  rw [notLongL hsz,Bool.and_false]
  exact Bool.false_ne_true
 refine call_meets F.slot_list_extend ⟨_,e,rfl⟩ F.entry_list_extend (F.args_list_extend_2 _ _)
  (AutoSeq1.list_extend_list_list_0 l its.toArray n b its2.toArray n2 hlong (by rw [List.size_toArray]; omega) (by omega)) ⟨e,e2,?_⟩
 refine ⟨.non,_,I.lset (its':=its++its2) hH e (by simp) (r.append r2) ?_,rfl,q⟩
 rw [List.length_append]
 omega
noncomputable def rPop:V→List V→Hp→VK→Prop:=fun x vs H Q => ∃ l xs y,x = .ref l∧vs = []∧H l = some (.lst xs)∧xs[xs.length - 1]? = some y∧Q y (upd H l (.lst xs.dropLast))
theorem mt_pop:MtM X "list.pop" rPop:=by
 intro pins s σ H x vs v us Q I rx rv h
 obtain ⟨l,xs,y,rfl,rfl,hH,hy,q⟩:=h
 cases rx
 have hus:=rv.zero
 subst hus
 obtain ⟨z,its,n,r,hl,e⟩:=I.lstM hH
 obtain ⟨u,hu,ru⟩:=r.get hy
 have hy':its.toArray[its.toArray.size - 1]? = some u:=by
  show its.toArray[its.length - 1]? = some u
  rw [← Array.getElem?_toList,← hl]
  exact hu
 refine call_meets F.slot_list_pop ⟨_,e,rfl⟩ F.entry_list_pop (F.args_list_pop_1 _) (MeetsSeq.list_pop_last l its.toArray n u hy' (by rw [List.size_toArray]; omega)) ⟨e,?_⟩
 refine ⟨y,_,I.lset (its':=its.dropLast) hH e ?_ r.dropLast ?_,ru,q⟩
 ·show its.toArray.eraseIdxIfInBounds (its.toArray.size - 1) = its.dropLast.toArray
  rw [List.size_toArray,List.eraseIdxIfInBounds_toArray,erase_last]
 ·rw [List.length_dropLast]
  omega
noncomputable def rPopAt:V→List V→Hp→VK→Prop:=fun x vs H Q => ∃ l xs i k y,x = .ref l∧vs = [.int i]∧H l = some (.lst xs)∧-(2 ^ 63)≤i∧i < 2 ^ 63∧seqIndex? i xs.length = some k∧xs[k]? = some y∧Q y (upd H l (.lst (xs.eraseIdx k)))
theorem mt_popAt:MtM X "list.pop" rPopAt:=by
 intro pins s σ H x vs v us Q I rx rv h
 obtain ⟨l,xs,i,k,y,rfl,rfl,hH,h1,h2,hk,hy,q⟩:=h
 cases rx
 obtain ⟨u,rfl,ru⟩:=rv.one
 obtain ⟨t,rfl⟩:=ru
 obtain ⟨z,its,n,r,hl,e⟩:=I.lstM hH
 obtain ⟨w,hw,rw'⟩:=r.get hy
 refine call_meets F.slot_list_pop ⟨_,e,rfl⟩ F.entry_list_pop (F.args_list_pop_2 _ _)
  (MeetsSeq.list_pop_at l its.toArray n i t k w (fitsIndex_both h1 h2) (by rw [List.size_toArray,← hl]; exact hk) (by rw [← Array.getElem?_toList]; exact hw) (by rw [List.size_toArray]; omega)) ⟨e,?_⟩
 refine ⟨y,_,I.lset (its':=its.eraseIdx k) hH e ?_ (r.eraseIdx k) ?_,rw',q⟩
 ·show its.toArray.eraseIdxIfInBounds k = (its.eraseIdx k).toArray
  rw [List.eraseIdxIfInBounds_toArray]
 ·have:=len_erase xs k
  omega
noncomputable def rCat:R2:=fun x y H Q => ∃ l b xs zs,x = .ref l∧y = .ref b∧H l = some (.lst xs)∧H b = some (.lst zs)∧xs.length + zs.length≤sizeLine∧∀ p,H p = none→Q (.ref p) (upd H p (.lst (xs++zs)))
theorem op_cat:OpR X (binaryOp .Add) rCat:=by
 intro pins s σ H x y v u Q I rx ry h
 obtain ⟨l,b,xs,zs,rfl,rfl,hH,hB,hz,q⟩:=h
 cases rx
 cases ry
 obtain ⟨z,its,n,r,hl,e⟩:=I.lstM hH
 obtain ⟨z2,its2,n2,r2,hl2,e2⟩:=I.lstM hB
 refine PySem.P.add_list e e2 ?_ (by rw [List.size_toArray,List.size_toArray]; omega)
 have ea:its.toArray++its2.toArray = (its++its2).toArray:=by simp
 rw [ea]
 exact ⟨.ref _,_,I.lnew (t':=s.toks) (r.append r2) (by rw [List.length_append]; omega),rfl,q _ I.fresh⟩
end
end L2
namespace Att
open PySem PySem.W PySem.Calls PyProof.Rows
theorem ints_of_wellAll {P:Params} {h:Heap}:∀ (ns:List Int) (vs:List Value),WellAll P h vs (ns.map WData.int)→IntsAre vs ns:=by
 intro ns
 induction ns with
 | nil =>
  intro vs w
  rw [List.map_nil] at w
  cases w
  exact .nil
 | cons n ns ih =>
  intro vs w
  rw [List.map_cons] at w
  cases w with
  | cons a b =>
   cases a
   exact .cons _ _ (ih _ b)
theorem script_of {l:OpenLaw} {n:Nat} (hn:l.most = some n) {P:Params} {h:Heap} {args:List WData} {vals:List Value}
  (hpre:l.row.toRowW.claim.pre args = true) (hwl:WellAll P h vals args) :
  ∃ a vs ns,vals = [Value.ref a]∧args = [WData.list (ns.map WData.int)]∧h.get? a = some { cls:=.type "list",data:=.seq vs.toArray }∧IntsAre vs ns∧ns.length≤n:=by
 have hsh:WShape.hasAll [] args [.list .int] = true:=(pre_splitW hpre).1
 have hc:l.pre.holds [] { args:=args } = true:=(pre_splitW hpre).2
 obtain ⟨d,r,rfl,h1,h2⟩:=hasAllW_cons hsh
 obtain rfl:=hasAllW_nil h2
 obtain ⟨xs,rfl,h3⟩:=hasW_list h1
 obtain ⟨ns,rfl⟩:=items_int h3
 have hlen:ns.length≤n:=by
  unfold OpenLaw.pre at hc
  have h4:(WTm.not (.lt (.lit (.int (n:Int))) (.len (.arg 0)))).holds [] { args:=[.list (ns.map .int)] } = true:=by
   have h4:=(holds_andW hc).1
   rw [hn] at h4
   exact h4
  have h5:=condW_of h4 (w_not (w_lt w_lit (w_len_list (w_arg rfl))))
  rw [List.length_map] at h5
  refine Nat.le_of_not_lt fun q => ?_
  have q':(n:Int) < ((ns.length:Nat):Int):=by omega
  first
   | (rw [decide_eq_true q'] at h5; exact absurd h5 (by decide))
   | (simp at h5; omega)
 cases hwl with
 | cons w1 w2 =>
  cases w2
  cases w1 with
  | list ho hall => exact ⟨_,_,ns,rfl,rfl,ho,ints_of_wellAll ns _ hall,hlen⟩
theorem post_true (l:OpenLaw) (args:List WData):l.row.toRowW.claim.post args (.bool true) args = true :=
 postW_of (r:=l.row.toRowW) (X:=(true == true))
  (show WShape.has [] (.bool true) .bool = true by first | rfl | decide | simp [WShape.has,WShape.arms,WShape.armsAll])
  (show (WTm.eq .res (.lit (.bool true))).value [] { args:=args,res:=some (.bool true),after:=args } = some (.bool (true == true)) from w_eq_bool (w_res rfl) w_lit) rfl
theorem attach_call {l:OpenLaw} {n:Nat} {q:Program} {loose:List Str} {XP:(Str→Option Value)→Heap→Prop} {YP:World→Heap→Prop} {d:DefRec}
  (hn:l.most = some n) (hdf:d.params.defaults = [])
  (call:∀ (w:World) (s₀ s₁:Shared) (mg mb:Str→Option Value) (fa:Addr) (o:Obj) (pm cd doc:Value) (a:Addr) (vs:List Value) (ns:List Int),
   Ground q loose [] XP w s₀ mg mb s₁.heap→YP w s₁.heap →
   s₁.heap.get? fa = some o→o.data = .func (docDef d.name d.params d.body d.scope pm cd doc)→s₁.heap.CodeRec cd d.name→mg d.name = some (.ref fa) →
   s₁.heap.get? a = some { cls:=.type "list",data:=.seq vs.toArray }→IntsAre vs ns→ns.length≤n→s₁.gens = #[] →
   codeAny (model l.prog w) callerA (.call (.ref fa) ⟨[.ref a],[]⟩) (fun r s' => r = .ok (.ret (.bool true))∧OldK s₁.heap s'.heap∧s'.os = s₁.os∧AllBare s'.gens) s₁) :
  WalkO q loose XP YP l.row.toRowW d [] (fun f vs => PySem.call f vs):=by
 intro w s₀ s₁ mg mb G Y fa o pm cd doc dV kV ho hd hcd hD hmg hg args vals as hpre hlay hrd hwl hlo
 obtain rfl:dV = .none:=Dflts.none hD hdf
 obtain rfl:kV = .none:=Dflts.noKw hD
 obtain ⟨a,vs,ns,rfl,rfl,hobj,hints,hlen⟩:=script_of hn hpre hwl
 refine enter_call (codeAny_mono (call w s₀ s₁ mg mb fa o pm cd doc a vs ns G Y ho (fd_plain hd) hcd hmg hobj hints hlen hg) fun r s' hq => ?_)
 obtain ⟨rfl,h2,h3,h4⟩:=hq
 exact ⟨.inl ⟨.bool true,.bool true,[],rfl,fun _ => rfl,.bool true,post_true l _,fun _ => ⟨List.Pairwise.nil,fun _ hm => (nomatch hm)⟩⟩,h2,h3,h4⟩
section
variable {prog:Program} {w:World} {A:Around} {E:Value→Shared→Prop} {s:Shared} {K:Frag}
noncomputable def ledger (h:Heap) (L d:Addr):List (Addr×Obj):=(List.range h.objs.size).filterMap fun a => if a = L∨a = d then none else (h.get? a).map fun o => (a,o)
end
end Att
namespace L2
open PySem PySem.Spec PyProof.Rows
theorem vals_ints:∀ {vs:List Value} {ns:List Int},IntsAre vs ns→Vals (ns.map V.int) vs
 | _,_,.nil => .nil
 | _,_,.cons n t h => .cons ⟨t,rfl⟩ (vals_ints h)
noncomputable def Only (H:Hp):Prop:=∀ b,H b = none∨∃ o xs,H b = some (.frz o (.lst xs))
theorem law_call {P:Program} {w:World} {K:PySem.W.Frag} {mg mb:Str→Option Value} {CX:CXT} {k:Nat} {fa a:Addr} {fd:FuncData} {x:Str} {sp:Sp} {s₁:Shared} {vs:List Value} {ns:List Int}
  (KX:K.In s₁.heap) (hns:s₁.heap.Ns mainGlobals mg) (hb:s₁.heap.Ns builtinsNs mb) (hbb:∀ x:Str,x ≠ "__name__"→mb x = bootBuiltins x) (hlim:s₁.heap.NoLimit) (hg:s₁.gens = #[])
  (ha:s₁.heap.get? a = some { cls:=.type "list",data:=.seq vs.toArray }) (hi:IntsAre vs ns) (hl:ns.length≤sizeLine) (hr:Room k callerA)
  (F:∀ base:Heap,K.In base→base.Ns mainGlobals mg→FnOk P w K mg base CX k fa fd [x] sp) (hbind:∀ (s:Shared) (u:Value),BindsTo s fd ⟨[u],[]⟩ [(x,u)])
  (hsp:∀ H:Hp,Only H→SqL K H a (ns.map V.int)→sp [.ref a] H (fun v _ => v = .bl true) fun _ _ _ => False)
  (hCX:∀ H e s',CX [] H s₁ (fun _ _ _ => False) e s'→False) :
  codeAny (model P w) callerA (.call (.ref fa) ⟨[.ref a],[]⟩) (fun r s' => r = .ok (.ret (.bool true))∧OldK s₁.heap s'.heap∧s'.os = s₁.os∧AllBare s'.gens) s₁:=by
 have rv:=vals_ints hi
 have lenV:=hi.length
 have core:∀ H:Hp,Only H→SqL K H a (ns.map V.int)→HOk P w H s₁.heap→(∀ b,H b≠none→b = a)→(H a≠none→K.lookup a = none) →
   codeAny (model P w) callerA (.call (.ref fa) ⟨[.ref a],[]⟩) (fun r s' => r = .ok (.ret (.bool true))∧OldK s₁.heap s'.heap∧s'.os = s₁.os∧AllBare s'.gens) s₁:=by
  intro H hO hS hok hA hK
  have base_of:∀ {b:Addr} {o:Obj},s₁.heap.get? b = some o→H b = none→(hidT s₁.heap H).get? b = some o:=fun e n => hidT_get e n
  have noA:∀ {b:Addr} {o:Obj} {es:Array DictEntry} {ep:Nat},s₁.heap.get? b = some o→o.data = .dict es ep→H b = none:=fun {b o es ep} e d => by
   cases q:H b with
   | none => rfl
   | some u =>
    have e':b = a:=hA b (by rw [q]; simp)
    subst e'
    rw [ha] at e; cases e
    have d':Data.seq vs.toArray _ = Data.dict es ep:=d
    cases d'
  have nsK:∀ {b:Addr} {m:Str→Option Value},s₁.heap.Ns b m→(hidT s₁.heap H).Ns b m:=fun {b m} ⟨o,es,ep,e,d,r⟩ => ⟨o,es,ep,base_of e (noA e d),d,r⟩
  have hKb:K.In (hidT s₁.heap H):=fun b o e => base_of (KX b o e) (by
   cases q:H b with
   | none => rfl
   | some u =>
    have e':b = a:=hA b (by rw [q]; simp)
    subst e'
    rw [hK (by rw [q]; simp)] at e; cases e)
  have hM:Mod K mg (hidT s₁.heap H):=⟨hKb,nsK hns,⟨mb,nsK hb,hbb⟩,let ⟨mc,h1,h2⟩:=hlim; ⟨mc,nsK h1,h2⟩⟩
  have e0:Env0 P w K mg (hidT s₁.heap H) callerA [] s₁ H:=⟨rfl,hM,fun b o e => of_hidT e,Nat.le_of_eq (hidT_size _ _),trivial,fun b hb => absurd (show b∈([]:List Addr) from hb) (by simp),hok,.of_eq hg⟩
  refine codeAny_mono ((F _ hKb (nsK hns)).run callerA [] s₁ H ⟨[.ref a],[]⟩ [.ref a] [.ref a] _ _ hr e0 (hbind s₁ (.ref a)) (.cons rfl .nil) (hsp H hO hS)) fun r s' h => ?_
  cases r with
  | error e => exact (hCX H e s' h).elim
  | ok fl =>
   cases fl with
   | next => exact False.elim h
   | brk => exact False.elim h
   | cont => exact False.elim h
   | ret u =>
    obtain ⟨v,H',os,bare,un,hok',r',q⟩:=h
    have q':v = .bl true:=q
    subst q'
    obtain rfl:u = Value.bool true:=r'
    refine ⟨rfl,OldK.of_keep fun b o e => ?_,os,bare⟩
    cases q:H b with
    | none => exact un.keep b o e q (by intro z; exact absurd (show b∈([]:List Addr) from z) (by simp)) (by simp)
    | some u =>
     rcases hO b with z | ⟨ob,xs,z⟩
     ·rw [q] at z; cases z
     ·have z2:=un.frzs b ob _ z
      obtain ⟨e1,_⟩:=hok b _ z
      obtain ⟨e2,_⟩:=hok' b _ z2
      rw [e] at e1; cases e1
      exact e2
 cases hk:K.lookup a with
 | some o =>
  have e:=KX a o hk
  rw [ha] at e
  cases e
  refine core (fun _ => none) (fun _ => .inl rfl) (.inr ⟨_,vs.toArray,_,hk,rfl,rfl,rfl,by rw [List.size_toArray,lenV]; exact hl,by simpa using rv⟩) (fun b u z => by have z':(none:Option HO) = some u:=z; cases z') (fun b z => absurd rfl z) fun z => absurd rfl z
 | none =>
  refine core (fun b => if b = a then some (.frz { cls:=.type "list",data:=.seq vs.toArray } (.lst (ns.map V.int))) else none) (fun b => ?_) (.inl (.inr ⟨{ cls:=.type "list",data:=.seq vs.toArray },if_pos rfl⟩)) (fun b u z => ?_) (fun b z => ?_) fun _ => hk
  ·by_cases hb:b = a
   ·exact .inr ⟨_,_,if_pos hb⟩
   ·exact .inl (if_neg hb)
  ·by_cases hb:b = a
   ·have z':=(if_pos hb).symm.trans z
    cases z'
    subst hb
    exact ⟨ha,by rw [List.length_map]; exact hl,vs,_,rv,ha⟩
   ·have z':=(if_neg hb).symm.trans z
    cases z'
  ·by_cases hb:b = a
   ·exact hb
   ·exact absurd (if_neg hb) z
theorem walk_of {l:PySem.W.OpenLaw} {n k:Nat} {q:Program} {loose:List Str} {XP:(Str→Option Value)→Heap→Prop} {YP:World→Heap→Prop} {d:DefRec} {K:Params→PySem.W.Frag} {CX:World→CXT} {sp:World→Sp} {x:Str}
  (hn:l.most = some n) (hn2:n≤sizeLine) (hdf:d.params.defaults = []) (hr:Room k callerA)
  (hY:∀ (w:World) (h:Heap),YP w h→(K w.params).In h)
  (F:∀ (w:World) (mg:Str→Option Value) (fa:Addr) (h:Heap),(K w.params).In h→h.Ns mainGlobals mg→mg d.name = some (.ref fa) →
   ∃ fd:FuncData,(∀ (s:Shared) (u:Value),BindsTo s fd ⟨[u],[]⟩ [(x,u)]) ∧
    ∀ base:Heap,(K w.params).In base→base.Ns mainGlobals mg→FnOk l.prog w (K w.params) mg base (CX w) k fa fd [x] (sp w))
  (hsp:∀ (w:World) (H:Hp) (a:Addr) (ns:List Int),ns.length≤n→Only H→SqL (K w.params) H a (ns.map V.int)→sp w [.ref a] H (fun v _ => v = .bl true) fun _ _ _ => False)
  (hCX:∀ (w:World) (H:Hp) (s:Shared) (e:Value) (s':Shared),CX w [] H s (fun _ _ _ => False) e s'→False) :
  PySem.W.WalkO q loose XP YP l.row.toRowW d [] (fun f vs => PySem.call f vs):=by
 refine Att.attach_call hn hdf fun w s₀ s₁ mg mb fa o pm cd doc a vs ns G Y ho hd hcd hmg hobj hints hlen hg => ?_
 have KX:=hY w _ Y
 obtain ⟨fd,hb,hF⟩:=F w mg fa _ KX G.T.g hmg
 exact law_call KX G.T.g G.T.b G.T.builtins G.T.nolimit hg hobj hints (Nat.le_trans hlen hn2) hr hF hb (fun H hO hS => hsp w H a ns hlen hO hS) fun H e s' => hCX w H s₁ e s'
theorem walk_ofK {l:PySem.W.OpenLaw} {n k:Nat} {q:Program} {loose:List Str} {XP:(Str→Option Value)→Heap→Prop} {YP:World→Heap→Prop} {d:DefRec} {K:Params→PySem.W.Frag} {CX:CXT} {sp:PySem.W.Frag→Sp} {x:Str}
  (hn:l.most = some n) (hn2:n≤sizeLine) (hdf:d.params.defaults = []) (hr:Room k callerA)
  (hY:∀ (w:World) (h:Heap),YP w h→(K w.params).In h)
  (F:∀ (w:World) (mg:Str→Option Value) (fa:Addr) (h:Heap),(K w.params).In h→h.Ns mainGlobals mg→mg d.name = some (.ref fa) →
   ∃ fd:FuncData,(∀ (s:Shared) (u:Value),BindsTo s fd ⟨[u],[]⟩ [(x,u)]) ∧
    ∀ base:Heap,(K w.params).In base→base.Ns mainGlobals mg→FnOk l.prog w (K w.params) mg base CX k fa fd [x] (sp (K w.params)))
  (hsp:∀ (K:PySem.W.Frag) (H:Hp) (a:Addr) (ns:List Int),ns.length≤n→Only H→SqL K H a (ns.map V.int)→sp K [.ref a] H (fun v _ => v = .bl true) fun _ _ _ => False)
  (hCX:∀ (H:Hp) (s:Shared) (e:Value) (s':Shared),CX [] H s (fun _ _ _ => False) e s'→False) :
  PySem.W.WalkO q loose XP YP l.row.toRowW d [] (fun f vs => PySem.call f vs) :=
 walk_of (K:=K) (CX:=fun _ => CX) (sp:=fun w => sp (K w.params)) hn hn2 hdf hr hY F (fun w H a ns h1 h2 h3 => hsp (K w.params) H a ns h1 h2 h3) fun _ H s e s' => hCX H s e s'
end L2
namespace L2
open PySem PySem.Spec PyProof.Rows
noncomputable abbrev CX0:CXT:=fun _ _ _ _ _ _ => False
noncomputable abbrev E0:XK:=fun _ _ _ => False
theorem pass0 {X:Cx}:Passes CX0 X E0:=fun _ _ _ _ _ _ _ h => h.elim
structure Fun (K:PySem.W.Frag) (x qual:Str) (st:Stmt) (f:Addr) (fd:FuncData):Prop where
 ex:∃ (oc:Value) (od:Option Addr) (kV doc pm:Value) (an:Option Addr) (cdv ct:Value) (osl:Array (Option Value)),
  fd = PySem.W.fnOf x qual (defArgs st) (defBody st) (defScope st) .none kV doc pm an cdv ct∧K.lookup f = some ⟨oc,od,.func fd,osl⟩∧PySem.W.codeIn K cdv qual = true
 kp:PySem.W.keepIn K (.ref f) = true
section
variable {P:Program} {w:World} {K:PySem.W.Frag} {mg:Str→Option Value} {base:Heap}
theorem Fun.ok {x qual:Str} {st:Stmt} {f:Addr} {fd:FuncData} {N ps:List Str} {k:Nat} {sp:Sp} (F:Fun K x qual st f fd) (S:FnScope N ps (defScope st)) (len:∀ vs H Q E,sp vs H Q E→vs.length = ps.length)
  (hbody:∀ (cdv:Value) (A:Around) (outer:List Env) (s:Shared) (H:Hp) (vs:List V) (Q:VK) (E:XK),Room k (A.deeper (envOfC qual (defScope st) s.heap.objs.size f cdv))→sp vs H Q E →
   ∃ t,PSs (cxOf CX0 P w K mg base N qual (defScope st) f cdv A outer s H E).nox (defBody st) t∧t { nx:=fun _ H' => Q .non H',rt:=Q } (start N vs) H):FnOk P w K mg base CX0 (k + 1) f fd ps sp:=by
 obtain ⟨oc,od,kV,doc,pm,an,cdv,ct,osl,rfl,lk,hcd⟩:=F.ex
 refine fn_of lk hcd S len fun A outer s H vs Q E hr hsp => ?_
 obtain ⟨t,h,q⟩:=hbody cdv A outer s H vs Q E hr hsp
 exact ⟨t,h.nox,q⟩
theorem Fun.binds {x qual:Str} {st:Stmt} {f:Addr} {fd:FuncData} {ps:List Str} (F:Fun K x qual st f fd)
  (h:∀ (kV doc pm:Value) (an:Option Addr) (cdv ct:Value) (us:List Value),us.length = ps.length→bindArgs (PySem.W.fnOf x qual (defArgs st) (defBody st) (defScope st) .none kV doc pm an cdv ct) ⟨us,[]⟩ = pure (ps.zip us)):Binds K fd ps []:=by
 obtain ⟨oc,od,kV,doc,pm,an,cdv,ct,osl,rfl,lk,hcd⟩:=F.ex
 exact .all (h kV doc pm an cdv ct)
theorem fun_mk {x qual:Str} {st:Stmt} {f:Addr} {oc:Value} {od an:Option Addr} {osl:Array (Option Value)} {kV doc pm cdv ct:Value} (l:K.lookup f = some ⟨oc,od,.func (PySem.W.fnOf x qual (defArgs st) (defBody st) (defScope st) .none kV doc pm an cdv ct),osl⟩)
  (c:PySem.W.codeIn K cdv qual = true) (k:PySem.W.keepIn K (.ref f) = true):Fun K x qual st f (PySem.W.fnOf x qual (defArgs st) (defBody st) (defScope st) .none kV doc pm an cdv ct):=⟨⟨oc,od,kV,doc,pm,an,cdv,ct,osl,rfl,l,c⟩,k⟩
end
theorem small1000 {n:Nat} (h:n≤1000):n < sizeLine:=Nat.lt_of_le_of_lt h (by decide)
section
variable {X:Cx}
theorem pv (i:Nat) {x:Str} {pos:Pos} (hN:X.N[i]? = some x:=by rfl) (hv:Vis X.env.scope x:=by first | exact Or.inl rfl | exact Or.inr (Or.inl rfl) | exact Or.inr (Or.inr rfl)) (hd:(x == ("__debug__" : Str)) = false:=by decide)
  (hcd:(x == ("__classdict__" : Str)) = false:=by decide):PE X (.Name x pos) (tVar i):=pe_var hN hv hd hcd
end
section
variable {κ:Type} [DecidableEq κ]
noncomputable def valV (kvs:List (κ×V)) (k:κ):Option V:=(kvs.find? fun kv => decide (kv.1 = k)).map (·.2)
noncomputable def putK (kvs:List (κ×V)) (k:κ) (v:V):List (κ×V) :=
 if (kvs.any fun kv => decide (kv.1 = k)) = true then kvs.map (fun kv => if kv.1 = k then (kv.1,v) else kv) else kvs++[(k,v)]
theorem valV_pos {p:κ×V} {r:List (κ×V)} {k:κ} (e:p.1 = k):valV (p::r) k = some p.2:=by simp [valV,List.find?_cons,e]
theorem valV_neg {p:κ×V} {r:List (κ×V)} {k:κ} (e:¬ p.1 = k):valV (p::r) k = valV r k:=by simp [valV,List.find?_cons,e]
theorem valV_any (k:κ):∀ kvs:List (κ×V),(kvs.any fun kv => decide (kv.1 = k)) = (valV kvs k).isSome
 | [] => rfl
 | p::r => by
  rw [List.any_cons]
  by_cases e:p.1 = k
  ·simp only [valV_pos e,decide_eq_true e,Bool.true_or,Option.isSome_some]
  ·rw [valV_neg e,decide_eq_false e,Bool.false_or]; exact valV_any k r
theorem length_putK (kvs:List (κ×V)) (k:κ) (v:V):(putK kvs k v).length≤kvs.length + 1:=by
 unfold putK
 split
 ·rw [List.length_map]; omega
 ·rw [List.length_append,List.length_cons,List.length_nil]; omega
theorem RelO.isSome_eq {o:Option V} {u:Option Value} (r:RelO o u):o.isSome = u.isSome:=by
 cases o with
 | none => cases u with
  | none => rfl
  | some _ => exact (show False from r).elim
 | some _ => cases u with
  | none => exact (show False from r).elim
  | some _ => rfl
theorem KV.val {kvs:List (κ×V)} {vs:List (κ×Value)} (r:KV kvs vs) (k:κ):RelO (valV kvs k) (valueAt vs k):=by
 unfold KV at r
 induction r with
 | nil => exact True.intro
 | @cons p q ps qs h t ih =>
  obtain ⟨h1,h2⟩:=h
  by_cases e:p.1 = k
  ·have e':q.1 = k:=h1.symm.trans e
   have b:valueAt (q::qs) k = some q.2:=by simp [valueAt,List.find?_cons,e']
   rw [valV_pos e,b]; exact h2
  ·have e':¬ q.1 = k:=fun z => e (h1.trans z)
   have b:valueAt (q::qs) k = valueAt qs k:=by simp [valueAt,List.find?_cons,e']
   rw [valV_neg e,b]; exact ih
theorem KV.any {kvs:List (κ×V)} {vs:List (κ×Value)} (r:KV kvs vs) (k:κ):(kvs.any fun kv => decide (kv.1 = k)) = vs.any fun kv => decide (kv.1 = k):=by
 unfold KV at r
 induction r with
 | nil => rfl
 | cons h t ih => rw [List.any_cons,List.any_cons,ih,h.1]
theorem KV.repl {kvs:List (κ×V)} {vs:List (κ×Value)} (r:KV kvs vs) (k:κ) {y:V} {u:Value} (ry:RelV y u) :
  KV (kvs.map fun kv => if kv.1 = k then (kv.1,y) else kv) (vs.map fun kv => if kv.1 = k then (kv.1,u) else kv):=by
 unfold KV at r ⊢
 induction r with
 | nil => exact .nil
 | @cons p q ps qs h t ih =>
  rw [List.map_cons,List.map_cons]
  refine .cons ?_ ih
  obtain ⟨h1,h2⟩:=h
  by_cases e:p.1 = k
  ·rw [if_pos e,if_pos (h1.symm.trans e)]; exact ⟨h1,ry⟩
  ·rw [if_neg e,if_neg (fun z => e (h1.trans z))]; exact ⟨h1,h2⟩
theorem KV.put {kvs:List (κ×V)} {vs:List (κ×Value)} (r:KV kvs vs) (k:κ) {y:V} {u:Value} (ry:RelV y u):KV (putK kvs k y) (stored vs k u):=by
 unfold putK stored
 rw [r.any k]
 by_cases e:(vs.any fun kv => decide (kv.1 = k)) = true
 ·rw [if_pos e,if_pos e]; exact r.repl k ry
 ·rw [if_neg e,if_neg e]; exact Paired.snoc r ⟨rfl,ry⟩
theorem KV.length {kvs:List (κ×V)} {vs:List (κ×Value)} (r:KV kvs vs):kvs.length = vs.length:=Paired.length r
end
theorem kV_is {P:Program} {w:World} {k:Key} {u:Value} (r:RelV (kV k) u):(mixKind P w).is k u = true:=by
 cases k with
 | inl i => obtain ⟨t,e⟩:=(show ∃ t,u = Value.int i t from r); subst e; exact mixKind_int P w i t
 | inr x => obtain ⟨t,e⟩:=(show ∃ t,u = Value.str x t from r); subst e; exact mixKind_str P w x t
theorem items_are {P:Program} {w:World}:∀ {ks:List Key} {us:List Value},Vals (ks.map kV) us→ItemsAre (mixKind P w) ks us
 | [],_,r => by rw [List.map_nil] at r; cases r; exact .nil
 | k::ks,_,r => by
  rw [List.map_cons] at r
  cases r with
  | cons h t => exact .cons (kV_is h) (items_are t)
noncomputable abbrev KT (H:Hp):List (List Key×V)→List (List Key×Addr×Value)→Prop:=Paired fun p q => p.1 = q.1∧H q.2.1 = some (.tup (p.1.map kV))∧RelV p.2 q.2.2
theorem KT.val {H:Hp} {kvs:List (List Key×V)} {xs:List (List Key×Addr×Value)} (r:KT H kvs xs) (k:List Key):RelO (valV kvs k) ((atKey xs k).map (·.2)):=by
 induction r with
 | nil => exact True.intro
 | @cons p q ps qs h t ih =>
  obtain ⟨h1,_,h2⟩:=h
  by_cases e:p.1 = k
  ·have e':q.1 = k:=h1.symm.trans e
   have b:atKey (q::qs) k = some q.2:=by simp [atKey,List.find?_cons,e']
   rw [valV_pos e,b]; exact h2
  ·have e':¬ q.1 = k:=fun z => e (h1.trans z)
   have b:atKey (q::qs) k = atKey qs k:=by simp [atKey,List.find?_cons,e']
   rw [valV_neg e,b]; exact ih
theorem KT.repl {H:Hp} {kvs:List (List Key×V)} {xs:List (List Key×Addr×Value)} (r:KT H kvs xs) (k:List Key) {y:V} {u:Value} (ry:RelV y u) :
  KT H (kvs.map fun kv => if kv.1 = k then (kv.1,y) else kv) (xs.map (putAt k u)):=by
 induction r with
 | nil => exact .nil
 | @cons p q ps qs h t ih =>
  rw [List.map_cons,List.map_cons]
  refine .cons ?_ ih
  obtain ⟨h1,h2,h3⟩:=h
  unfold putAt
  by_cases e:p.1 = k
  ·rw [if_pos e,if_pos (h1.symm.trans e)]; exact ⟨h1,h2,ry⟩
  ·rw [if_neg e,if_neg (fun z => e (h1.trans z))]; exact ⟨h1,h2,h3⟩
theorem KT.put {H:Hp} {kvs:List (List Key×V)} {xs:List (List Key×Addr×Value)} (r:KT H kvs xs) (k:List Key) {b:Addr} {y:V} {u:Value} (hb:H b = some (.tup (k.map kV))) (ry:RelV y u) :
  KT H (putK kvs k y) (storedH xs k b u):=by
 have e:(kvs.any fun kv => decide (kv.1 = k)) = (atKey xs k).isSome:=by
  rw [valV_any,(r.val k).isSome_eq,Option.isSome_map]
 unfold putK storedH
 rw [e]
 by_cases q:(atKey xs k).isSome = true
 ·rw [if_pos q,if_pos q]; exact r.repl k ry
 ·rw [if_neg q,if_neg q]; exact Paired.snoc r ⟨rfl,hb,ry⟩
theorem KT.keeps {H H':Hp} {kvs:List (List Key×V)} {xs:List (List Key×Addr×Value)} (r:KT H kvs xs) (ht:∀ b ys,H b = some (.tup ys)→H' b = some (.tup ys)):KT H' kvs xs :=
 Paired.mapP r fun _ _ z => ⟨z.1,ht _ _ z.2.1,z.2.2⟩
section
variable {P:Program} {w:World} {H:Hp} {h:Heap} {a:Addr}
theorem rd_of {u:HO} (ok:HOk P w H h) (e:Rd H a u):ObjOk P w H h a u:=e.ok ok
theorem dk_rd {kvs:List (Key×V)} (ok:HOk P w H h) (e:Rd H a (.dK kvs)):kvs.length≤sizeLine∧(a == sysModules) = false∧∃ vs,KV kvs vs∧h.DictOf (mixKind P w) a vs :=
 show ObjOk P w H h a (.dK kvs) from rd_of ok e
theorem dk_of {kvs:List (Key×V)} (ok:HOk P w H h) (e:H a = some (.dK kvs)):kvs.length≤sizeLine∧(a == sysModules) = false∧∃ vs,KV kvs vs∧h.DictOf (mixKind P w) a vs:=dk_rd ok (.inl e)
theorem key_of {ks:List Key} (ok:HOk P w H h) (e:H a = some (.tup (ks.map kV))):(tupleKind (mixKind P w)).is h ks a:=by
 obtain ⟨_,its,r,o,h1,h2,n,h3,_⟩:=(show ObjOk P w H h a (.tup (ks.map kV)) from ok a _ e)
 exact ⟨o,its.toArray,n,h1,h2,h3,by simpa using items_are r⟩
theorem dt_rd {kvs:List (List Key×V)} (ok:HOk P w H h) (e:Rd H a (.dT kvs)):kvs.length≤sizeLine∧(a == sysModules) = false ∧
  ∃ xs,KT H kvs xs∧h.DictOfH (tupleKind (mixKind P w)) a xs:=by
 obtain ⟨z,y,xs,r,o,es,ep,h1,h2,h3,h4,h5⟩:=(show ObjOk P w H h a (.dT kvs) from rd_of ok e)
 refine ⟨z,y,xs,r,o,es,ep,h1,h2,h3,h4,fun x hx => ?_,h5⟩
 have all:∀ {l:List (List Key×V)} {m:List (List Key×Addr×Value)},KT H l m→∀ x∈m,(tupleKind (mixKind P w)).is h x.1 x.2.1:=by
  intro l m q
  induction q with
  | nil => intro x hx; exact nomatch hx
  | @cons p q ps qs hq t ih =>
   intro x hx
   rcases List.mem_cons.mp hx with e | hx
   ·subst e
    exact key_of ok (by rw [← hq.1]; exact hq.2.1)
   ·exact ih x hx
 exact all r x hx
theorem dt_of {kvs:List (List Key×V)} (ok:HOk P w H h) (e:H a = some (.dT kvs)):kvs.length≤sizeLine∧(a == sysModules) = false ∧
  ∃ xs,KT H kvs xs∧h.DictOfH (tupleKind (mixKind P w)) a xs:=dt_rd ok (.inl e)
end
noncomputable def DGet (H:Hp) (a:Addr) (y:V) (r:Option V):Prop :=
 (∃ kvs k,Rd H a (.dK kvs)∧y = kV k∧r = valV kvs k)∨∃ kvs k b,Rd H a (.dT kvs)∧y = .ref b∧H b = some (.tup (k.map kV))∧r = valV kvs k
noncomputable def DPut (H:Hp) (a:Addr) (y v:V) (H':Hp):Prop :=
 (∃ kvs k,H a = some (.dK kvs)∧y = kV k∧kvs.length < sizeLine∧H' = upd H a (.dK (putK kvs k v))) ∨
 ∃ kvs k b,H a = some (.dT kvs)∧y = .ref b∧H b = some (.tup (k.map kV))∧kvs.length < sizeLine∧H' = upd H a (.dT (putK kvs k v))
theorem DGet.t {H:Hp} {a b:Addr} {kvs:List (List Key×V)} {k:List Key} (e:H a = some (.dT kvs)) (eb:H b = some (.tup (k.map kV))):DGet H a (.ref b) (valV kvs k):=.inr ⟨kvs,k,b,.inl e,rfl,eb,rfl⟩
theorem DPut.t {H:Hp} {a b:Addr} {kvs:List (List Key×V)} {k:List Key} {v:V} (e:H a = some (.dT kvs)) (eb:H b = some (.tup (k.map kV))) (hl:kvs.length < sizeLine) :
  DPut H a (.ref b) v (upd H a (.dT (putK kvs k v))):=.inr ⟨kvs,k,b,e,rfl,eb,hl,rfl⟩
section
variable {X:Cx} {pins:List (Addr×Obj)} {σ:St} {H:Hp} {s:Shared} {a:Addr} {y v:V} {u r:Value} {o:Option V} {A:Around} {E:Value→Shared→Prop}
theorem Inv.big (I:Inv X pins σ H s):sysModules < s.heap.objs.size:=by
 have h:mainGlobals < s.heap.objs.size:=(I.mod.glob.keeps I.bk).lt
 exact Nat.lt_trans (by decide) h
theorem d_in {Q:Value→Shared→Prop} (hu:A.units + 1 < cLine) (I:Inv X pins σ H s) (g:DGet H a y o) (ry:RelV y u) (h:∀ s',Inv X pins σ H s'→Q (.bool o.isSome) s') :
  wpAny (model X.prog X.w) A (compareOp .In u (.ref a)) Q E s:=by
 rcases g with ⟨kvs,k,e,ey,l⟩ | ⟨kvs,k,b,e,ey,eb,l⟩
 ·subst ey
  obtain ⟨z,hd,vs,rel,dd⟩:=dk_rd I.hok e
  refine wpAny_in_of (kV_is ry) hd dd.mapOf ?_
  rw [← (rel.val k).isSome_eq,← l]
  exact h _ (I.tok _)
 ·subst ey
  cases (show u = Value.ref b from ry)
  obtain ⟨z,hd,xs,rel,dd⟩:=dt_rd I.hok e
  refine wpAny_in_heap (tupleKind_room_in1 hu) (key_of I.hok eb) hd dd ?_
  have q:=(rel.val k).isSome_eq
  rw [Option.isSome_map] at q
  rw [← q,← l]
  exact h _ (I.tok _)
theorem d_notIn {Q:Value→Shared→Prop} (hu:A.units + 1 < cLine) (I:Inv X pins σ H s) (g:DGet H a y o) (ry:RelV y u) (h:∀ s',Inv X pins σ H s'→Q (.bool (!o.isSome)) s') :
  wpAny (model X.prog X.w) A (compareOp .NotIn u (.ref a)) Q E s:=by
 rcases g with ⟨kvs,k,e,ey,l⟩ | ⟨kvs,k,b,e,ey,eb,l⟩
 ·subst ey
  obtain ⟨z,hd,vs,rel,dd⟩:=dk_rd I.hok e
  refine wpAny_notIn_of (kV_is ry) hd dd.mapOf ?_
  rw [← (rel.val k).isSome_eq,← l]
  exact h _ (I.tok _)
 ·subst ey
  cases (show u = Value.ref b from ry)
  obtain ⟨z,hd,xs,rel,dd⟩:=dt_rd I.hok e
  refine wpAny_notIn_heap (tupleKind_room_in1 hu) (key_of I.hok eb) hd dd ?_
  have q:=(rel.val k).isSome_eq
  rw [Option.isSome_map] at q
  rw [← q,← l]
  exact h _ (I.tok _)
theorem d_write {h':Heap} {t':Nat} {ob:HO} (I:Inv X pins σ H s) (mu:Mut (H a)) (hs:Heap.SameBut a s.heap h') (he:∃ q,h'.get? a = some q) (new:ObjOk X.prog X.w (upd H a ob) h' a ob) :
  Inv X pins σ (upd H a ob) { s with heap:=h',toks:=t' } :=
 I.write (x:=a) (e:=a) mu (.inl rfl) (fun b q hb z => (hs.2 b hb).trans z) he new
theorem dk_new {P:Program} {w:World} {H':Hp} {h':Heap} {kvs:List (Key×V)} {vs:List (Key×Value)} (z:kvs.length≤sizeLine) (hd:(a == sysModules) = false) (rel:KV kvs vs) (dd:h'.DictOf (mixKind P w) a vs) :
  ObjOk P w H' h' a (.dK kvs):=⟨z,hd,vs,rel,dd⟩
theorem d_setItem {H':Hp} {Q:Unit→Shared→Prop} (hu:A.units + 1 < cLine) (I:Inv X pins σ H s) (g:DPut H a y v H') (ry:RelV y u) (rv:RelV v r) (h:∀ s',Inv X pins σ H' s'→Q () s') :
  wpAny (model X.prog X.w) A (setItem (.ref a) u r) Q E s:=by
 rcases g with ⟨kvs,k,e,ey,l,eH⟩ | ⟨kvs,k,b,e,ey,eb,l,eH⟩
 ·subst ey eH
  obtain ⟨z,hd,vs,rel,dd⟩:=dk_of I.hok e
  have hz:vs.length≤sizeLine:=by rw [← rel.length]; exact z
  have hl:(putK kvs k v).length≤sizeLine:=by have:=length_putK kvs k v; omega
  refine wpAny_setItem_pairs (hsz:=hz) (kV_is ry) dd fun h' dd' hs => h _ ?_
  have he:∃ q,h'.get? a = some q:=let ⟨q,_,_,hq,_⟩:=dd'; ⟨q,hq⟩
  exact d_write I (by rw [e]; exact True.intro) hs he (dk_new hl hd (rel.put k rv) dd')
 ·subst ey eH
  cases (show u = Value.ref b from ry)
  obtain ⟨z,hd,xs,rel,dd⟩:=dt_of I.hok e
  have hz:xs.length≤sizeLine:=by rw [← Paired.length rel]; exact z
  have hl:(putK kvs k v).length≤sizeLine:=by have:=length_putK kvs k v; omega
  refine wpAny_setItem_heap (hsz:=hz) (tupleKind_room_in1 hu) (key_of I.hok eb) dd fun h' dd' hs => h _ ?_
  obtain ⟨q,es,ep,hq,h2,h3,h4,_,h5⟩:=dd'
  refine d_write I (by rw [e]; exact True.intro) hs ⟨q,hq⟩ ⟨hl,hd,_,(rel.put k eb rv).keeps fun c ys ec => ?_,q,es,ep,hq,h2,h3,h4,h5⟩
  rw [upd_ne (ne_of ec e (fun z => nomatch z))]
  exact ec
end
noncomputable def sDPut (td ty tv:TE):TS:=fun D σ H => tv σ H fun v H1 => td σ H1 fun x H2 => ty σ H2 fun y H3 => ∃ a H4,x = .ref a∧DPut H3 a y v H4∧D.nx σ H4
section
variable {X:Cx} {o i e value:Expr} {pos pos' tpos:Pos} {td ty tv:TE}
theorem ps_dput (hu:X.A.units + 1 < cLine) (ho:PE X o td) (hi:PE X i ty) (hv:PE X value tv) (hs:swapsWith value (some (.Subscript o i pos')) pos.line X.env = pure false) :
  PS X (.Assign [.Subscript o i pos'] value pos) (sDPut td ty tv):=by
 intro pins s σ H D I h
 refine wpAny_Assign_Subscript (thn (hv pins s σ H _ I h) fun r s1 ⟨v,H1,I1,rv,q1⟩ => thn (ho pins s1 σ H1 _ I1 q1) fun u s2 ⟨x,H2,I2,rx,q2⟩ => thn (hi pins s2 σ H2 _ I2 q2) fun iv s3 zz => ?_) hs
 obtain ⟨y,H3,I3,ry,a,H4,ex,g,q3⟩:=zz
 subst ex
 obtain rfl:u = Value.ref a:=rx
 exact d_setItem hu I3 g ry rv fun s4 I4 => ⟨σ,H4,I4,q3⟩
end
theorem dt_empty {P:Program} {w:World} {H:Hp} (h:Heap) (hb:sysModules < h.objs.size):ObjOk P w H (h.push { cls:=.type "dict",data:=.dict #[] }) h.objs.size (.dT []) :=
 ⟨Nat.zero_le _,beq_eq_false_iff_ne.mpr (Ne.symm (Nat.ne_of_lt hb)),[],.nil,_,#[],0,Heap.get?_push_size _ rfl,⟨rfl,rfl,rfl⟩,rfl,rfl,List.nodup_nil⟩
noncomputable def tDNewT:TE:=fun _ H Q => ∀ p,H p = none→Q (.ref p) (upd H p (.dT []))
section
variable {X:Cx} {pos:Pos}
theorem pe_dnewT:PE X (.Dict [] [] pos) tDNewT:=fun pins s σ H Q I h =>
 wpAny_Dict_empty ⟨.ref s.heap.objs.size,_,I.laid (a:=s.heap.objs.size) (o:=.dT []) (t':=s.toks) (fun _ _ q => Heap.get?_push_of_some _ q) (Nat.le_refl _) (dt_empty s.heap I.big),rfl,h _ (I.hok.fresh (Nat.le_refl _))⟩
end
noncomputable def tPairs:List (TE×TE)→St→Hp→(List (V×V)→Hp→Prop)→Prop
 | [],_,H,Q => Q [] H
 | (tk,tv)::r,σ,H,Q => tk σ H fun x H1 => tv σ H1 fun y H2 => tPairs r σ H2 fun ps H3 => Q ((x,y)::ps) H3
noncomputable abbrev VV:List (V×V)→List (Value×Value)→Prop:=Paired fun p q => RelV p.1 q.1∧RelV p.2 q.2
noncomputable def PPs (X:Cx) (pos:Pos) (keys:List (Option Expr)) (values:List Expr) (trs:List (TE×TE)):Prop :=
 ∀ (pins:List (Addr×Obj)) (s:Shared) (σ:St) (H:Hp) (Q:List (V×V)→Hp→Prop),Inv X pins σ H s→tPairs trs σ H Q →
  wpAny (model X.prog X.w) X.A (evalPairs (pairTrees keys values X.env pos)) (fun vs s' => ∃ ps H',Inv X pins σ H' s'∧VV ps vs∧Q ps H') X.xe s
theorem pps_nil {X:Cx} {pos:Pos}:PPs X pos [] [] []:=fun pins s σ H Q I h => pairTrees_nil_walk ⟨[],H,I,.nil,h⟩
theorem pps_cons {X:Cx} {pos:Pos} {k v:Expr} {ks:List (Option Expr)} {vs:List Expr} {tk tv:TE} {trs:List (TE×TE)} (hk:PE X k tk) (hv:PE X v tv) (hr:PPs X pos ks vs trs) :
  PPs X pos (some k::ks) (v::vs) ((tk,tv)::trs):=fun pins s σ H Q I h =>
 pairTrees_cons_walk (thn (hk pins s σ H _ I h) fun u s1 ⟨x,H1,I1,rx,q1⟩ => thn (hv pins s1 σ H1 _ I1 q1) fun w2 s2 ⟨y,H2,I2,ry,q2⟩ =>
  thn (hr pins s2 σ H2 _ I2 q2) fun ws s3 ⟨ps,H3,I3,rel,q3⟩ => ⟨(x,y)::ps,H3,I3,.cons ⟨rx,ry⟩ rel,q3⟩)
end L2
namespace L3
open PySem PySem.Spec PyProof.Rows L2
noncomputable abbrev St:=L2.St
inductive D where
 | non | bl (b:Bool) | int (i:Int) | str (x:Str) | tup (ds:List D) | fl (ds:List D) | ref (a:Addr) | ty (n:String) | ktup (ds:List D)
noncomputable def FzL (K:PySem.W.Frag) (H:Hp) (a:Addr) (xs:List V):Prop :=
 (∃ o,H a = some (.frz o (.lst xs))) ∨
  ∃ (o:Obj) (its:Array Value) (n:Nat),K.lookup a = some o∧o.cls = .type "list"∧o.dict = none∧o.data = .seq its n∧its.size≤sizeLine∧Vals xs its.toList
theorem FzL.sq {K:PySem.W.Frag} {H:Hp} {a:Addr} {xs:List V} (h:FzL K H a xs):SqL K H a xs:=by
 rcases h with ⟨o,h⟩ | h
 ·exact .inl (.inr ⟨o,h⟩)
 ·exact .inr h
noncomputable def KTp (K:PySem.W.Frag) (a:Addr) (xs:List V):Prop:=∃ (o:Obj) (its:Array Value) (n:Nat),K.lookup a = some o∧o.cls = .type "tuple"∧o.data = .seq its n∧its.size≤sizeLine∧Vals xs its.toList
theorem KTp.sq {K:PySem.W.Frag} {H:Hp} {a:Addr} {xs:List V} (h:KTp K a xs):SqT K H a xs:=.inr h
mutual
inductive Rep (K:PySem.W.Frag) (H:Hp):D→V→Prop
 | non:Rep K H .non .non
 | bl (b:Bool):Rep K H (.bl b) (.bl b)
 | int (i:Int):Rep K H (.int i) (.int i)
 | str (x:Str):Rep K H (.str x) (.str x)
 | ty (n:String):Rep K H (.ty n) (.ty n)
 | ref (a:Addr):Rep K H (.ref a) (.ref a)
 | tup {a:Addr} {xs:List V} {ds:List D}:H a = some (.tup xs)→RepL K H ds xs→Rep K H (.tup ds) (.ref a)
 | fl {a:Addr} {xs:List V} {ds:List D}:FzL K H a xs→RepL K H ds xs→Rep K H (.fl ds) (.ref a)
 | ktup {a:Addr} {xs:List V} {ds:List D}:KTp K a xs→RepL K H ds xs→Rep K H (.ktup ds) (.ref a)
inductive RepL (K:PySem.W.Frag) (H:Hp):List D→List V→Prop
 | nil:RepL K H [] []
 | cons {d:D} {v:V} {ds:List D} {vs:List V}:Rep K H d v→RepL K H ds vs→RepL K H (d::ds) (v::vs)
end
structure TK (H H':Hp):Prop where
 tup:∀ a xs,H a = some (.tup xs)→H' a = some (.tup xs)
 frz:∀ a o u,H a = some (.frz o u)→H' a = some (.frz o u)
theorem TK.refl {H:Hp}:TK H H:=⟨fun _ _ h => h,fun _ _ _ h => h⟩
theorem TK.trans {H H1 H2:Hp} (a:TK H H1) (b:TK H1 H2):TK H H2:=⟨fun c xs h => b.tup c xs (a.tup c xs h),fun c o u h => b.frz c o u (a.frz c o u h)⟩
theorem TK.fresh {H:Hp} {p:Addr} {o:HO} (n:H p = none):TK H (upd H p o) :=
 ⟨fun a xs h => by rw [upd_ne (ne_of_none h n)]; exact h,fun a o' u h => by rw [upd_ne (ne_of_none h n)]; exact h⟩
theorem TK.lst {H:Hp} {p:Addr} {o:HO} {xs:List V} (n:H p = some (.lst xs)):TK H (upd H p o) :=
 ⟨fun a ys h => by rw [upd_ne (ne_of h n (by intro z; cases z))]; exact h,fun a o' u h => by rw [upd_ne (ne_of h n (by intro z; cases z))]; exact h⟩
theorem TK.dT {H:Hp} {p:Addr} {o:HO} {xs:List (List Key×V)} (n:H p = some (.dT xs)):TK H (upd H p o) :=
 ⟨fun a ys h => by rw [upd_ne (ne_of h n (by intro z; cases z))]; exact h,fun a o' u h => by rw [upd_ne (ne_of h n (by intro z; cases z))]; exact h⟩
theorem TK.sqT {K:PySem.W.Frag} {H H':Hp} (t:TK H H') {a:Addr} {xs:List V} (h:SqT K H a xs):SqT K H' a xs:=by
 rcases h with (h | ⟨o,h⟩) | h
 ·exact .inl (.inl (t.tup _ _ h))
 ·exact .inl (.inr ⟨o,t.frz _ _ _ h⟩)
 ·exact .inr h
theorem TK.fzL {K:PySem.W.Frag} {H H':Hp} (t:TK H H') {a:Addr} {xs:List V} (h:FzL K H a xs):FzL K H' a xs:=by
 rcases h with ⟨o,h⟩ | h
 ·exact .inl ⟨o,t.frz _ _ _ h⟩
 ·exact .inr h
theorem Rep.mono {K:PySem.W.Frag} {H H':Hp} (t:TK H H') {d:D} {v:V} (h:Rep K H d v):Rep K H' d v :=
 Rep.rec (motive_1:=fun d v _ => Rep K H' d v) (motive_2:=fun ds vs _ => RepL K H' ds vs) .non .bl .int .str .ty .ref (fun h _ r => .tup (t.tup _ _ h) r) (fun h _ r => .fl (t.fzL h) r) (fun h _ r => .ktup h r) .nil (fun _ _ r s => .cons r s) h
theorem RepL.mono {K:PySem.W.Frag} {H H':Hp} (t:TK H H') {ds:List D} {vs:List V} (h:RepL K H ds vs):RepL K H' ds vs :=
 RepL.rec (motive_1:=fun d v _ => Rep K H' d v) (motive_2:=fun ds vs _ => RepL K H' ds vs) .non .bl .int .str .ty .ref (fun h _ r => .tup (t.tup _ _ h) r) (fun h _ r => .fl (t.fzL h) r) (fun h _ r => .ktup h r) .nil (fun _ _ r s => .cons r s) h
section
variable {K:PySem.W.Frag} {H:Hp}
theorem RepL.length {ds:List D} {vs:List V} (h:RepL K H ds vs):ds.length = vs.length :=
 RepL.rec (motive_1:=fun _ _ _ => True) (motive_2:=fun ds vs _ => ds.length = vs.length) trivial (fun _ => trivial) (fun _ => trivial) (fun _ => trivial) (fun _ => trivial) (fun _ => trivial) (fun _ _ _ => trivial) (fun _ _ _ => trivial) (fun _ _ _ => trivial) rfl (fun _ _ _ i => congrArg (· + 1) i) h
theorem RepL.get:∀ {ds:List D} {vs:List V} {i:Nat} {d:D},RepL K H ds vs→ds[i]? = some d→∃ v,vs[i]? = some v∧Rep K H d v
 | _,_,_,_,.nil,e => by simp at e
 | _,_,0,_,.cons r _,e => by simp at e; subst e; exact ⟨_,rfl,r⟩
 | _,_,i + 1,d,.cons _ t,e => by
  obtain ⟨u,h1,h2⟩:=RepL.get (i:=i) (d:=d) t (by simpa using e)
  exact ⟨u,by simpa using h1,h2⟩
theorem RepL.getV:∀ {ds:List D} {vs:List V} {i:Nat} {v:V},RepL K H ds vs→vs[i]? = some v→∃ d,ds[i]? = some d∧Rep K H d v
 | _,_,_,_,.nil,e => by simp at e
 | _,_,0,_,.cons r _,e => by simp at e; subst e; exact ⟨_,rfl,r⟩
 | _,_,i + 1,v,.cons _ t,e => by
  obtain ⟨u,h1,h2⟩:=RepL.getV (i:=i) (v:=v) t (by simpa using e)
  exact ⟨u,by simpa using h1,h2⟩
theorem RepL.append {ds es:List D} {vs us:List V} (h:RepL K H ds vs) (s:RepL K H es us):RepL K H (ds++es) (vs++us) :=
 RepL.rec (motive_1:=fun _ _ _ => True) (motive_2:=fun ds vs _ => RepL K H (ds++es) (vs++us)) trivial (fun _ => trivial) (fun _ => trivial) (fun _ => trivial) (fun _ => trivial) (fun _ => trivial) (fun _ _ _ => trivial) (fun _ _ _ => trivial) (fun _ _ _ => trivial) s (fun r _ _ i => .cons r i) h
theorem RepL.take:∀ {ds:List D} {vs:List V} (n:Nat),RepL K H ds vs→RepL K H (ds.take n) (vs.take n)
 | _,_,0,_ => .nil
 | _,_,_ + 1,.nil => .nil
 | _,_,n + 1,.cons r t => .cons r (RepL.take n t)
theorem RepL.drop:∀ {ds:List D} {vs:List V} (n:Nat),RepL K H ds vs→RepL K H (ds.drop n) (vs.drop n)
 | _,_,0,r => r
 | _,_,_ + 1,.nil => .nil
 | _,_,n + 1,.cons _ t => RepL.drop n t
theorem RepL.snoc {ds:List D} {vs:List V} {d:D} {v:V} (r:RepL K H ds vs) (s:Rep K H d v):RepL K H (ds++[d]) (vs++[v]):=r.append (.cons s .nil)
theorem RepL.dropLast {ds:List D} {vs:List V} (r:RepL K H ds vs):RepL K H ds.dropLast vs.dropLast:=by
 rw [List.dropLast_eq_take,List.dropLast_eq_take,← r.length]; exact r.take _
theorem RepL.ints:∀ (ns:List Int),RepL K H (ns.map D.int) (ns.map V.int)
 | [] => .nil
 | n::ns => .cons (.int n) (RepL.ints ns)
theorem RepL.ints_inv {ns:List Int}:∀ {vs:List V},RepL K H (ns.map D.int) vs→vs = ns.map V.int:=by
 induction ns with
 | nil => intro vs h; cases h; rfl
 | cons n ns ih =>
  intro vs h
  cases h with
  | cons r t => cases r; rw [List.map_cons,ih t]
end
inductive O3 where
 | lst (ds:List D)
 | dic (kvs:List (List Key×D))
 | dik (kvs:List (Key×D))
 | ins (c:Str) (fs:List (Str×D))
 | exc (c:Str) (fs:List (Str×D))
 | tab (x:Str)
 | tabd (x:Str) (l k:Nat)
noncomputable abbrev Hp3:=Addr→Option O3
noncomputable def upd3 (H:Hp3) (a:Addr) (o:O3):Hp3:=fun b => if b = a then some o else H b
theorem upd3_same {H:Hp3} {a:Addr} {o:O3}:upd3 H a o a = some o:=by unfold upd3; rw [if_pos rfl]
theorem upd3_ne {H:Hp3} {a b:Addr} {o:O3} (h:b≠a):upd3 H a o b = H b:=by unfold upd3; rw [if_neg h]
theorem upd3_upd3 {H:Hp3} {a:Addr} {o u:O3}:upd3 (upd3 H a o) a u = upd3 H a u:=by
 funext b; unfold upd3; split <;> rfl
theorem ne3 {H:Hp3} {a b:Addr} {o:O3} (h:H a = some o) (h':H b = none):a≠b:=by
 intro e; subst e; rw [h] at h'; cases h'
noncomputable def excO (a C:Addr) (dd:Option Addr):HO:=.ext fun h => ∃ o vs,h.get? a = some o∧o.cls = .ref C∧o.data = .fields vs∧o.dict = dd
noncomputable def XF (K:PySem.W.Frag) (H:Hp) (dd:Option Addr) (fs:List (Str×D)):Prop:=fs = []∨∃ dx od xs,dd = some dx∧H dx = some (.frz od (.xd xs))∧Paired (fun (p:Str×D) (q:Str×V) => p.1 = q.1∧Rep K H p.2 q.2) fs xs
theorem XF.mono {K:PySem.W.Frag} {H H':Hp} {dd:Option Addr} {fs:List (Str×D)} (x:XF K H dd fs) (t:TK H H'):XF K H' dd fs:=by
 rcases x with x | ⟨dx,od,xs,e,q,r⟩
 ·exact .inl x
 ·exact .inr ⟨dx,od,xs,e,t.frz _ _ _ q,Paired.mapP r fun _ _ z => ⟨z.1,z.2.mono t⟩⟩
structure TabK (K:PySem.W.Frag) (H:Hp) (x:Str) (c a:Addr):Prop where
 tab:PySem.W.tabIn K x = some (c,a)
 hd:∀ h:Heap,K.In h→PySem.W.CodeHd h c a
 bm:∃ bm ob,PySem.W.nsIn K mainGlobals "__builtins__" = some (some (.ref bm))∧bm≠builtinsNs∧H bm = some (.frz ob (.own bm))∧ob.cls = .type "module"∧ob.dict = some builtinsNs∧ob.data = .plain
theorem TabK.mono {K:PySem.W.Frag} {H H':Hp} {x:Str} {c a:Addr} (h:TabK K H x c a) (t:TK H H'):TabK K H' x c a :=
 ⟨h.tab,h.hd,let ⟨bm,ob,h1,h2,h3,h4⟩:=h.bm; ⟨bm,ob,h1,h2,t.frz _ _ _ h3,h4⟩⟩
noncomputable def lamQ (x:Str):Str:=x ++ ".<locals>." ++ "<lambda>"
noncomputable def OR (K:PySem.W.Frag) (H:Hp) (a:Addr):O3→Prop
 | .lst ds => ∃ xs,H a = some (.lst xs)∧RepL K H ds xs
 | .dic kvs => ∃ ks,H a = some (.dT ks)∧Paired (fun (p:List Key×D) (q:List Key×V) => p.1 = q.1∧Rep K H p.2 q.2) kvs ks
 | .dik kvs => ∃ ks,H a = some (.dK ks)∧Paired (fun (p:Key×D) (q:Key×V) => p.1 = q.1∧Rep K H p.2 q.2) kvs ks
 | .ins c fs => ∃ C dx xs,PySem.W.nsIn K mainGlobals c = some (some (.ref C))∧H a = some (.ins C dx xs)∧Paired (fun (p:Str×D) (q:Str×V) => p.1 = q.1∧Rep K H p.2 q.2) fs xs
 | .exc c fs => ∃ C dd,PySem.W.nsIn K mainGlobals c = some (some (.ref C))∧H a = some (excO a C dd)∧XF K H dd fs
 | .tab x => H a = some (.tbl #[])∧∃ c,TabK K H x c a
 | .tabd x l k => ∃ c' oc vs t,H a = some (.tbl #[rawInt l,rawInt k,.ref c'])∧H c' = some (.frz oc (.own c'))∧oc.data = .fields vs∧vs[1]? = some (.str (lamQ x) t)∧∃ c,TabK K H x c a
noncomputable def HR (K:PySem.W.Frag) (H3:Hp3) (H:Hp):Prop:=∀ a o,H3 a = some o→OR K H a o
noncomputable def Sub3 (H H':Hp3):Prop:=∀ a o,H a = some o→H' a = some o
theorem Sub3.refl {H:Hp3}:Sub3 H H:=fun _ _ h => h
theorem Sub3.trans {H H1 H2:Hp3} (a:Sub3 H H1) (b:Sub3 H1 H2):Sub3 H H2:=fun c o h => b c o (a c o h)
theorem Sub3.fresh {H:Hp3} {p:Addr} {o:O3} (n:H p = none):Sub3 H (upd3 H p o):=fun a u h => by rw [upd3_ne (ne3 h n)]; exact h
theorem Sub3.upd {H H':Hp3} {p:Addr} {o:O3} (s:Sub3 H H') (n:H p = none):Sub3 H (upd3 H' p o):=fun a u h => by rw [upd3_ne (ne3 h n)]; exact s a u h
section
variable {K:PySem.W.Frag} {H H':Hp} {H3 H3':Hp3}
theorem HR.sub (h:HR K H3' H) (s:Sub3 H3 H3'):HR K H3 H:=fun a o e => h a o (s a o e)
theorem HR.fresh (h:HR K H3 H) {p:Addr} (n:H p = none):H3 p = none:=by
 cases e:H3 p with
 | none => rfl
 | some o =>
  cases o with
  | lst ds => obtain ⟨xs,q,_⟩:=h p _ e; rw [n] at q; cases q
  | dic ks => obtain ⟨xs,q,_⟩:=h p _ e; rw [n] at q; cases q
  | dik ks => obtain ⟨xs,q,_⟩:=h p _ e; rw [n] at q; cases q
  | ins c fs => obtain ⟨C,dx,xs,_,q,_⟩:=h p _ e; rw [n] at q; cases q
  | exc c fs => obtain ⟨C,dd,_,q,_⟩:=h p _ e; rw [n] at q; cases q
  | tab x => obtain ⟨q,_⟩:=h p _ e; rw [n] at q; cases q
  | tabd x l k => obtain ⟨_,_,_,_,q,_⟩:=h p _ e; rw [n] at q; cases q
theorem OR.keep {a:Addr} {o:O3} (x:OR K H a o) (t:TK H H') (e:H' a = H a):OR K H' a o:=by
 cases o with
 | lst ds => obtain ⟨xs,q,r⟩:=x; exact ⟨xs,e.trans q,r.mono t⟩
 | dic ks => obtain ⟨xs,q,r⟩:=x; exact ⟨xs,e.trans q,Paired.mapP r fun _ _ z => ⟨z.1,z.2.mono t⟩⟩
 | dik ks => obtain ⟨xs,q,r⟩:=x; exact ⟨xs,e.trans q,Paired.mapP r fun _ _ z => ⟨z.1,z.2.mono t⟩⟩
 | ins c fs => obtain ⟨C,dx,xs,g,q,r⟩:=x; exact ⟨C,dx,xs,g,e.trans q,Paired.mapP r fun _ _ z => ⟨z.1,z.2.mono t⟩⟩
 | exc c fs => obtain ⟨C,dd,g,q,f⟩:=x; exact ⟨C,dd,g,e.trans q,f.mono t⟩
 | tab x => obtain ⟨q,c,g⟩:=x; exact ⟨e.trans q,c,g.mono t⟩
 | tabd x l k => obtain ⟨c',oc,vs,u,q,q',d,v,c,g⟩:=x; exact ⟨c',oc,vs,u,e.trans q,t.frz _ _ _ q',d,v,c,g.mono t⟩
theorem HR.set (h:HR K H3 H) {p:Addr} {o:HO} {o3:O3} (t:TK H (upd H p o)) (new:OR K (upd H p o) p o3):HR K (upd3 H3 p o3) (upd H p o):=fun b u e => by
 by_cases hb:b = p
 ·subst hb; rw [upd3_same] at e; cases e; exact new
 ·rw [upd3_ne hb] at e; exact (h b u e).keep t (upd_ne hb)
theorem HR.setL (h:HR K H3 H) {p:Addr} {xs:List V} {ds:List D} (t:TK H (upd H p (.lst xs))) (r:RepL K (upd H p (.lst xs)) ds xs):HR K (upd3 H3 p (.lst ds)) (upd H p (.lst xs)):=h.set (o3:=.lst ds) t ⟨xs,upd_same,r⟩
theorem HR.tup (h:HR K H3 H) {p:Addr} {xs:List V} (n:H p = none):HR K H3 (upd H p (.tup xs)):=fun b u e => by
 have hb:b≠p:=ne3 e (h.fresh n)
 exact (h b u e).keep (TK.fresh n) (upd_ne hb)
end
noncomputable abbrev St3:=List (Option D)
noncomputable abbrev VK3:=D→Hp3→Prop
noncomputable abbrev TE3:=St3→Hp3→VK3→Prop
noncomputable abbrev TT3:=St3→Hp3→(Bool→Hp3→Prop)→Prop
noncomputable abbrev TA3:=St3→Hp3→(List D→Hp3→Prop)→Prop
structure Ends3 where
 nx:St3→Hp3→Prop
 rt:VK3
 bk:St3→Hp3→Prop:=fun _ _ => False
 ct:St3→Hp3→Prop:=fun _ _ => False
noncomputable abbrev TS3:=Ends3→St3→Hp3→Prop
structure SR (K:PySem.W.Frag) (H:Hp) (σ3:St3) (σ:St):Prop where
 len:σ3.length = σ.length
 get:∀ (i:Nat) (d:D),σ3[i]? = some (some d)→∃ v,σ[i]? = some (some v)∧Rep K H d v
theorem SR.mono {K:PySem.W.Frag} {H H':Hp} {σ3:St3} {σ:St} (s:SR K H σ3 σ) (t:TK H H'):SR K H' σ3 σ :=
 ⟨s.len,fun i d e => let ⟨v,h1,h2⟩:=s.get i d e; ⟨v,h1,h2.mono t⟩⟩
theorem SR.set {K:PySem.W.Frag} {H:Hp} {σ3:St3} {σ:St} (s:SR K H σ3 σ) (i:Nat) {d:D} {v:V} (r:Rep K H d v):SR K H (σ3.set i (some d)) (σ.set i (some v)):=by
 refine ⟨by simp [s.len],fun j e h => ?_⟩
 by_cases hj:j = i
 ·subst hj
  by_cases hl:j < σ3.length
  ·rw [List.getElem?_set_self hl] at h
   cases h
   exact ⟨v,by rw [List.getElem?_set_self (by rw [← s.len]; exact hl)],r⟩
  ·rw [List.getElem?_eq_none (by simpa using hl)] at h; cases h
 ·rw [List.getElem?_set_ne (Ne.symm hj)] at h
  obtain ⟨u,h1,h2⟩:=s.get j e h
  exact ⟨u,by rw [List.getElem?_set_ne (Ne.symm hj)]; exact h1,h2⟩
noncomputable def KE (K:PySem.W.Frag) (H:Hp) (Q3:VK3) (Q:VK):Prop:=∀ d v H3' H',TK H H'→HR K H3' H'→Rep K H' d v→Q3 d H3'→Q v H'
noncomputable def KT (K:PySem.W.Frag) (H:Hp) (Q3:Bool→Hp3→Prop) (Q:Bool→Hp→Prop):Prop:=∀ b H3' H',TK H H'→HR K H3' H'→Q3 b H3'→Q b H'
noncomputable def KA (K:PySem.W.Frag) (H:Hp) (Q3:List D→Hp3→Prop) (Q:List V→Hp→Prop):Prop:=∀ ds vs H3' H',TK H H'→HR K H3' H'→RepL K H' ds vs→Q3 ds H3'→Q vs H'
noncomputable def KN (K:PySem.W.Frag) (H:Hp) (Q3:St3→Hp3→Prop) (Q:St→Hp→Prop):Prop:=∀ σ3 σ H3' H',TK H H'→SR K H' σ3 σ→HR K H3' H'→Q3 σ3 H3'→Q σ H'
structure KS (K:PySem.W.Frag) (H:Hp) (D3:Ends3) (D:Ends):Prop where
 nx:KN K H D3.nx D.nx
 rt:KE K H D3.rt D.rt
 bk:KN K H D3.bk D.bk
 ct:KN K H D3.ct D.ct
theorem KE.mono {K:PySem.W.Frag} {H H1:Hp} {Q3:VK3} {Q:VK} (k:KE K H Q3 Q) (t:TK H H1):KE K H1 Q3 Q:=fun d v H3 H' t' => k d v H3 H' (t.trans t')
theorem KN.mono {K:PySem.W.Frag} {H H1:Hp} {Q3:St3→Hp3→Prop} {Q:St→Hp→Prop} (k:KN K H Q3 Q) (t:TK H H1):KN K H1 Q3 Q:=fun d v H3 H' t' => k d v H3 H' (t.trans t')
theorem KS.mono {K:PySem.W.Frag} {H H1:Hp} {D3:Ends3} {D:Ends} (k:KS K H D3 D) (t:TK H H1):KS K H1 D3 D:=⟨k.nx.mono t,k.rt.mono t,k.bk.mono t,k.ct.mono t⟩
inductive liftE (K:PySem.W.Frag) (t:TE3) (σ:St) (H:Hp) (Q:VK):Prop
 | mk (σ3:St3) (H3:Hp3) (Q3:VK3) (_:SR K H σ3 σ) (_:HR K H3 H) (_:t σ3 H3 Q3) (_:KE K H Q3 Q)
theorem liftE.ex {K:PySem.W.Frag} {t:TE3} {σ:St} {H:Hp} {Q:VK} {G:Prop} (z:liftE K t σ H Q) (k:∀ (σ3:St3) (H3:Hp3) (Q3:VK3),SR K H σ3 σ→HR K H3 H→t σ3 H3 Q3→KE K H Q3 Q→G):G:=by
 cases z with
 | mk σ3 H3 Q3 h0 h1 h2 h3 => exact k σ3 H3 Q3 h0 h1 h2 h3
inductive liftT (K:PySem.W.Frag) (t:TT3) (σ:St) (H:Hp) (Q:Bool→Hp→Prop):Prop
 | mk (σ3:St3) (H3:Hp3) (Q3:Bool→Hp3→Prop) (_:SR K H σ3 σ) (_:HR K H3 H) (_:t σ3 H3 Q3) (_:KT K H Q3 Q)
theorem liftT.ex {K:PySem.W.Frag} {t:TT3} {σ:St} {H:Hp} {Q:Bool→Hp→Prop} {G:Prop} (z:liftT K t σ H Q) (k:∀ (σ3:St3) (H3:Hp3) (Q3:Bool→Hp3→Prop),SR K H σ3 σ→HR K H3 H→t σ3 H3 Q3→KT K H Q3 Q→G):G:=by
 cases z with
 | mk σ3 H3 Q3 h0 h1 h2 h3 => exact k σ3 H3 Q3 h0 h1 h2 h3
inductive liftA (K:PySem.W.Frag) (t:TA3) (σ:St) (H:Hp) (Q:List V→Hp→Prop):Prop
 | mk (σ3:St3) (H3:Hp3) (Q3:List D→Hp3→Prop) (_:SR K H σ3 σ) (_:HR K H3 H) (_:t σ3 H3 Q3) (_:KA K H Q3 Q)
theorem liftA.ex {K:PySem.W.Frag} {t:TA3} {σ:St} {H:Hp} {Q:List V→Hp→Prop} {G:Prop} (z:liftA K t σ H Q) (k:∀ (σ3:St3) (H3:Hp3) (Q3:List D→Hp3→Prop),SR K H σ3 σ→HR K H3 H→t σ3 H3 Q3→KA K H Q3 Q→G):G:=by
 cases z with
 | mk σ3 H3 Q3 h0 h1 h2 h3 => exact k σ3 H3 Q3 h0 h1 h2 h3
inductive liftS (K:PySem.W.Frag) (t:TS3) (D:Ends) (σ:St) (H:Hp):Prop
 | mk (σ3:St3) (H3:Hp3) (D3:Ends3) (_:SR K H σ3 σ) (_:HR K H3 H) (_:t D3 σ3 H3) (_:KS K H D3 D)
theorem liftS.ex {K:PySem.W.Frag} {t:TS3} {D:Ends} {σ:St} {H:Hp} {G:Prop} (z:liftS K t D σ H) (k:∀ (σ3:St3) (H3:Hp3) (D3:Ends3),SR K H σ3 σ→HR K H3 H→t D3 σ3 H3→KS K H D3 D→G):G:=by
 cases z with
 | mk σ3 H3 D3 h0 h1 h2 h3 => exact k σ3 H3 D3 h0 h1 h2 h3
noncomputable def PE3 (X:Cx) (e:Expr) (t:TE3):Prop:=PE X e (liftE X.K t)
noncomputable def PT3 (X:Cx) (e:Expr) (t:TT3):Prop:=PT X e (liftT X.K t)
noncomputable def PW3 (X:Cx) (e:Expr) (t:TT3):Prop:=PW X e (liftT X.K t)
noncomputable def PA3 (X:Cx) (es:List Expr) (t:TA3):Prop:=PA X es (liftA X.K t)
noncomputable def PS3 (X:Cx) (st:Stmt) (t:TS3):Prop:=PS X st (liftS X.K t)
noncomputable def PSs3 (X:Cx) (st:List Stmt) (t:TS3):Prop:=PSs X st (liftS X.K t)
section
variable {X:Cx} {e:Expr} {es:List Expr} {st:Stmt} {sts:List Stmt}
theorem pe_imp {t t':TE} (h:PE X e t) (i:∀ σ H Q,t' σ H Q→t σ H Q):PE X e t':=fun pins s σ H Q I hw => h pins s σ H Q I (i σ H Q hw)
theorem pt_imp {t t':TT} (h:PT X e t) (i:∀ σ H Q,t' σ H Q→t σ H Q):PT X e t':=fun pins s σ H Q I hw => h pins s σ H Q I (i σ H Q hw)
theorem pw_imp {t t':TT} (h:PW X e t) (i:∀ σ H Q,t' σ H Q→t σ H Q):PW X e t':=fun wh pins s σ H Q I hw => h wh pins s σ H Q I (i σ H Q hw)
theorem pa_imp {t t':TA} (h:PA X es t) (i:∀ σ H Q,t' σ H Q→t σ H Q):PA X es t':=fun pos pins s σ H Q I hw => h pos pins s σ H Q I (i σ H Q hw)
theorem ps_imp {t t':TS} (h:PS X st t) (i:∀ D σ H,t' D σ H→t D σ H):PS X st t':=fun pins s σ H D I hw => h pins s σ H D I (i D σ H hw)
theorem pss_imp {t t':TS} (h:PSs X sts t) (i:∀ D σ H,t' D σ H→t D σ H):PSs X sts t':=fun pins s σ H D I hw => h pins s σ H D I (i D σ H hw)
end
end L3
namespace L3
open PySem PySem.Spec PyProof.Rows L2
noncomputable abbrev R3:=D→D→Hp3→VK3→Prop
inductive lift2 (K:PySem.W.Frag) (r:R3) (x y:V) (H:Hp) (Q:VK):Prop
 | mk (dx dy:D) (H3:Hp3) (Q3:VK3) (_:HR K H3 H) (_:Rep K H dx x) (_:Rep K H dy y) (_:r dx dy H3 Q3) (_:KE K H Q3 Q)
inductive lift1 (K:PySem.W.Frag) (r:D→Hp3→VK3→Prop) (x:V) (H:Hp) (Q:VK):Prop
 | mk (dx:D) (H3:Hp3) (Q3:VK3) (_:HR K H3 H) (_:Rep K H dx x) (_:r dx H3 Q3) (_:KE K H Q3 Q)
inductive liftC (K:PySem.W.Frag) (r:List D→Hp3→VK3→Prop) (xs:List V) (H:Hp) (Q:VK):Prop
 | mk (ds:List D) (H3:Hp3) (Q3:VK3) (_:HR K H3 H) (_:RepL K H ds xs) (_:r ds H3 Q3) (_:KE K H Q3 Q)
inductive liftM (K:PySem.W.Frag) (r:D→List D→Hp3→VK3→Prop) (x:V) (xs:List V) (H:Hp) (Q:VK):Prop
 | mk (d:D) (ds:List D) (H3:Hp3) (Q3:VK3) (_:HR K H3 H) (_:Rep K H d x) (_:RepL K H ds xs) (_:r d ds H3 Q3) (_:KE K H Q3 Q)
section
variable {X:Cx} {a b c e:Expr} {es:List Expr} {pos:Pos} {ta tb tc te:TE3} {tr:TA3} {tA tB:TT3}
noncomputable def v3 (i:Nat):TE3:=fun σ H Q => match σ[i]? with
 | some (some d) => Q d H
 | _ => False
noncomputable def c3 (d:D):TE3:=fun _ H Q => Q d H
theorem p3_var (i:Nat) {x:Str} (hN:X.N[i]? = some x:=by rfl) (hv:Vis X.env.scope x:=by first | exact Or.inl rfl | exact Or.inr (Or.inl rfl) | exact Or.inr (Or.inr rfl)) (hd:(x == ("__debug__" : Str)) = false:=by decide)
  (hcd:(x == ("__classdict__" : Str)) = false:=by decide):PE3 X (.Name x pos) (v3 i) :=
 pe_imp (pv i hN hv hd hcd) fun σ H Q zz => zz.ex fun σ3 H3 Q3 sr hr t k => by
  unfold v3 at t
  split at t
  ·rename_i d h
   obtain ⟨v,h1,r⟩:=sr.get i d h
   exact ⟨v,h1,k d v H3 H TK.refl hr r t⟩
  ·exact t.elim
theorem p3_int {i:Int} {j:Nat}:PE3 X (.Constant (.int i) j pos) (c3 (.int i)):=pe_imp pe_int fun _ _ _ ⟨_,_,_,_,hr,t,k⟩ => k _ _ _ _ TK.refl hr (.int i) t
theorem p3_bl {i:Bool} {j:Nat}:PE3 X (.Constant (.bool i) j pos) (c3 (.bl i)):=pe_imp pe_bl fun _ _ _ ⟨_,_,_,_,hr,t,k⟩ => k _ _ _ _ TK.refl hr (.bl i) t
theorem p3_non {j:Nat}:PE3 X (.Constant .none j pos) (c3 .non):=pe_imp pe_non fun _ _ _ ⟨_,_,_,_,hr,t,k⟩ => k _ _ _ _ TK.refl hr .non t
theorem p3_str {i:Str} {j:Nat}:PE3 X (.Constant (.str i) j pos) (c3 (.str i)):=pe_imp pe_str fun _ _ _ ⟨_,_,_,_,hr,t,k⟩ => k _ _ _ _ TK.refl hr (.str i) t
theorem p3_ty {x:Str} {T:String} (hg:Gl X x) (hm:X.mg x = none) (hv:bootBuiltins x = some (.type T)) (hn:x ≠ "__name__":=by decide) (hd:(x == ("__debug__" : Str)) = false:=by decide):PE3 X (.Name x pos) (c3 (.ty T)) :=
 pe_imp (pe_bltn (v:=.ty T) hg hm hv rfl hn hd) fun _ _ _ ⟨_,_,_,_,hr,t,k⟩ => k _ _ _ _ TK.refl hr (.ty T) t
theorem p3_globI {x:Str} {i:Int} {tk:Tok} (hg:Gl X x) (hm:X.mg x = some (.int i tk)) (hd:(x == ("__debug__" : Str)) = false:=by decide):PE3 X (.Name x pos) (c3 (.int i)) :=
 pe_imp (pe_glob (v:=.int i) hg hm ⟨_,rfl⟩ hd) fun _ _ _ ⟨_,_,_,_,hr,t,k⟩ => k _ _ _ _ TK.refl hr (.int i) t
noncomputable def o3 (r:R3) (ta tb:TE3):TE3:=fun σ H Q => ta σ H fun x H1 => tb σ H1 fun y H2 => r x y H2 Q
theorem lift_bin {K:PySem.W.Frag} {r:R3} {σ:St} {H:Hp} {Q:VK} (h:liftE K (o3 r ta tb) σ H Q):tOp (lift2 K r) (liftE K ta) (liftE K tb) σ H Q:=by
 obtain ⟨σ3,H3,Q3,sr,hr,t,k⟩:=h
 exact ⟨σ3,H3,_,sr,hr,t,fun x v H3a Ha tka hra rx qa => ⟨σ3,H3a,_,sr.mono tka,hra,qa,fun y u H3b Hb tkb hrb ry qb =>
  ⟨x,y,H3b,Q3,hrb,rx.mono tkb,ry,qb,k.mono (tka.trans tkb)⟩⟩⟩
theorem p3_op {op:Operator} {r:R3} (ho:OpR X (binaryOp op) (lift2 X.K r)) (ha:PE3 X a ta) (hb:PE3 X b tb):PE3 X (.BinOp a op b pos) (o3 r ta tb) :=
 pe_imp (pe_op ho ha hb) fun _ _ _ h => lift_bin h
theorem p3_cmp {op:CmpOp} {r:R3} (ho:OpR X (compareOp op) (lift2 X.K r)) (ha:PE3 X a ta) (hb:PE3 X b tb) (hm:behindInMarks op b = false:=by first | exact nomark _ | with_unfolding_all rfl):PE3 X (.Compare a [op] [b] pos) (o3 r ta tb) :=
 pe_imp (pe_cmpR ho ha hb hm) fun _ _ _ h => lift_bin h
theorem p3_ix {r:R3} (hr:IxR X (lift2 X.K r)) (ha:PE3 X a ta) (hb:PE3 X b tb) (hs:PlainIx b:=by exact fun _ _ => rfl):PE3 X (.Subscript a b pos) (o3 r ta tb) :=
 pe_imp (pe_ix hr ha hb hs) fun _ _ _ h => lift_bin h
noncomputable def u3 (r:D→Hp3→VK3→Prop) (ta:TE3):TE3:=fun σ H Q => ta σ H fun x H1 => r x H1 Q
theorem p3_un {op:UnaryOp} {r:D→Hp3→VK3→Prop} (ho:UnR X (unaryOp op) (lift1 X.K r)) (ha:PE3 X a ta):PE3 X (.UnaryOp op a pos) (u3 r ta) :=
 pe_imp (pe_un ho ha) fun _ _ _ zz => zz.ex fun σ3 H3 Q3 sr hr t k => ⟨σ3,H3,_,sr,hr,t,fun x v H3a Ha tka hra rx qa => ⟨x,H3a,Q3,hra,rx,qa,k.mono tka⟩⟩
noncomputable def bt (d:D) (H:Hp3) (Q:Bool→Hp3→Prop):Prop:=match d with
 | .bl k => Q k H
 | _ => False
theorem ke_test {K:PySem.W.Frag} {H:Hp} {Q3:Bool→Hp3→Prop} {Q:Bool→Hp→Prop} (k:KT K H Q3 Q):KE K H (fun d H1 => bt d H1 Q3) (fun x H' => ∃ c,x = .bl c∧Q c H'):=fun d v H3' H' tk hr rep q => by
 cases rep with
 | bl b => exact ⟨b,rfl,k _ _ _ tk hr q⟩
 | _ => exact q.elim
noncomputable def ts3 (t:TE3):TT3:=fun σ H Q => t σ H fun d H1 => bt d H1 Q
theorem p3_tcmp {op:CmpOp} {r:R3} (ho:OpR X (compareOp op) (lift2 X.K r)) (ha:PE3 X a ta) (hb:PE3 X b tb) (hm:behindInMarks op b = false:=by first | exact nomark _ | with_unfolding_all rfl):PT3 X (.Compare a [op] [b] pos) (ts3 (o3 r ta tb)) :=
 pt_imp (pt_cmpR ho ha hb hm) fun _ _ _ zz => zz.ex fun σ3 H3 Q3 sr hr t k => lift_bin ⟨σ3,H3,_,sr,hr,t,ke_test k⟩
theorem p3_tval (h:PE3 X e te) (he:∀ whole,isTrue e X.env whole = (do let v ← whole; standAt e.pos; holding [v] (truthy v)):=by intro _; rfl):PT3 X e (ts3 te) :=
 pt_imp (pt_val h he) fun _ _ _ zz => zz.ex fun σ3 H3 Q3 sr hr t k => ⟨σ3,H3,_,sr,hr,t,ke_test k⟩
noncomputable def an3 (t u:TT3):TT3:=fun σ H Q => t σ H fun c H1 => if c = true then u σ H1 Q else Q false H1
noncomputable def or3 (t u:TT3):TT3:=fun σ H Q => t σ H fun c H1 => if c = true then Q true H1 else u σ H1 Q
noncomputable def no3 (t:TT3):TT3:=fun σ H Q => t σ H fun c H1 => Q (!c) H1
variable {rest:List Expr}
theorem KT.mono {K:PySem.W.Frag} {H H1:Hp} {Q3:Bool→Hp3→Prop} {Q:Bool→Hp→Prop} (k:KT K H Q3 Q) (t:TK H H1):KT K H1 Q3 Q:=fun d H3 H' t' => k d H3 H' (t.trans t')
theorem p3_wand1 (ha:PT3 X a tA):PW3 X (.BoolOp .And [a] pos) tA:=pw_and1 ha
theorem p3_wor1 (ha:PT3 X a tA):PW3 X (.BoolOp .Or [a] pos) tA:=pw_or1 ha
theorem p3_wand (ha:PT3 X a tA) (hb:PW3 X (.BoolOp .And (b::rest) pos) tB):PW3 X (.BoolOp .And (a::b::rest) pos) (an3 tA tB) :=
 pw_imp (pw_and ha hb) fun _ _ _ zz => zz.ex fun σ3 H3 Q3 sr hr t k => ⟨σ3,H3,_,sr,hr,t,fun c H3a Ha tka hra qa => by
  cases c with
  | true => exact ⟨σ3,H3a,Q3,sr.mono tka,hra,qa,k.mono tka⟩
  | false => exact k _ _ _ tka hra qa⟩
theorem p3_wor (ha:PT3 X a tA) (hb:PW3 X (.BoolOp .Or (b::rest) pos) tB):PW3 X (.BoolOp .Or (a::b::rest) pos) (or3 tA tB) :=
 pw_imp (pw_or ha hb) fun _ _ _ zz => zz.ex fun σ3 H3 Q3 sr hr t k => ⟨σ3,H3,_,sr,hr,t,fun c H3a Ha tka hra qa => by
  cases c with
  | false => exact ⟨σ3,H3a,Q3,sr.mono tka,hra,qa,k.mono tka⟩
  | true => exact k _ _ _ tka hra qa⟩
theorem p3_tw (h:PW3 X e tA):PT3 X e tA:=h.pt
theorem p3_tnot (ha:PT3 X a tA):PT3 X (.UnaryOp .Not a pos) (no3 tA) :=
 pt_imp (pt_not ha) fun _ _ _ zz => zz.ex fun σ3 H3 Q3 sr hr t k => ⟨σ3,H3,_,sr,hr,t,fun c H3a Ha tka hra qa => k _ _ _ tka hra qa⟩
noncomputable def av3 (ta tb:TE3):TE3:=fun σ H Q => ta σ H fun x H1 => match x with
 | .bl c => if c = true then tb σ H1 Q else Q (.bl false) H1
 | _ => False
noncomputable def nv3 (ta:TE3):TE3:=fun σ H Q => ta σ H fun x H1 => match x with
 | .bl c => Q (.bl (!c)) H1
 | _ => False
theorem p3_one {op:BoolOp} (h:PE3 X a ta):PE3 X (.BoolOp op [a] pos) ta:=pe_one h
theorem p3_and (ha:PE3 X a ta) (hb:PE3 X (.BoolOp .And (b::rest) pos) tb):PE3 X (.BoolOp .And (a::b::rest) pos) (av3 ta tb) :=
 pe_imp (pe_and ha hb) fun _ _ _ zz => zz.ex fun σ3 H3 Q3 sr hr t k => ⟨σ3,H3,_,sr,hr,t,fun x v H3a Ha tka hra rx qa => by
  cases rx with
  | bl c =>
   refine ⟨c,rfl,?_⟩
   cases c with
   | true => exact ⟨σ3,H3a,Q3,sr.mono tka,hra,qa,k.mono tka⟩
   | false => exact k _ _ _ _ tka hra (.bl false) qa
  | _ => exact qa.elim⟩
theorem p3_not (ha:PE3 X a ta):PE3 X (.UnaryOp .Not a pos) (nv3 ta) :=
 pe_imp (pe_not ha) fun _ _ _ zz => zz.ex fun σ3 H3 Q3 sr hr t k => ⟨σ3,H3,_,sr,hr,t,fun x v H3a Ha tka hra rx qa => by
  cases rx with
  | bl c => exact ⟨c,rfl,k _ _ _ _ tka hra (.bl _) qa⟩
  | _ => exact qa.elim⟩
noncomputable def nil3:TA3:=fun _ H Q => Q [] H
noncomputable def cons3 (ta:TE3) (tr:TA3):TA3:=fun σ H Q => ta σ H fun x H1 => tr σ H1 fun xs H2 => Q (x::xs) H2
theorem a3_nil:PA3 X [] nil3:=pa_imp pa_nil fun _ _ _ ⟨_,_,_,_,hr,t,k⟩ => k _ _ _ _ TK.refl hr .nil t
theorem a3_cons (ha:PE3 X e te) (hr:PA3 X es tr) (hs:starEach (e::es) X.env = (false,eval e X.env)::starEach es X.env:=by rfl):PA3 X (e::es) (cons3 te tr) :=
 pa_imp (pa_cons ha hr hs) fun _ _ _ zz => zz.ex fun σ3 H3 Q3 sr hr t k => ⟨σ3,H3,_,sr,hr,t,fun x v H3a Ha tka hra rx qa => ⟨σ3,H3a,_,sr.mono tka,hra,qa,fun ds vs H3b Hb tkb hrb rs qb =>
  k _ _ _ _ (tka.trans tkb) hrb (.cons (rx.mono tkb) rs) qb⟩⟩
noncomputable def tp3 (t:TA3):TE3:=fun σ H Q => t σ H fun ds H1 => ds.length≤1000∧Q (.tup ds) H1
noncomputable def ls3 (t:TA3):TE3:=fun σ H Q => t σ H fun ds H1 => ds.length≤1000∧∀ p,H1 p = none→Q (.ref p) (upd3 H1 p (.lst ds))
theorem le_line {n:Nat} (h:n≤1000):n≤sizeLine:=Nat.le_of_lt (small1000 h)
theorem p3_tup {x1:Nat} (h:PA3 X es tr):PE3 X (.Tuple es x1 pos) (tp3 tr) :=
 pe_imp (pe_tup h) fun _ _ _ zz => zz.ex fun σ3 H3 Q3 sr hr t k => ⟨σ3,H3,_,sr,hr,t,fun ds vs H3a Ha tka hra rs qa =>
  ⟨by rw [← rs.length]; exact le_line qa.1,fun p n => k _ _ _ _ (tka.trans (TK.fresh n)) (hra.tup n) (.tup upd_same (rs.mono (TK.fresh n))) qa.2⟩⟩
theorem p3_lst (h:PA3 X es tr):PE3 X (.List es pos) (ls3 tr) :=
 pe_imp (pe_lst h) fun _ _ _ zz => zz.ex fun σ3 H3 Q3 sr hr t k => ⟨σ3,H3,_,sr,hr,t,fun ds vs H3a Ha tka hra rs qa =>
  ⟨by rw [← rs.length]; exact le_line qa.1,fun p n => k _ _ _ _ (tka.trans (TK.fresh n)) (hra.setL (TK.fresh n) (rs.mono (TK.fresh n))) (.ref p) (qa.2 p (hra.fresh n))⟩⟩
end
section
variable {X:Cx}
noncomputable def r3add:R3:=fun x y H Q => match x,y with
 | .int i,.int j => Q (.int (i + j)) H
 | .str i,.str j => i.length + j.length≤sizeLine∧Q (.str (i++j)) H
 | .ref a,.ref b => (match H a,H b with
  | some (.lst xs),some (.lst ys) => xs.length + ys.length≤sizeLine∧∀ p,H p = none→Q (.ref p) (upd3 H p (.lst (xs++ys)))
  | _,_ => False)
 | _,_ => False
theorem op3_add:OpR X (binaryOp .Add) (lift2 X.K r3add):=by
 intro pins s σ H x y v u Q I rx ry h
 obtain ⟨dx,dy,H3,Q3,hr,rdx,rdy,t,k⟩:=h
 cases rdx with
 | int i =>
  cases rdy with
  | int j => exact op_add pins s σ H _ _ v u Q I rx ry ⟨i,j,rfl,rfl,k _ _ _ _ TK.refl hr (.int _) t⟩
  | _ => exact t.elim
 | str i =>
  cases rdy with
  | str j => exact op_add_str pins s σ H _ _ v u Q I rx ry ⟨i,j,rfl,rfl,t.1,k _ _ _ _ TK.refl hr (.str _) t.2⟩
  | _ => exact t.elim
 | ref a =>
  cases rdy with
  | ref b =>
   (delta r3add at t; dsimp only at t)
   split at t
   ·rename_i xs ys ha hb
    obtain ⟨vs,ga,ra⟩:=hr a _ ha
    obtain ⟨us,gb,rb⟩:=hr b _ hb
    exact op_cat pins s σ H _ _ v u Q I rx ry ⟨a,b,vs,us,rfl,rfl,ga,gb,by rw [← ra.length,← rb.length]; exact t.1,fun p n =>
     k _ _ _ _ (TK.fresh n) (hr.setL (TK.fresh n) ((ra.append rb).mono (TK.fresh n))) (.ref p) (t.2 p (hr.fresh n))⟩
   ·exact t.elim
  | _ => exact t.elim
 | _ => exact t.elim
noncomputable def rI3 (C:Int→Int→Prop) (g:Int→Int→D):R3:=fun x y H Q => match x,y with
 | .int i,.int j => C i j∧Q (g i j) H
 | _,_ => False
noncomputable def rI30 (g:Int→Int→D):R3:=fun x y H Q => match x,y with
 | .int i,.int j => Q (g i j) H
 | _,_ => False
theorem op3_of0 {f:Value→Value→Sem Value} {g:Int→Int→V} {g3:Int→Int→D} (h:OpR X f (rI0 g)) (e:∀ H i j,Rep X.K H (g3 i j) (g i j)):OpR X f (lift2 X.K (rI30 g3)):=by
 intro pins s σ H x y v u Q I rx ry q
 obtain ⟨dx,dy,H3,Q3,hr,rdx,rdy,t,k⟩:=q
 cases rdx with
 | int i =>
  cases rdy with
  | int j => exact h pins s σ H _ _ v u Q I rx ry ⟨i,j,rfl,rfl,k _ _ _ _ TK.refl hr (e _ i j) t⟩
  | _ => exact t.elim
 | _ => exact t.elim
theorem op3_of {f:Value→Value→Sem Value} {C:Int→Int→Prop} {g:Int→Int→V} {g3:Int→Int→D} (h:OpR X f (rI C g)) (e:∀ H i j,Rep X.K H (g3 i j) (g i j)):OpR X f (lift2 X.K (rI3 C g3)):=by
 intro pins s σ H x y v u Q I rx ry q
 obtain ⟨dx,dy,H3,Q3,hr,rdx,rdy,t,k⟩:=q
 cases rdx with
 | int i =>
  cases rdy with
  | int j => exact h pins s σ H _ _ v u Q I rx ry ⟨i,j,rfl,rfl,t.1,k _ _ _ _ TK.refl hr (e _ i j) t.2⟩
  | _ => exact t.elim
 | _ => exact t.elim
theorem op3_sub:OpR X (binaryOp .Sub) (lift2 X.K (rI30 fun i j => .int (i - j))):=op3_of0 op_sub fun _ _ _ => .int _
theorem op3_mul:OpR X (binaryOp .Mult) (lift2 X.K (rI3 CMul fun i j => .int (i * j))):=op3_of op_mul fun _ _ _ => .int _
theorem op3_fdiv:OpR X (binaryOp .FloorDiv) (lift2 X.K (rI3 CDiv fun i j => .int (i / j))):=op3_of op_fdiv fun _ _ _ => .int _
theorem op3_mod:OpR X (binaryOp .Mod) (lift2 X.K (rI3 (fun _ j => 0 < j) fun i j => .int (i % j))):=op3_of op_mod fun _ _ _ => .int _
theorem op3_gt:OpR X (compareOp .Gt) (lift2 X.K (rI30 fun i j => .bl (decide (j < i)))):=op3_of0 op_gt fun _ _ _ => .bl _
noncomputable def intsOf:List D→Option (List Int)
 | [] => some []
 | .int i::ds => (intsOf ds).map (i::·)
 | _::_ => none
theorem intsOf_inv:∀ {ds:List D} {ns:List Int},intsOf ds = some ns→ds = ns.map D.int
 | [],_,h => by simp only [intsOf,Option.some.injEq] at h; subst h; rfl
 | .int i::ds,ns,h => by
  simp only [intsOf,Option.map_eq_some_iff] at h
  obtain ⟨ms,h1,h2⟩:=h
  subst h2
  rw [intsOf_inv h1]; rfl
 | .non::_,_,h => by simp [intsOf] at h
 | .bl _::_,_,h => by simp [intsOf] at h
 | .str _::_,_,h => by simp [intsOf] at h
 | .tup _::_,_,h => by simp [intsOf] at h
 | .fl _::_,_,h => by simp [intsOf] at h
 | .ktup _::_,_,h => by simp [intsOf] at h
 | .ref _::_,_,h => by simp [intsOf] at h
 | .ty _::_,_,h => by simp [intsOf] at h
noncomputable def r3lt:R3:=fun x y H Q => match x,y with
 | .int i,.int j => Q (.bl (decide (i < j))) H
 | .tup xs,.tup ys => (match intsOf xs,intsOf ys with
  | some ns,some ms => Q (.bl (HT.lexLt ns ms)) H
  | _,_ => False)
 | _,_ => False
theorem op3_lt (hu:X.A.units < cLine):OpR X (compareOp .Lt) (lift2 X.K r3lt):=by
 intro pins s σ H x y v u Q I rx ry h
 obtain ⟨dx,dy,H3,Q3,hr,rdx,rdy,t,k⟩:=h
 cases rdx with
 | int i =>
  cases rdy with
  | int j => exact op_lt pins s σ H _ _ v u Q I rx ry ⟨i,j,rfl,rfl,k _ _ _ _ TK.refl hr (.bl _) t⟩
  | _ => exact t.elim
 | tup ha ra =>
  cases rdy with
  | tup hb rb =>
   (delta r3lt at t; dsimp only at t)
   split at t
   ·rename_i ns ms e1 e2
    have z1:=intsOf_inv e1
    have z2:=intsOf_inv e2
    subst z1; subst z2
    have w1:=ra.ints_inv
    have w2:=rb.ints_inv
    subst w1; subst w2
    exact op_ltT hu pins s σ H _ _ v u Q I rx ry ⟨_,_,ns,ms,rfl,rfl,SqT.of ha,SqT.of hb,k _ _ _ _ TK.refl hr (.bl _) t⟩
   ·exact t.elim
  | _ => exact t.elim
 | _ => exact t.elim
noncomputable def r3neg:D→Hp3→VK3→Prop:=fun x H Q => match x with
 | .int i => Q (.int (-i)) H
 | _ => False
theorem un3_neg:UnR X (unaryOp .USub) (lift1 X.K r3neg):=by
 intro pins s σ H x v Q I rx h
 obtain ⟨dx,H3,Q3,hr,rdx,t,k⟩:=h
 cases rdx with
 | int i => exact un_neg pins s σ H _ v Q I rx ⟨i,rfl,k _ _ _ _ TK.refl hr (.int _) t⟩
 | _ => exact t.elim
noncomputable def isN:D→Bool
 | .non => true
 | _ => false
noncomputable def r3isN:R3:=fun x y H Q => match y with
 | .non => Q (.bl (isN x)) H
 | _ => False
noncomputable def r3notN:R3:=fun x y H Q => match y with
 | .non => Q (.bl (!isN x)) H
 | _ => False
theorem isN_rep {K:PySem.W.Frag} {H:Hp} {d:D} {v:V} (r:Rep K H d v):decide (v = .non) = isN d:=by
 cases r with
 | non => rfl
 | _ => exact decide_eq_false (by intro z; cases z)
theorem op3_isN:OpR X (compareOp .Is) (lift2 X.K r3isN):=by
 intro pins s σ H x y v u Q I rx ry h
 obtain ⟨dx,dy,H3,Q3,hr,rdx,rdy,t,k⟩:=h
 cases rdy with
 | non => exact op_isN pins s σ H _ _ v u Q I rx ry ⟨rfl,by rw [isN_rep rdx]; exact k _ _ _ _ TK.refl hr (.bl _) t⟩
 | _ => exact t.elim
theorem op3_notN:OpR X (compareOp .IsNot) (lift2 X.K r3notN):=by
 intro pins s σ H x y v u Q I rx ry h
 obtain ⟨dx,dy,H3,Q3,hr,rdx,rdy,t,k⟩:=h
 cases rdy with
 | non => exact op_notN pins s σ H _ _ v u Q I rx ry ⟨rfl,by rw [isN_rep rdx]; exact k _ _ _ _ TK.refl hr (.bl _) t⟩
 | _ => exact t.elim
theorem atI_rep {K:PySem.W.Frag} {H:Hp} {ds:List D} {vs:List V} {i:Int} {d:D} (r:RepL K H ds vs) (h:atI ds i = some d):∃ v,atI vs i = some v∧Rep K H d v:=by
 unfold atI at h ⊢
 rw [r.length] at h
 cases e:ixN vs.length i with
 | none => rw [e] at h; cases h
 | some j =>
  rw [e] at h
  exact r.get h
noncomputable def r3ix:R3:=fun x y H Q => match x,y with
 | .tup ds,.int i => (match atI ds i with | some d => Q d H | none => False)
 | .fl ds,.int i => (match atI ds i with | some d => Q d H | none => False)
 | .ktup ds,.int i => (match atI ds i with | some d => Q d H | none => False)
 | .str z,.int i => z.length≤sizeLine∧(match atI z.cps.toList i with | some c => Q (.str ⟨#[c]⟩) H | none => False)
 | .ref a,.int i => (match H a with
  | some (.lst ds) => (match atI ds i with | some d => Q d H | none => False)
  | _ => False)
 | _,_ => False
theorem ix3:IxR X (lift2 X.K r3ix):=by
 intro value slice pins s σ H x y v u Q I rx ry h hs
 obtain ⟨dx,dy,H3,Q3,hr,rdx,rdy,t,k⟩:=h
 cases rdx with
 | tup ha ra =>
  cases rdy with
  | int i =>
   (delta r3ix at t; dsimp only at t)
   split at t
   ·rename_i d e
    obtain ⟨w,ew,rw'⟩:=atI_rep ra e
    exact ix_tup value slice pins s σ H _ _ v u Q I rx ry ⟨_,_,i,w,rfl,rfl,SqT.of ha,ew,k _ _ _ _ TK.refl hr rw' t⟩ hs
   ·exact t.elim
  | _ => exact t.elim
 | ktup ha ra =>
  cases rdy with
  | int i =>
   (delta r3ix at t; dsimp only at t)
   split at t
   ·rename_i d e
    obtain ⟨w,ew,rw'⟩:=atI_rep ra e
    exact ix_tup value slice pins s σ H _ _ v u Q I rx ry ⟨_,_,i,w,rfl,rfl,ha.sq,ew,k _ _ _ _ TK.refl hr rw' t⟩ hs
   ·exact t.elim
  | _ => exact t.elim
 | fl ha ra =>
  cases rdy with
  | int i =>
   (delta r3ix at t; dsimp only at t)
   split at t
   ·rename_i d e
    obtain ⟨w,ew,rw'⟩:=atI_rep ra e
    exact ix_list value slice pins s σ H _ _ v u Q I rx ry ⟨_,_,i,w,rfl,rfl,ha.sq,ew,k _ _ _ _ TK.refl hr rw' t⟩ hs
   ·exact t.elim
  | _ => exact t.elim
 | str z =>
  cases rdy with
  | int i =>
   (delta r3ix at t; dsimp only at t)
   obtain ⟨hz,t⟩:=t
   split at t
   ·rename_i c e
    exact ix_str value slice pins s σ H _ _ v u Q I rx ry ⟨z,i,c,rfl,rfl,hz,e,k _ _ _ _ TK.refl hr (.str _) t⟩ hs
   ·exact t.elim
  | _ => exact t.elim
 | ref a =>
  cases rdy with
  | int i =>
   (delta r3ix at t; dsimp only at t)
   split at t
   ·rename_i ds ha
    obtain ⟨vs,ga,ra⟩:=hr a _ ha
    split at t
    ·rename_i d e
     obtain ⟨w,ew,rw'⟩:=atI_rep ra e
     exact ix_list value slice pins s σ H _ _ v u Q I rx ry ⟨_,_,i,w,rfl,rfl,SqL.of ga,ew,k _ _ _ _ TK.refl hr rw' t⟩ hs
    ·exact t.elim
   ·exact t.elim
  | _ => exact t.elim
 | _ => exact t.elim
noncomputable def cut3 {α:Type} (xs:List α) (lo hi:Option Int):List α:=(xs.drop (HT.sIx xs.length 0 lo)).take (HT.sIx xs.length xs.length hi - HT.sIx xs.length 0 lo)
noncomputable abbrev TO3:=St3→Hp3→(Option Int→Hp3→Prop)→Prop
inductive liftO (K:PySem.W.Frag) (t:TO3) (σ:St) (H:Hp) (Q:Option Int→Hp→Prop):Prop
 | mk (σ3:St3) (H3:Hp3) (Q3:Option Int→Hp3→Prop) (_:SR K H σ3 σ) (_:HR K H3 H) (_:t σ3 H3 Q3) (_:∀ o H3' H',TK H H'→HR K H3' H'→Q3 o H3'→Q o H')
theorem liftO.ex {K:PySem.W.Frag} {t:TO3} {σ:St} {H:Hp} {Q:Option Int→Hp→Prop} {G:Prop} (z:liftO K t σ H Q) (k:∀ (σ3:St3) (H3:Hp3) (Q3:Option Int→Hp3→Prop),SR K H σ3 σ→HR K H3 H→t σ3 H3 Q3→(∀ o H3' H',TK H H'→HR K H3' H'→Q3 o H3'→Q o H')→G):G:=by
 cases z with
 | mk σ3 H3 Q3 h0 h1 h2 h3 => exact k σ3 H3 Q3 h0 h1 h2 h3
noncomputable def PO3 (X:Cx) (e:Option Expr) (t:TO3):Prop:=PO X e (liftO X.K t)
theorem po_imp {e:Option Expr} {t t':TO} (h:PO X e t) (i:∀ σ H Q,t' σ H Q→t σ H Q):PO X e t':=fun pins s σ H Q I hw => h pins s σ H Q I (i σ H Q hw)
noncomputable def np3:TO3:=fun _ H Q => Q none H
noncomputable def pt3 (t:TE3):TO3:=fun σ H Q => t σ H fun x H1 => match x with
 | .int i => Q (some i) H1
 | _ => False
theorem po3_none:PO3 X none np3:=po_imp po_none fun _ _ _ ⟨_,_,_,_,hr,t,k⟩ => k _ _ _ TK.refl hr t
theorem po3_some {e:Expr} {te:TE3} (h:PE3 X e te):PO3 X (some e) (pt3 te):=po_imp (po_some h) fun _ _ _ zz => zz.ex fun σ3 H3 Q3 sr hr t k =>
 ⟨σ3,H3,_,sr,hr,t,fun x v H3a Ha tka hra rx qa => by
  cases rx with
  | int i => exact ⟨i,rfl,k _ _ _ tka hra qa⟩
  | _ => exact qa.elim⟩
noncomputable abbrev RSl:=D→Option Int→Option Int→Hp3→VK3→Prop
inductive liftSl (K:PySem.W.Frag) (r:RSl) (x:V) (lo hi:Option Int) (H:Hp) (Q:VK):Prop
 | mk (d:D) (H3:Hp3) (Q3:VK3) (_:HR K H3 H) (_:Rep K H d x) (_:r d lo hi H3 Q3) (_:KE K H Q3 Q)
noncomputable def sl3 (r:RSl) (te:TE3) (tl th:TO3):TE3:=fun σ H Q => te σ H fun x H1 => tl σ H1 fun l H2 => th σ H2 fun u H3 => r x l u H3 Q
theorem p3_slice {e:Expr} {te:TE3} {lo hi:Option Expr} {tl th:TO3} {pos p2:Pos} {r:RSl} (hr:SlR X (liftSl X.K r)) (he:PE3 X e te) (hl:PO3 X lo tl) (hu:PO3 X hi th):PE3 X (.Subscript e (.Slice lo hi none p2) pos) (sl3 r te tl th) :=
 pe_imp (pe_slice hr he hl hu) fun _ _ _ zz => zz.ex fun σ3 H3 Q3 sr hr t k => ⟨σ3,H3,_,sr,hr,t,fun x v H3a Ha tka hra rx qa => ⟨σ3,H3a,_,sr.mono tka,hra,qa,fun l H3b Hb tkb hrb qb =>
  ⟨σ3,H3b,_,(sr.mono tka).mono tkb,hrb,qb,fun u H3c Hc tkc hrc qc => ⟨x,H3c,Q3,hrc,(rx.mono tkb).mono tkc,qc,k.mono ((tka.trans tkb).trans tkc)⟩⟩⟩⟩
noncomputable def cb3 (r:List D→Hp3→VK3→Prop) (t:TA3):TE3:=fun σ H Q => t σ H fun ds H1 => r ds H1 Q
theorem lift_cb {K:PySem.W.Frag} {r:List D→Hp3→VK3→Prop} {t:TA3} {σ:St} {H:Hp} {Q:VK} (h:liftE K (cb3 r t) σ H Q):tCB (liftC K r) (liftA K t) σ H Q:=by
 obtain ⟨σ3,H3,Q3,sr,hr,t,k⟩:=h
 exact ⟨σ3,H3,_,sr,hr,t,fun ds vs H3a Ha tka hra rs qa => ⟨ds,H3a,Q3,hra,rs,qa,k.mono tka⟩⟩
theorem p3_callB {x:Str} {p pos:Pos} {e:Expr} {es:List Expr} {t:TA3} {id:String} {r:List D→Hp3→VK3→Prop} (hc:CallR X (.builtin id) (liftC X.K r)) (hg:Gl X x) (hm:X.mg x = none) (hv:bootBuiltins x = some (.builtin id)) (ha:PA3 X (e::es) t)
  (hn:x ≠ "__name__":=by decide) (hdb:(x == ("__debug__" : Str)) = false:=by decide)
  (he:starEach (e::es) X.env = (false,eval e X.env)::starEach es X.env:=by rfl) (hpl:(backTo pos (starEach es X.env)).any (·.1) = false:=by rfl):PE3 X (.Call (.Name x p) (e::es) [] pos) (cb3 r t) :=
 pe_imp (pe_callB hc hg hm hv ha hn hdb he hpl) fun _ _ _ h => lift_cb h
theorem p3_callTy {x:Str} {p pos:Pos} {e:Expr} {es:List Expr} {t:TA3} {T:String} {r:List D→Hp3→VK3→Prop} (hc:CallR X (.type T) (liftC X.K r)) (hg:Gl X x) (hm:X.mg x = none) (hv:bootBuiltins x = some (.type T)) (ha:PA3 X (e::es) t)
  (hn:x ≠ "__name__":=by decide) (hdb:(x == ("__debug__" : Str)) = false:=by decide)
  (he:starEach (e::es) X.env = (false,eval e X.env)::starEach es X.env:=by rfl) (hpl:(backTo pos (starEach es X.env)).any (·.1) = false:=by rfl):PE3 X (.Call (.Name x p) (e::es) [] pos) (cb3 r t) :=
 pe_imp (pe_callTy hc hg hm hv ha hn hdb he hpl) fun _ _ _ h => lift_cb h
noncomputable def r3len:List D→Hp3→VK3→Prop:=fun ds H Q => match ds with
 | [.tup xs] => Q (.int xs.length) H
 | [.fl xs] => Q (.int xs.length) H
 | [.str z] => z.length≤sizeLine∧Q (.int z.length) H
 | [.ref a] => (match H a with
  | some (.lst xs) => Q (.int xs.length) H
  | _ => False)
 | _ => False
theorem cb3_len:CallR X (.builtin "len") (liftC X.K r3len):=by
 intro pins s σ H xs us Q I rs h
 obtain ⟨ds,H3,Q3,hr,rd,t,k⟩:=h
 cases rd with
 | nil => exact t.elim
 | cons r1 r2 =>
  cases r2 with
  | cons _ _ => cases r1 <;> exact t.elim
  | nil =>
   cases r1 with
   | tup ha ra => exact call_len_seq pins s σ H _ us Q I rs ⟨_,_,rfl,.inr (SqT.of ha),by rw [← ra.length]; exact k _ _ _ _ TK.refl hr (.int _) t⟩
   | fl ha ra => exact call_len_seq pins s σ H _ us Q I rs ⟨_,_,rfl,.inl ha.sq,by rw [← ra.length]; exact k _ _ _ _ TK.refl hr (.int _) t⟩
   | str z => exact call_len_str pins s σ H _ us Q I rs ⟨_,rfl,t.1,k _ _ _ _ TK.refl hr (.int _) t.2⟩
   | ref a =>
    (delta r3len at t; dsimp only at t)
    split at t
    ·rename_i ds ha
     obtain ⟨vs,ga,ra⟩:=hr a _ ha
     exact call_len_seq pins s σ H _ us Q I rs ⟨_,_,rfl,.inl (SqL.of ga),by rw [← ra.length]; exact k _ _ _ _ TK.refl hr (.int _) t⟩
    ·exact t.elim
   | _ => exact t.elim
noncomputable def r3tuple:List D→Hp3→VK3→Prop:=fun ds H Q => match ds with
 | [.tup xs] => Q (.tup xs) H
 | [.fl xs] => Q (.tup xs) H
 | [.ref a] => (match H a with
  | some (.lst xs) => Q (.tup xs) H
  | _ => False)
 | _ => False
theorem cb3_tuple:CallR X (.type "tuple") (liftC X.K r3tuple):=by
 intro pins s σ H xs us Q I rs h
 obtain ⟨ds,H3,Q3,hr,rd,t,k⟩:=h
 cases rd with
 | nil => exact t.elim
 | cons r1 r2 =>
  cases r2 with
  | cons _ _ => cases r1 <;> exact t.elim
  | nil =>
   cases r1 with
   | tup ha ra => exact call_tuple_of pins s σ H _ us Q I rs ⟨_,_,rfl,.inr ⟨SqT.of ha,k _ _ _ _ TK.refl hr (.tup ha ra) t⟩⟩
   | fl ha ra => exact call_tuple_of pins s σ H _ us Q I rs ⟨_,_,rfl,.inl ⟨ha.sq,fun l n => k _ _ _ _ (TK.fresh n) (hr.tup n) (.tup upd_same (ra.mono (TK.fresh n))) t⟩⟩
   | ref a =>
    (delta r3tuple at t; dsimp only at t)
    split at t
    ·rename_i ds ha
     obtain ⟨vs,ga,ra⟩:=hr a _ ha
     exact call_tuple_of pins s σ H _ us Q I rs ⟨_,_,rfl,.inl ⟨SqL.of ga,fun l n => k _ _ _ _ (TK.fresh n) (hr.tup n) (.tup upd_same (ra.mono (TK.fresh n))) t⟩⟩
    ·exact t.elim
   | _ => exact t.elim
end
end L3
namespace L3
open PySem PySem.Spec PyProof.Rows L2
theorem turn_long {P:Program} {w:World} {K:PySem.W.Frag} {tg:Expr} (it:Addr) (lo:Int) (n:Nat):Turn P w K tg (Itr lo n) [it] it (fun i h => IsLongIter h it (lo + (i:Nat) * 1) ((n:Int) - (i:Nat)) 1) where
 mem:=List.mem_singleton.mpr rfl
 obj:=fun i h st b hb => by
  rw [List.mem_singleton.mp hb]
  exact ⟨_,st,fun v z => by have z':Data.fields _ = Data.cell v:=z; cases z'⟩
 keep:=fun i h h' st k => k it (List.mem_singleton.mpr rfl) _ st
 item:=by
  intro X hP hw hK hc i pins s σ H E I hf st hg
  subst hP hw hK
  obtain ⟨f0,f1,f2,f3,f4,f5⟩:=hf it (List.mem_singleton.mpr rfl)
  have hlt:i < n:=hg
  refine wpAny_pyNext_long_item st (by grind) fun h' st' sb => ?_
  have I1:Inv X pins σ H { s with heap:=h',toks:=s.toks + 1 }:=I.turned (fun b o hb e => (sb.2 b hb).trans e) f0 f1 f3 f4 f5
  have st2:IsLongIter h' it (lo + ((i + 1:Nat):Int) * 1) ((n:Int) - ((i + 1:Nat):Int)) 1:=by
   have e1:lo + (i:Int) * 1 + 1 = lo + ((i + 1:Nat):Int) * 1:=by grind
   have e2:(n:Int) - (i:Int) - 1 = (n:Int) - ((i + 1:Nat):Int):=by grind
   rw [← e1,← e2]; exact st'
  exact ⟨_,rfl,go_of (s:={ s with heap:=h',toks:=s.toks + 1 }) (n := "longrange_iterator") st2 rfl rfl (by decide) ⟨.int (lo + i),H,I1,⟨s.toks,by rw [Int.mul_one]⟩,⟨rfl,rfl⟩,st2,fun b hb => (hf b hb).1⟩⟩
 done:=by
  intro X hP hw hK hc i pins s σ H E I hf st hg
  subst hP hw hK
  obtain ⟨f0,f1,f2,f3,f4,f5⟩:=hf it (List.mem_singleton.mpr rfl)
  have hle:n≤i:=hg
  exact wpAny_pyNext_long_end (I.ok.hd hc) st (by grind) fun h' eb => ⟨rfl,I.turned (t':=s.toks) (fun b o hb e => eb b o hb e) f0 f1 f3 f4 f5⟩
 self:=fun _ _ _ _ _ st h => wpAny_pyIter_longiter st h
section
variable {X:Cx} {tg:Expr}
theorem range_any {pins:List (Addr×Obj)} {σ:St} {H:Hp} {s:Shared} {R:It→Hp→Prop} {E:Value→Shared→Prop} {lo hi:Int} {t u v:Tok} {tk:Nat} (I:Inv X pins σ H s) (q:R (Itr lo (hi - lo).toNat) H) :
  wpAny (model X.prog X.w) X.A (pyIter (.ref s.heap.objs.size)) (PIE X pins σ tg R) E { s with heap:=s.heap.push { cls:=.type "range",data:=.fields #[.int lo t,.int hi u,.int 1 v] },toks:=tk }:=by
 have I1:Inv X pins σ H { s with heap:=s.heap.push { cls:=.type "range",data:=.fields #[.int lo t,.int hi u,.int 1 v] },toks:=tk }:=I.kept fun b o e => Heap.get?_push_of_some _ e
 have e2:(((hi - lo).toNat:Nat):Int) - ((0:Nat):Int) = Builtin.Range.rangeSize lo hi 1:=by rw [rangeSize_one]; split <;> grind
 have e1:lo + ((0:Nat):Int) * 1 = lo:=by grind
 have hf:∀ b∈[(s.heap.push { cls:=.type "range",data:=.fields #[.int lo t,.int hi u,.int 1 v] }).objs.size],FpOk X pins H b:=fun b hb => by
  rw [List.mem_singleton.mp hb]
  exact I1.fpOk (Nat.le_refl _) (I1.hok.fresh (Nat.le_refl _))
 cases hs:Builtin.Range.small lo hi 1 with
 | true =>
  refine wpAny_pyIter_range (IsRange.new ..) hs ⟨_,_,_,_,H,rfl,I1.kept (t':=tk) fun b o e => Heap.get?_push_of_some _ e,turn_range _ lo (hi - lo).toNat,?_,hf,q⟩
  show IsRangeIter _ _ (lo + ((0:Nat):Int) * 1) ((((hi - lo).toNat:Nat):Int) - ((0:Nat):Int)) 1
  rw [e1,e2]
  exact Heap.get?_push_size _ rfl
 | false =>
  refine wpAny_pyIter_longrange (IsRange.new ..) hs ⟨_,_,_,_,H,rfl,I1.kept (t':=tk) fun b o e => Heap.get?_push_of_some _ e,turn_long _ lo (hi - lo).toNat,?_,hf,q⟩
  show IsLongIter _ _ (lo + ((0:Nat):Int) * 1) ((((hi - lo).toNat:Nat):Int) - ((0:Nat):Int)) 1
  rw [e1,e2]
  exact Heap.get?_push_size _ rfl
noncomputable def jRng1 (ta:TA):TI:=fun σ H R => ta σ H fun vs H1 => ∃ j:Int,vs = [.int j]∧R (Itr 0 j.toNat) H1
noncomputable def jRng2 (ta:TA):TI:=fun σ H R => ta σ H fun vs H1 => ∃ i j:Int,vs = [.int i,.int j]∧R (Itr i (j - i).toNat) H1
theorem pj_range1 {a:Expr} {ta:TA} {p pos:Pos} (hg:Gl X "range") (hm:X.mg "range" = none) (ha:PA X [a] ta) (hs:starEach [a] X.env = [(false,eval a X.env)]:=by rfl):PI X tg (.Call (.Name "range" p) [a] [] pos) (jRng1 ta):=by
 intro pins s σ H R I h
 refine Call_ (ld_blt I hg hm boot_range (PyProof.Rows.callWith_type1 (thn (ha pos pins s σ H _ I h) fun us s1 zz => ?_) hs rfl))
 obtain ⟨vs,H1,I1,r1,j,e,q⟩:=zz
 subst e
 obtain ⟨u,rfl,t,rfl⟩:=vals1 r1
 exact call_range_1 (range_any I1 (by simpa using q))
theorem pj_range2 {a b:Expr} {ta:TA} {p pos:Pos} (hg:Gl X "range") (hm:X.mg "range" = none) (ha:PA X [a,b] ta) (hs:starEach [a,b] X.env = [(false,eval a X.env),(false,eval b X.env)]:=by rfl) (hs2:starEach [b] X.env = [(false,eval b X.env)]:=by rfl) :
  PI X tg (.Call (.Name "range" p) [a,b] [] pos) (jRng2 ta):=by
 intro pins s σ H R I h
 refine Call_ (ld_blt I hg hm boot_range (PyProof.Rows.callWith_type1 (thn (ha pos pins s σ H _ I h) fun us s1 zz => ?_) (by rw [hs,hs2]) (by rw [hs2]; rfl)))
 obtain ⟨vs,H1,I1,r1,i,j,e,q⟩:=zz
 subst e
 obtain ⟨u,u',rfl,⟨t,rfl⟩,⟨t',rfl⟩⟩:=vals2 r1
 exact call_range_2 (range_any I1 q)
end
section
variable {X:Cx} {st:Stmt} {rest:List Stmt} {t u:TS3} {e:Expr} {te:TE3} {pos:Pos}
noncomputable def nx3:TS3:=fun D σ H => D.nx σ H
noncomputable def sq3 (t u:TS3):TS3:=fun D σ H => t { D with nx:=u D } σ H
theorem s3_nil:PSs3 X [] nx3:=pss_imp pss_nil fun _ _ _ ⟨_,_,_,sr,hr,t,k⟩ => k.nx _ _ _ _ TK.refl sr hr t
theorem s3_cons (h1:PS3 X st t) (h2:PSs3 X rest u):PSs3 X (st::rest) (sq3 t u) :=
 pss_imp (pss_cons h1 h2) fun _ _ _ zz => zz.ex fun σ3 H3 D3 sr hr q k => ⟨σ3,H3,{ D3 with nx:=u D3 },sr,hr,q,
  ⟨fun σ3' σ' H3' H' tk sr' hr' q' => ⟨σ3',H3',D3,sr',hr',q',k.mono tk⟩,k.rt,k.bk,k.ct⟩⟩
theorem s3_one (h1:PS3 X st t):PSs3 X [st] t:=pss_one h1
noncomputable def dr3 (te:TE3):TS3:=fun D σ H => te σ H fun _ H1 => D.nx σ H1
theorem s3_expr (he:PE3 X e te) (hs:swapsWith e none pos.line X.env = pure false:=by rfl):PS3 X (.Expr e pos) (dr3 te) :=
 ps_imp (ps_expr he hs) fun _ _ _ zz => zz.ex fun σ3 H3 D3 sr hr t k => ⟨σ3,H3,_,sr,hr,t,fun x v H3a Ha tka hra rx qa => k.nx _ _ _ _ tka (sr.mono tka) hra qa⟩
noncomputable def rt3 (te:TE3):TS3:=fun D σ H => te σ H D.rt
theorem s3_ret (he:PE3 X e te):PS3 X (.Return (some e) pos) (rt3 te) :=
 ps_imp (ps_ret he) fun _ _ _ zz => zz.ex fun σ3 H3 D3 sr hr t k => ⟨σ3,H3,_,sr,hr,t,k.rt⟩
noncomputable def is3 (c:TT3) (t u:TS3):TS3:=fun D σ H => c σ H fun b H1 => if b = true then t D σ H1 else u D σ H1
theorem s3_if {c:Expr} {a b:List Stmt} {tc:TT3} (hc:PT3 X c tc) (ha:PSs3 X a t) (hb:PSs3 X b u):PS3 X (.If c a b pos) (is3 tc t u) :=
 ps_imp (ps_if hc ha hb) fun _ _ _ zz => zz.ex fun σ3 H3 D3 sr hr q k => ⟨σ3,H3,_,sr,hr,q,fun b H3a Ha tka hra qa => by
  cases b with
  | true => exact ⟨σ3,H3a,D3,sr.mono tka,hra,qa,k.mono tka⟩
  | false => exact ⟨σ3,H3a,D3,sr.mono tka,hra,qa,k.mono tka⟩⟩
noncomputable def st3 (i:Nat) (te:TE3):TS3:=fun D σ H => te σ H fun x H1 => D.nx (σ.set i (some x)) H1
theorem s3_set (i:Nat) {x:Str} {pos':Pos} (hN:X.N.Nodup) (he:PE3 X e te) (hi:X.N[i]? = some x:=by rfl) (hx:Loc X.env.scope x:=by first | exact Or.inl rfl | exact Or.inr rfl) (hs:swapsWith e (some (.Name x pos')) pos.line X.env = pure false:=by rfl)
  (hf:X.fn x = true∨X.env.scope.names.lookup x = some .local:=by first | exact .inl rfl | exact .inr rfl | assumption):PS3 X (.Assign [.Name x pos'] e pos) (st3 i te) :=
 ps_imp (ps_set hN hi hx he hs hf) fun _ _ _ zz => zz.ex fun σ3 H3 D3 sr hr t k => ⟨σ3,H3,_,sr,hr,t,fun x v H3a Ha tka hra rx qa => k.nx _ _ _ _ tka ((sr.mono tka).set i rx) hra qa⟩
noncomputable abbrev TG3:=D→St3→Hp3→(St3→Hp3→Prop)→Prop
inductive liftG (K:PySem.W.Frag) (t:TG3) (v:V) (σ:St) (H:Hp) (Q:St→Hp→Prop):Prop
 | mk (d:D) (σ3:St3) (H3:Hp3) (Q3:St3→Hp3→Prop) (_:Rep K H d v) (_:SR K H σ3 σ) (_:HR K H3 H) (_:t d σ3 H3 Q3) (_:KN K H Q3 Q)
noncomputable def PG3 (X:Cx) (tg:Expr) (t:TG3):Prop:=PG X tg (liftG X.K t)
theorem pg_imp {tg:Expr} {t t':TG} (h:PG X tg t) (i:∀ v σ H Q,t' v σ H Q→t v σ H Q):PG X tg t':=fun pins s σ H v u Q I r hw => h pins s σ H v u Q I r (i v σ H Q hw)
noncomputable def gn3 (i:Nat):TG3:=fun d σ H Q => Q (σ.set i (some d)) H
theorem g3_name (i:Nat) {x:Str} (hN:X.N.Nodup) (hi:X.N[i]? = some x:=by rfl) (hx:Loc X.env.scope x:=by first | exact Or.inl rfl | exact Or.inr rfl) (hf:X.fn x = true∨X.env.scope.names.lookup x = some .local:=by first | exact .inl rfl | exact .inr rfl | assumption) :
  PG3 X (.Name x pos) (gn3 i):=pg_imp (pg_name hN hi hx hf) fun _ _ _ _ ⟨d,σ3,H3,Q3,rd,sr,hr,t,k⟩ => k _ _ _ _ TK.refl (sr.set i rd) hr t
noncomputable def g2_3 (i j:Nat):TG3:=fun d σ H Q => match d with
 | .tup [x,y] => Q ((σ.set i (some x)).set j (some y)) H
 | _ => False
theorem g3_pair (i j:Nat) {x y:Str} {p1 p2:Pos} {kk:Nat} (hc:X.calm = true) (hN:X.N.Nodup) (hi:X.N[i]? = some x:=by rfl) (hx:Loc X.env.scope x:=by first | exact Or.inl rfl | exact Or.inr rfl) (hj:X.N[j]? = some y:=by rfl) (hy:Loc X.env.scope y:=by first | exact Or.inl rfl | exact Or.inr rfl)
  (hf:X.fn x = true∨X.env.scope.names.lookup x = some .local:=by first | exact .inl rfl | exact .inr rfl | assumption) (hf':X.fn y = true∨X.env.scope.names.lookup y = some .local:=by first | exact .inl rfl | exact .inr rfl | assumption) :
  PG3 X (.Tuple [.Name x p1,.Name y p2] kk pos) (g2_3 i j) :=
 pg_imp (pg_tup (n:=2) hc (pgs_cons (pg_name hN hi hx hf) (pgs_cons (pg_name hN hj hy hf') pgs_nil))) fun v σ H Q ⟨d,σ3,H3,Q3,rd,sr,hr,t,k⟩ => by
  cases rd with
  | tup ha ra =>
   cases ra with
   | nil => exact t.elim
   | cons r1 ra =>
    cases ra with
    | nil => exact t.elim
    | cons r2 ra =>
     cases ra with
     | cons _ _ => exact t.elim
     | nil => exact ⟨_,_,rfl,SqT.of ha,rfl,_,_,rfl,_,_,rfl,rfl,k _ _ _ _ TK.refl ((sr.set i r1).set j r2) hr t⟩
  | _ => exact t.elim
noncomputable def as3 (te:TE3) (g:TG3):TS3:=fun D σ H => te σ H fun x H1 => g x σ H1 D.nx
theorem s3_asg {tg:Expr} {g:TG3} (he:PE3 X e te) (hg:PG3 X tg g) (hs:swapsWithSole [tg] e pos.line X.env = pure false:=by rfl) (hw:swappedStores [tg] e X.env = pure none:=by rfl)
  (h1:(assignEach [tg] X.env).map (·.2) = [assign tg X.env]:=by rfl):PS3 X (.Assign [tg] e pos) (as3 te g) :=
 ps_imp (ps_asg he hg hs hw h1) fun _ _ _ zz => zz.ex fun σ3 H3 D3 sr hr t k => ⟨σ3,H3,_,sr,hr,t,fun x v H3a Ha tka hra rx qa => ⟨x,σ3,H3a,_,rx,sr.mono tka,hra,qa,k.nx.mono tka⟩⟩
noncomputable def wh3 (c:TT3) (tb:TS3):TS3:=fun D σ H => ∃ (P:St3→Hp3→Prop) (μ:St3→Hp3→Nat),P σ H∧∀ σ H,P σ H →
 c σ H fun b H1 => if b = true then tb { D with nx:=fun σ' H' => P σ' H'∧μ σ' H' < μ σ H,ct:=fun σ' H' => P σ' H'∧μ σ' H' < μ σ H,bk:=D.nx } σ H1 else D.nx σ H1
theorem s3_while {c:Expr} {body:List Stmt} {tc:TT3} {tb:TS3} (hp:PassesOwn (model X.prog X.w) X.A X.env X.xe) (hc:PT3 X c tc) (hb:PSs3 X body tb):PS3 X (.While c body [] pos) (wh3 tc tb) :=
 ps_imp (ps_while hp hc hb) fun D σ H zz => zz.ex fun σ3 H3 D3 sr hr t k => by
  obtain ⟨P,μ,p0,turn⟩:=t
  refine ⟨fun m σ' H' => ∃ σ3' H3',TK H H'∧SR X.K H' σ3' σ'∧HR X.K H3' H'∧P σ3' H3'∧m = μ σ3' H3',⟨_,σ3,H3,TK.refl,sr,hr,p0,rfl⟩,?_⟩
  rintro m σ1 H1 ⟨σ31,H31,tk1,sr1,hr1,p1,rfl⟩
  refine ⟨σ31,H31,_,sr1,hr1,turn σ31 H31 p1,fun b H3a Ha tka hra qa => ?_⟩
  cases b with
  | false => exact k.nx _ _ _ _ (tk1.trans tka) (sr1.mono tka) hra qa
  | true =>
   refine ⟨fun σ' H' => ∃ σ3' H3',TK H H'∧SR X.K H' σ3' σ'∧HR X.K H3' H'∧P σ3' H3'∧μ σ3' H3' < μ σ31 H31,?_,?_⟩
   ·rintro σ' H' ⟨σ3',H3',z1,z2,z3,z4,z5⟩
    exact ⟨_,z5,σ3',H3',z1,z2,z3,z4,rfl⟩
   ·have kk:=k.mono (tk1.trans tka)
    exact ⟨σ31,H3a,_,sr1.mono tka,hra,qa,⟨fun σ3' σ' H3' H' tk' sr' hr' q' => ⟨σ3',H3',(tk1.trans tka).trans tk',sr',hr',q'.1,q'.2⟩,kk.rt,kk.nx,
     fun σ3' σ' H3' H' tk' sr' hr' q' => ⟨σ3',H3',(tk1.trans tka).trans tk',sr',hr',q'.1,q'.2⟩⟩⟩
noncomputable abbrev TI3:=St3→Hp3→(List D→(Hp3→Prop)→Hp3→Prop)→Prop
noncomputable def ItOk (K:PySem.W.Frag) (H0:Hp) (ds:List D) (keep:Hp3→Prop) (J:It):Prop :=
 ∀ H3 H,TK H0 H→HR K H3 H→keep H3→(∀ i,i < ds.length→J.go i H∧∀ x H',J.yld i H x H'→TK H H'∧HR K H3 H'∧∃ d,ds[i]? = some d∧Rep K H' d x)∧J.stop ds.length H
inductive liftI (K:PySem.W.Frag) (t:TI3) (σ:St) (H:Hp) (R:It→Hp→Prop):Prop
 | mk (σ3:St3) (H3:Hp3) (R3:List D→(Hp3→Prop)→Hp3→Prop) (_:SR K H σ3 σ) (_:HR K H3 H) (_:t σ3 H3 R3) (_:∀ ds keep J H3' H',TK H H'→HR K H3' H'→ItOk K H' ds keep J→R3 ds keep H3'→R J H')
noncomputable def PI3 (X:Cx) (tg iter:Expr) (t:TI3):Prop:=PI X tg iter (liftI X.K t)
theorem pi_imp {tg iter:Expr} {t t':TI} (h:PI X tg iter t) (i:∀ σ H R,t' σ H R→t σ H R):PI X tg iter t':=fun pins s σ H R I hw => h pins s σ H R I (i σ H R hw)
noncomputable def il3 (te:TE3):TI3:=fun σ H R => te σ H fun x H1 => match x with
 | .ref a => (match H1 a with
  | some (.lst ds) => R ds (fun H' => H' a = some (.lst ds)) H1
  | _ => False)
 | .fl ds => R ds (fun _ => True) H1
 | _ => False
noncomputable def it3 (te:TE3):TI3:=fun σ H R => te σ H fun x H1 => match x with
 | .tup ds => R ds (fun _ => True) H1
 | _ => False
theorem itOk_list {K:PySem.W.Frag} {H:Hp} {a:Addr} {ds:List D}:ItOk K H ds (fun H' => H' a = some (.lst ds)) (Itl K a):=fun H3 H' _ hr hk => by
 obtain ⟨vs,ga,ra⟩:=hr a _ hk
 refine ⟨fun i hi => ⟨⟨vs,vs[i]'(by rw [← ra.length]; exact hi),SqL.of ga,by simp⟩,fun x H'' y => ?_⟩,⟨vs,SqL.of ga,by rw [ra.length]; exact Nat.le_refl _⟩⟩
 obtain ⟨e,y⟩:=y
 subst e
 exact ⟨TK.refl,hr,ra.getV (y vs (SqL.of ga))⟩
theorem itOk_fl {K:PySem.W.Frag} {H:Hp} {a:Addr} {xs:List V} {ds:List D} (ha:FzL K H a xs) (ra:RepL K H ds xs):ItOk K H ds (fun _ => True) (Itl K a):=fun H3 H' tk hr _ => by
 have hq:=(tk.fzL ha).sq
 have ra':=ra.mono tk
 refine ⟨fun i hi => ⟨⟨xs,xs[i]'(by rw [← ra.length]; exact hi),hq,by simp⟩,fun x H'' y => ?_⟩,⟨xs,hq,by rw [ra.length]; exact Nat.le_refl _⟩⟩
 obtain ⟨e,y⟩:=y
 subst e
 exact ⟨TK.refl,hr,ra'.getV (y xs hq)⟩
theorem itOk_tup {K:PySem.W.Frag} {H:Hp} {a:Addr} {xs:List V} {ds:List D} (ha:SqT K H a xs) (ra:RepL K H ds xs):ItOk K H ds (fun _ => True) (Itt K a):=fun H3 H' tk hr _ => by
 have hq:=tk.sqT ha
 have ra':=ra.mono tk
 refine ⟨fun i hi => ⟨⟨xs,xs[i]'(by rw [← ra.length]; exact hi),hq,by simp⟩,fun x H'' y => ?_⟩,⟨xs,hq,by rw [ra.length]; exact Nat.le_refl _⟩⟩
 obtain ⟨e,y⟩:=y
 subst e
 exact ⟨TK.refl,hr,ra'.getV (y xs hq)⟩
theorem i3_list {tg:Expr} (h:PE3 X e te):PI3 X tg e (il3 te) :=
 pi_imp (pi_list h) fun _ _ _ ⟨σ3,H3,R3,sr,hr,t,k⟩ => ⟨σ3,H3,_,sr,hr,t,fun x v H3a Ha tka hra rx qa => by
  cases rx with
  | ref a =>
   simp only [] at qa
   split at qa
   ·rename_i ds ha
    obtain ⟨vs,ga,ra⟩:=hra a _ ha
    exact ⟨a,rfl,⟨vs,SqL.of ga⟩,k _ _ _ _ _ tka hra itOk_list qa⟩
   ·exact qa.elim
  | fl ha ra => exact ⟨_,rfl,⟨_,ha.sq⟩,k _ _ _ _ _ tka hra (itOk_fl ha ra) qa⟩
  | _ => exact qa.elim⟩
theorem i3_tup {tg:Expr} (h:PE3 X e te):PI3 X tg e (it3 te) :=
 pi_imp (pi_tup h) fun _ _ _ ⟨σ3,H3,R3,sr,hr,t,k⟩ => ⟨σ3,H3,_,sr,hr,t,fun x v H3a Ha tka hra rx qa => by
  cases rx with
  | tup ha ra => exact ⟨_,rfl,⟨_,SqT.of ha⟩,k _ _ _ _ _ tka hra (itOk_tup (SqT.of ha) ra) qa⟩
  | _ => exact qa.elim⟩
noncomputable def rng (lo:Int) (n:Nat):List D:=(List.range n).map fun (i:Nat) => D.int (lo + (i:Int))
theorem rng_len (lo:Int) (n:Nat):(rng lo n).length = n:=by simp [rng]
theorem rng_get {lo:Int} {n i:Nat} (h:i < n):(rng lo n)[i]? = some (.int (lo + i)):=by simp [rng,h]
theorem itOk_rng {K:PySem.W.Frag} {H:Hp} {lo:Int} {n:Nat}:ItOk K H (rng lo n) (fun _ => True) (Itr lo n):=fun H3 H' tk hr _ => by
 refine ⟨fun i hi => ?_,?_⟩
 ·rw [rng_len] at hi
  refine ⟨hi,fun x H'' y => ?_⟩
  obtain ⟨e,y⟩:=y
  subst y
  subst e
  exact ⟨TK.refl,hr,_,rng_get hi,.int _⟩
 ·rw [rng_len]; exact Nat.le_refl _
noncomputable def rg1 (x:D) (H:Hp3) (R:List D→(Hp3→Prop)→Hp3→Prop):Prop:=match x with
 | .int j => R (rng 0 j.toNat) (fun _ => True) H
 | _ => False
noncomputable def rg2 (x y:D) (H:Hp3) (R:List D→(Hp3→Prop)→Hp3→Prop):Prop:=match x,y with
 | .int i,.int j => R (rng i (j - i).toNat) (fun _ => True) H
 | _,_ => False
noncomputable def ir1 (ta:TE3):TI3:=fun σ H R => ta σ H fun x H1 => rg1 x H1 R
noncomputable def ir2 (ta tb:TE3):TI3:=fun σ H R => ta σ H fun x H1 => tb σ H1 fun y H2 => rg2 x y H2 R
theorem i3_rng1 {tg a:Expr} {ta:TE3} {p pos:Pos} (hm:X.mg "range" = none) (ha:PE3 X a ta) (hg:Gl X "range":=by rfl) (hs:starEach [a] X.env = [(false,eval a X.env)]:=by rfl) (hs':starEach [a] X.env = (false,eval a X.env)::starEach [] X.env:=by rfl):PI3 X tg (.Call (.Name "range" p) [a] [] pos) (ir1 ta) :=
 pi_imp (pj_range1 hg hm (a3_cons ha a3_nil hs') hs) fun _ _ _ ⟨σ3,H3,R3,sr,hr,t,k⟩ => by
  refine ⟨σ3,H3,fun ds H1 => (match ds with | [x] => rg1 x H1 R3 | _ => False),sr,hr,t,fun ds vs H3a Ha tka hra rs qa => ?_⟩
  cases rs with
  | nil => exact qa.elim
  | cons r1 r2 =>
   cases r2 with
   | cons _ _ => exact qa.elim
   | nil =>
    cases r1 with
    | int j => exact ⟨j,rfl,k _ _ _ _ _ tka hra itOk_rng qa⟩
    | _ => exact qa.elim
theorem i3_rng2 {tg a b:Expr} {ta tb:TE3} {p pos:Pos} (hm:X.mg "range" = none) (ha:PE3 X a ta) (hb:PE3 X b tb) (hg:Gl X "range":=by rfl) (hs:starEach [a,b] X.env = [(false,eval a X.env),(false,eval b X.env)]:=by rfl)
  (hs1:starEach [a,b] X.env = (false,eval a X.env)::starEach [b] X.env:=by rfl) (hs2:starEach [b] X.env = (false,eval b X.env)::starEach [] X.env:=by rfl) (hs3:starEach [b] X.env = [(false,eval b X.env)]:=by rfl):PI3 X tg (.Call (.Name "range" p) [a,b] [] pos) (ir2 ta tb) :=
 pi_imp (pj_range2 hg hm (a3_cons ha (a3_cons hb a3_nil hs2) hs1) hs hs3) fun _ _ _ ⟨σ3,H3,R3,sr,hr,t,k⟩ => by
  refine ⟨σ3,H3,fun ds H1 => (match ds with | [x,y] => rg2 x y H1 R3 | _ => False),sr,hr,t,fun ds vs H3a Ha tka hra rs qa => ?_⟩
  cases rs with
  | nil => exact qa.elim
  | cons r1 r2 =>
   cases r2 with
   | nil => exact qa.elim
   | cons r2 r3 =>
    cases r3 with
    | cons _ _ => exact qa.elim
    | nil =>
     cases r1 with
     | int i =>
      cases r2 with
      | int j => exact ⟨i,j,rfl,k _ _ _ _ _ tka hra itOk_rng qa⟩
      | _ => exact qa.elim
     | _ => exact qa.elim
noncomputable def fo3 (wi:TI3) (g:TG3) (tb:TS3):TS3:=fun D σ H => wi σ H fun ds keep H1 => ∃ P:Nat→St3→Hp3→Prop,P 0 σ H1∧(∀ i σ H,i≤ds.length→P i σ H→keep H) ∧
 (∀ i d σ H,ds[i]? = some d→P i σ H→g d σ H fun σ2 H2 => tb { D with nx:=P (i + 1),ct:=P (i + 1),bk:=D.nx } σ2 H2)∧∀ σ H,P ds.length σ H→D.nx σ H
theorem s3_for {tg iter:Expr} {body:List Stmt} {wi:TI3} {g:TG3} {tb:TS3} (hp:PassesOwn (model X.prog X.w) X.A X.env X.xe) (hc:X.calm = true) (hi:PI3 X tg iter wi) (hg:PG3 X tg g) (hb:PSs3 X body tb)
  (hs:∀ x,foldedSetIterable iter X.env x = pure x:=by intro _; rfl):PS3 X (.For tg iter body [] pos) (fo3 wi g tb) :=
 ps_imp (ps_for hp hc hi hg hb hs) fun D σ H zz => zz.ex fun σ3 H3 D3 sr hr t k => ⟨σ3,H3,_,sr,hr,t,fun ds keep J H3' H' tk' hr' ok q => by
  obtain ⟨P,p0,pk,pstep,pd⟩:=q
  refine ⟨fun i m σ1 H1 => m = ds.length - i∧i≤ds.length∧∃ σ31 H31,TK H' H1∧SR X.K H1 σ31 σ1∧HR X.K H31 H1∧P i σ31 H31,⟨ds.length,by simp,Nat.zero_le _,σ3,H3',TK.refl,sr.mono tk',hr',p0⟩,?_⟩
  rintro i m σ1 H1 ⟨rfl,hi,σ31,H31,tk1,sr1,hr1,p1⟩
  obtain ⟨go,stop⟩:=ok H31 H1 tk1 hr1 (pk i σ31 H31 hi p1)
  by_cases hlt:i < ds.length
  ·obtain ⟨g1,g2⟩:=go i hlt
   refine .inr ⟨g1,fun σ' H'' => i + 1≤ds.length∧∃ σ3' H3'',TK H' H''∧SR X.K H'' σ3' σ'∧HR X.K H3'' H''∧P (i + 1) σ3' H3'',fun σ' H'' z => ⟨ds.length - (i + 1),by omega,rfl,z.1,z.2⟩,fun x H'' y => ?_⟩
   obtain ⟨tky,hry,d,ed,rd⟩:=g2 x H'' y
   refine ⟨d,σ31,H31,_,rd,sr1.mono tky,hry,pstep i d σ31 H31 ed p1,fun σ3b σb H3b Hb tkb srb hrb qb => ⟨σ3b,H3b,_,srb,hrb,qb,?_⟩⟩
   have kk:=k.mono (tk'.trans ((tk1.trans tky).trans tkb))
   exact ⟨fun σ3c σc H3c Hc tkc src hrc qc => ⟨hlt,σ3c,H3c,((tk1.trans tky).trans tkb).trans tkc,src,hrc,qc⟩,kk.rt,kk.nx,fun σ3c σc H3c Hc tkc src hrc qc => ⟨hlt,σ3c,H3c,((tk1.trans tky).trans tkb).trans tkc,src,hrc,qc⟩⟩
  ·have e:i = ds.length:=by omega
   subst e
   exact .inl ⟨stop,k.nx _ _ _ _ (tk'.trans tk1) sr1 hr1 (pd σ31 H31 p1)⟩⟩
end
noncomputable abbrev Sp3:=List D→Hp3→VK3→Prop
noncomputable def liftF (K:PySem.W.Frag) (sp:Sp3):Sp:=fun vs H Q _ => liftC K sp vs H Q
structure Fn (P:Program) (w:World) (K:PySem.W.Frag) (mg:Str→Option Value) (base:Heap) (k:Nat) (x:Str) (ps:List Str) (sp:Sp3):Prop where
 ex:∃ f fd,FnOk P w K mg base CX0 k f fd ps (liftF K sp)∧mg x = some (.ref f)∧PySem.W.keepIn K (.ref f) = true∧Binds K fd ps []
theorem p3_call {X:Cx} {k:Nat} {x:Str} {ps:List Str} {sp:Sp3} {p pos:Pos} {e:Expr} {es:List Expr} {t:TA3} (F:Fn X.prog X.w X.K X.mg X.base k x ps sp) (hr:Room k X.A) (ha:PA3 X (e::es) t)
  (hg:Gl X x:=by rfl) (hdb:(x == ("__debug__" : Str)) = false:=by decide) (he:starEach (e::es) X.env = (false,eval e X.env)::starEach es X.env:=by rfl) (hpl:(backTo pos (starEach es X.env)).any (·.1) = false:=by rfl) :
  PE3 X (.Call (.Name x p) (e::es) [] pos) (cb3 sp t):=by
 obtain ⟨f,fd,F,hm,hk,hb⟩:=F.ex
 refine pe_imp (pe_call (E:=E0) F hr hg hm hk hb .nil pass0 ha hdb he hpl) fun _ _ _ h => ?_
 obtain ⟨σ3,H3,Q3,sr,hr,t,k⟩:=h
 exact ⟨σ3,H3,_,sr,hr,t,fun ds vs H3a Ha tka hra rs qa => ⟨ds,H3a,Q3,hra,by rw [List.append_nil]; exact rs,qa,k.mono tka⟩⟩
noncomputable def start3 (N:List Str) (ds:List D):St3:=ds.map some++List.replicate (N.length - ds.length) none
theorem sr_start {K:PySem.W.Frag} {H:Hp} {N:List Str} {ds:List D} {vs:List V} (r:RepL K H ds vs):SR K H (start3 N ds) (L2.start N vs):=by
 have hl:=r.length
 refine ⟨by simp [start3,L2.start,hl],fun i d h => ?_⟩
 unfold start3 at h
 by_cases hi:i < ds.length
 ·rw [List.getElem?_append_left (by simpa using hi),List.getElem?_map] at h
  cases e:ds[i]? with
  | none => rw [e] at h; cases h
  | some d' =>
   rw [e] at h
   cases h
   obtain ⟨v,hv,rv⟩:=r.get e
   refine ⟨v,?_,rv⟩
   unfold L2.start
   rw [List.getElem?_append_left (by rw [List.length_map,← hl]; exact hi),List.getElem?_map,hv]
   rfl
 ·rw [List.getElem?_append_right (by simpa using hi),List.getElem?_replicate] at h
  split at h <;> cases h
noncomputable def fin3 (Q:VK3):Ends3:={ nx:=fun _ H' => ∃ H'',Sub3 H'' H'∧Q .non H'',rt:=fun d H' => ∃ H'',Sub3 H'' H'∧Q d H'' }
theorem fnok3 {P:Program} {w:World} {K:PySem.W.Frag} {mg:Str→Option Value} {base:Heap} {x qual:Str} {st:Stmt} {f:Addr} {fd:FuncData} {N ps:List Str} {k:Nat} {sp:Sp3} (F:Fun K x qual st f fd) (S:FnScope N ps (defScope st))
  (len:∀ ds H Q,sp ds H Q→ds.length = ps.length)
  (hbody:∀ (cdv:Value) (A:Around) (outer:List Env) (s:Shared) (H:Hp) (E:XK),Room k (A.deeper (envOfC qual (defScope st) s.heap.objs.size f cdv)) →
   ∃ t,PSs3 (cxOf CX0 P w K mg base N qual (defScope st) f cdv A outer s H E).nox (defBody st) t∧∀ ds H3 Q3,sp ds H3 Q3→t (fin3 Q3) (start3 N ds) H3):FnOk P w K mg base CX0 (k + 1) f fd ps (liftF K sp):=by
 refine F.ok S (fun vs H Q E h => ?_) (fun cdv A outer s H vs Q E hr h => ?_)
 ·obtain ⟨ds,H3,Q3,_,rs,q,_⟩:=h
  rw [← rs.length]
  exact len ds H3 Q3 q
 ·obtain ⟨ds,H3,Q3,hr3,rs,q,k⟩:=h
  obtain ⟨t,ht,hq⟩:=hbody cdv A outer s H E hr
  refine ⟨_,ht,start3 N ds,H3,_,sr_start rs,hr3,hq ds H3 Q3 q,⟨fun σ3 σ H3' H' tk sr hr' z => ?_,fun d v H3' H' tk hr' rd z => ?_,fun _ _ _ _ _ _ _ z => z.elim,fun _ _ _ _ _ _ _ z => z.elim⟩⟩
  ·obtain ⟨H'',sub,q'⟩:=z
   exact k _ _ _ _ tk (hr'.sub sub) .non q'
  ·obtain ⟨H'',sub,q'⟩:=z
   exact k _ _ _ _ tk (hr'.sub sub) rd q'
theorem fn3 {P:Program} {w:World} {K:PySem.W.Frag} {mg:Str→Option Value} {base:Heap} {x qual:Str} {st:Stmt} {f:Addr} {fd:FuncData} {N ps:List Str} {k:Nat} {sp:Sp3} (F:Fun K x qual st f fd) (S:FnScope N ps (defScope st))
  (hm:mg x = some (.ref f)) (hb:Binds K fd ps []) (len:∀ ds H Q,sp ds H Q→ds.length = ps.length)
  (hbody:∀ (cdv:Value) (A:Around) (outer:List Env) (s:Shared) (H:Hp) (E:XK),Room k (A.deeper (envOfC qual (defScope st) s.heap.objs.size f cdv)) →
   ∃ t,PSs3 (cxOf CX0 P w K mg base N qual (defScope st) f cdv A outer s H E).nox (defBody st) t∧∀ ds H3 Q3,sp ds H3 Q3→t (fin3 Q3) (start3 N ds) H3):Fn P w K mg base (k + 1) x ps sp :=
 ⟨f,fd,fnok3 F S len hbody,hm,F.kp,hb⟩
theorem start_law {K:PySem.W.Frag} {sp:Sp3} {H:Hp} {a:Addr} {ns:List Int} {E:XK} (hO:Only H) (hS:SqL K H a (ns.map V.int)) (h:sp [.fl (ns.map D.int)] (fun _ => none) (fun d _ => d = .bl true)):liftF K sp [.ref a] H (fun v _ => v = .bl true) E:=by
 refine ⟨[.fl (ns.map D.int)],fun _ => none,fun d _ => d = .bl true,fun b o e => (by cases e),.cons (.fl ?_ (RepL.ints ns)) .nil,h,fun d v H3' H' tk hr rd q => ?_⟩
 ·rcases hS with (z | z) | z
  ·rcases hO a with q | ⟨o,xs,q⟩
   ·rw [z] at q; cases q
   ·rw [z] at q; cases q
  ·exact .inl z
  ·exact .inr z
 ·subst q
  cases rd
  rfl
noncomputable def mapO {α β:Type} (f:α→Option β):List α→Option (List β)
 | [] => some []
 | d::ds => match f d with
  | none => none
  | some p => match mapO f ds with
   | none => none
   | some ps => some (p::ps)
noncomputable def pyN:Nat→D→Option PyData
 | 0,d => match d with
  | .non => some .none
  | .bl b => some (.bool b)
  | .int i => some (.int i)
  | .str x => if PyData.strOk x = true then some (.str x) else none
  | _ => none
 | n + 1,d => match d with
  | .non => some .none
  | .bl b => some (.bool b)
  | .int i => some (.int i)
  | .str x => if PyData.strOk x = true then some (.str x) else none
  | .tup ds => (mapO (pyN n) ds).map .tuple
  | .ktup ds => (mapO (pyN n) ds).map .tuple
  | _ => none
noncomputable def pyH (H:Hp3) (d:D):Option PyData:=match d with
 | .ref a => (match H a with
  | some (.lst ds) => (mapO (pyN 4) ds).map .list
  | _ => none)
 | .fl ds => (mapO (pyN 4) ds).map .list
 | d => pyN 5 d
section
variable {X:Cx} {pins:List (Addr×Obj)} {σ:St} {H:Hp} {s:Shared}
theorem mapO_cons {f:D→Option PyData} {d:D} {ds:List D} {ps:List PyData} (h:mapO f (d::ds) = some ps):∃ p ps',f d = some p∧mapO f ds = some ps'∧ps = p::ps':=by
 unfold mapO at h
 cases e1:f d with
 | none => rw [e1] at h; cases h
 | some p =>
  rw [e1] at h
  cases e2:mapO f ds with
  | none => rw [e2] at h; cases h
  | some ps' => rw [e2] at h; cases h; exact ⟨p,ps',rfl,rfl,rfl⟩
theorem vals_reads {f:D→Option PyData} {n:Nat} (hf:∀ {d:D} {v:V} {u:Value} {p:PyData},Rep X.K H d v→RelV v u→f d = some p→(∃ as,Reads s.heap u p as)∧p.canLay0 = true∧p.depth≤n) :
  ∀ {ds:List D} {vs:List V} {us:List Value} {ps:List PyData},RepL X.K H ds vs→Vals vs us→mapO f ds = some ps→(∃ as,ReadsAll s.heap us ps as)∧PyData.canLayAll0 ps = true∧PyData.depthAll ps≤n:=by
 intro ds vs us ps hr hv h
 induction hv generalizing ds ps with
 | nil =>
  cases hr
  cases h
  exact ⟨⟨[],.nil⟩,rfl,Nat.zero_le _⟩
 | cons q qs ih =>
  cases hr with
  | cons r rs =>
   obtain ⟨p,ps',e1,e2,rfl⟩:=mapO_cons h
   obtain ⟨⟨as,h1⟩,h2,h3⟩:=hf r q e1
   obtain ⟨⟨bs,g1⟩,g2,g3⟩:=ih rs e2
   exact ⟨⟨_,.cons h1 g1⟩,by rw [PyData.canLayAll0,h2,g2]; rfl,Nat.max_le.mpr ⟨h3,g3⟩⟩
theorem rep_reads (I:Inv X pins σ H s):∀ (n:Nat) {d:D} {v:V} {u:Value} {p:PyData},Rep X.K H d v→RelV v u→pyN n d = some p→(∃ as,Reads s.heap u p as)∧p.canLay0 = true∧p.depth≤n:=by
 intro n
 induction n with
 | zero =>
  intro d v u p r q h
  cases r with
  | non => cases h; cases q; exact ⟨⟨_,.none⟩,rfl,Nat.zero_le _⟩
  | bl b => cases h; cases q; exact ⟨⟨_,.bool b⟩,rfl,Nat.zero_le _⟩
  | int i => cases h; obtain ⟨t,rfl⟩:=q; exact ⟨⟨_,.int i t⟩,rfl,Nat.zero_le _⟩
  | str x =>
   replace h:(if PyData.strOk _ = true then some (PyData.str _) else none) = some p:=h
   split at h
   ·rename_i hx
    cases h; obtain ⟨t,rfl⟩:=q; exact ⟨⟨_,.str x t⟩,hx,Nat.zero_le _⟩
   ·cases h
  | _ => cases h
 | succ n ih =>
  intro d v u p r q h
  cases r with
  | non => cases h; cases q; exact ⟨⟨_,.none⟩,rfl,Nat.zero_le _⟩
  | bl b => cases h; cases q; exact ⟨⟨_,.bool b⟩,rfl,Nat.zero_le _⟩
  | int i => cases h; obtain ⟨t,rfl⟩:=q; exact ⟨⟨_,.int i t⟩,rfl,Nat.zero_le _⟩
  | str x =>
   replace h:(if PyData.strOk _ = true then some (PyData.str _) else none) = some p:=h
   split at h
   ·rename_i hx
    cases h; obtain ⟨t,rfl⟩:=q; exact ⟨⟨_,.str x t⟩,hx,Nat.zero_le _⟩
   ·cases h
  | tup ha ra =>
   replace h:(mapO (pyN n) _).map PyData.tuple = some p:=h
   rw [Option.map_eq_some_iff] at h
   obtain ⟨ps,h1,rfl⟩:=h
   cases q
   obtain ⟨its,rv,⟨o,ho,hc,m,hd⟩,_⟩:=I.tuple (SqT.of ha)
   obtain ⟨⟨as,g1⟩,g2,g3⟩:=vals_reads (f:=pyN n) (n:=n) ih ra rv h1
   exact ⟨⟨_,.tuple ho hc hd (by simpa using g1)⟩,g2,by simp only [PyData.depth]; omega⟩
  | ktup ha ra =>
   replace h:(mapO (pyN n) _).map PyData.tuple = some p:=h
   rw [Option.map_eq_some_iff] at h
   obtain ⟨ps,h1,rfl⟩:=h
   cases q
   obtain ⟨its,rv,⟨o,ho,hc,m,hd⟩,_⟩:=I.tuple ha.sq
   obtain ⟨⟨as,g1⟩,g2,g3⟩:=vals_reads (f:=pyN n) (n:=n) ih ra rv h1
   exact ⟨⟨_,.tuple ho hc hd (by simpa using g1)⟩,g2,by simp only [PyData.depth]; omega⟩
  | _ => cases h
theorem pyH_reads (I:Inv X pins σ H s) {H3:Hp3} (hr:HR X.K H3 H) {d:D} {v:V} {u:Value} {p:PyData} (r:Rep X.K H d v) (q:RelV v u) (h:pyH H3 d = some p):(∃ as,Reads s.heap u p as)∧p.canLay0 = true∧p.depth≤5:=by
 have lst:∀ {a:Addr} {xs:List V} {ds:List D},SqL X.K H a xs→RepL X.K H ds xs→(mapO (pyN 4) ds).map PyData.list = some p→(∃ as,Reads s.heap (.ref a) p as)∧p.canLay0 = true∧p.depth≤5:=fun hq ra h => by
  simp only [Option.map_eq_some_iff] at h
  obtain ⟨ps,h1,rfl⟩:=h
  obtain ⟨its,rv,pl,_⟩:=I.list hq
  obtain ⟨o,ho,hc,m,hd⟩:=pl.isList
  obtain ⟨⟨as,g1⟩,g2,g3⟩:=vals_reads (f:=pyN 4) (n:=4) (rep_reads I 4) ra rv h1
  exact ⟨⟨_,.list ho hc hd (by simpa using g1)⟩,g2,by simp only [PyData.depth]; omega⟩
 cases r with
 | ref a =>
  (delta pyH at h; dsimp only at h)
  split at h
  ·rename_i ds ha
   obtain ⟨vs,ga,ra⟩:=hr a _ ha
   cases q
   exact lst (SqL.of ga) ra h
  ·cases h
 | fl ha ra => cases q; exact lst ha.sq ra h
 | non => exact rep_reads I 5 .non q h
 | bl b => exact rep_reads I 5 (.bl b) q h
 | int b => exact rep_reads I 5 (.int b) q h
 | str b => exact rep_reads I 5 (.str b) q h
 | ty b => exact rep_reads I 5 (.ty b) q h
 | tup a b => exact rep_reads I 5 (.tup a b) q h
 | ktup a b => exact rep_reads I 5 (.ktup a b) q h
end
noncomputable def r3eq:R3:=fun x y H Q => match pyH H x,pyH H y with
 | some p,some q => Q (.bl (PyData.eqv p q)) H
 | _,_ => False
noncomputable def r3ne:R3:=fun x y H Q => match pyH H x,pyH H y with
 | some p,some q => Q (.bl (!PyData.eqv p q)) H
 | _,_ => False
section
variable {X:Cx}
theorem op3_eq (hu:X.A.units + 64 < cLine):OpR X (compareOp .Eq) (lift2 X.K r3eq):=by
 intro pins s σ H x y v u Q I rx ry h
 obtain ⟨dx,dy,H3,Q3,hr,rdx,rdy,t,k⟩:=h
 simp only [r3eq] at t
 split at t
 ·rename_i p q e1 e2
  obtain ⟨⟨as,h1⟩,h2,h3⟩:=pyH_reads I hr rdx rx e1
  obtain ⟨⟨bs,g1⟩,g2,g3⟩:=pyH_reads I hr rdy ry e2
  exact SeqAt.compareEq_reads h1 g1 h2 g2 (by have:=Nat.min_le_left p.depth q.depth; omega) ⟨.bl _,H,I,rfl,k _ _ _ _ TK.refl hr (.bl _) t⟩
 ·exact t.elim
theorem op3_ne (hu:X.A.units + 64 < cLine):OpR X (compareOp .NotEq) (lift2 X.K r3ne):=by
 intro pins s σ H x y v u Q I rx ry h
 obtain ⟨dx,dy,H3,Q3,hr,rdx,rdy,t,k⟩:=h
 simp only [r3ne] at t
 split at t
 ·rename_i p q e1 e2
  obtain ⟨⟨as,h1⟩,h2,h3⟩:=pyH_reads I hr rdx rx e1
  obtain ⟨⟨bs,g1⟩,g2,g3⟩:=pyH_reads I hr rdy ry e2
  exact SeqAt.compareNe_reads h1 g1 h2 g2 (by have:=Nat.min_le_left p.depth q.depth; omega) ⟨.bl _,H,I,rfl,k _ _ _ _ TK.refl hr (.bl _) t⟩
 ·exact t.elim
noncomputable def seqH (H:Hp3) (d:D):Option (List D):=match d with
 | .ref a => (match H a with
  | some (.lst ds) => some ds
  | _ => none)
 | .fl ds => some ds
 | .tup ds => some ds
 | _ => none
noncomputable def r3in (neg:Bool):R3:=fun x y H Q => match pyN 4 x,(seqH H y).bind (mapO (pyN 4)) with
 | some p,some ps => Q (.bl (if neg then !ps.any (fun q => PyData.eqv q p) else ps.any fun q => PyData.eqv q p)) H
 | _,_ => False
open Classical in
noncomputable def inE (h:Heap) (p:PyData) (u:Value):Bool:=decide (∃ q as,Reads h u q as∧q.canLay0 = true∧PyData.eqv q p = true)
open Classical in
theorem inE_eq {h:Heap} {p q:PyData} {u:Value} {as:List Addr} (r:Reads h u q as) (c:q.canLay0 = true):inE h p u = PyData.eqv q p:=by
 unfold inE
 cases e:PyData.eqv q p with
 | true => exact decide_eq_true ⟨q,as,r,c,e⟩
 | false =>
  refine decide_eq_false fun z => ?_
  obtain ⟨q',as',r',c',e'⟩:=z
  have z:=SeqAt.Reads.unique q q' u as as' c r r'
  subst z
  rw [e] at e'
  cases e'
theorem in_items {pins:List (Addr×Obj)} {σ:St} {H:Hp} {s:Shared} (I:Inv X pins σ H s) (p:PyData) :
  ∀ {ds:List D} {vs:List V} {us:List Value} {ps:List PyData},RepL X.K H ds vs→Vals vs us→mapO (pyN 4) ds = some ps →
   us.any (inE s.heap p) = ps.any (fun q => PyData.eqv q p)∧∀ u∈us,∃ q as,Reads s.heap u q as∧q.canLay0 = true∧q.depth≤4:=by
 intro ds vs us ps hr hv h
 induction hv generalizing ds ps with
 | nil =>
  cases hr
  cases h
  exact ⟨rfl,fun _ z => nomatch z⟩
 | cons q qs ih =>
  cases hr with
  | cons r rs =>
   obtain ⟨p',ps',e1,e2,rfl⟩:=mapO_cons h
   obtain ⟨⟨as,h1⟩,h2,h3⟩:=rep_reads I 4 r q e1
   obtain ⟨g1,g2⟩:=ih rs e2
   refine ⟨by rw [List.any_cons,List.any_cons,inE_eq h1 h2,g1],fun u hu => ?_⟩
   rcases List.mem_cons.mp hu with e | hu
   ·rw [e]; exact ⟨_,_,h1,h2,h3⟩
   ·exact g2 u hu
theorem in_at {A:Around} {pins:List (Addr×Obj)} {σ:St} {H:Hp} {s:Shared} (I:Inv X pins σ H s) (hu:A.units + 8 < cLine) {x:D} {vx:V} {ux:Value} {p:PyData} (rx:Rep X.K H x vx) (qx:RelV vx ux) (ex:pyN 4 x = some p)
  {us:List Value} (h:∀ u∈us,∃ q as,Reads s.heap u q as∧q.canLay0 = true∧q.depth≤4):∀ u,u∈us.toArray→SeqAt.EqAt A s u ux (inE s.heap p u):=fun u hm => by
 obtain ⟨q,as,h1,h2,h3⟩:=h u (by simpa using hm)
 obtain ⟨⟨bs,g1⟩,g2,g3⟩:=rep_reads I 4 rx qx ex
 rw [inE_eq h1 h2]
 exact SeqAt.eqAt_reads _ _ A s _ _ _ _ h1 g1 h2 g2 (by have:=Nat.min_le_left q.depth p.depth; omega)
theorem in1_units {A:Around} (h:A.units + 64 < cLine):A.in1.units + 8 < cLine:=by
 have e:A.in1.units = A.units + 1:=rfl
 omega
theorem op3_in (hu:X.A.units + 64 < cLine):OpR X (compareOp .In) (lift2 X.K (r3in false)):=by
 intro pins s σ H x y v u Q I rx ry h
 obtain ⟨dx,dy,H3,Q3,hr,rdx,rdy,t,k⟩:=h
 simp only [r3in] at t
 split at t
 ·rename_i p ps e1 e2
  simp only [Option.bind_eq_some_iff] at e2
  obtain ⟨ds,e2,e3⟩:=e2
  have fin:=k _ _ _ _ TK.refl hr (.bl _) t
  cases rdy with
  | ref a =>
   (delta seqH at e2; dsimp only at e2)
   split at e2
   ·rename_i ds' ha
    cases e2
    obtain ⟨vs,ga,ra⟩:=hr a _ ha
    cases ry
    obtain ⟨its,rv,pl,_⟩:=I.list (SqL.of ga)
    obtain ⟨g1,g2⟩:=in_items I p ra rv e3
    refine SeqAt.in_listAt (inE s.heap p) pl.isList (in_at I (in1_units hu) rdx rx e1 g2) ⟨.bl _,H,I,rfl,?_⟩
    rw [show its.toArray.any (inE s.heap p) = its.any (inE s.heap p) by simp,g1]
    exact fin
   ·cases e2
  | fl ha ra =>
   cases e2
   cases ry
   obtain ⟨its,rv,pl,_⟩:=I.list ha.sq
   obtain ⟨g1,g2⟩:=in_items I p ra rv e3
   refine SeqAt.in_listAt (inE s.heap p) pl.isList (in_at I (in1_units hu) rdx rx e1 g2) ⟨.bl _,H,I,rfl,?_⟩
   rw [show its.toArray.any (inE s.heap p) = its.any (inE s.heap p) by simp,g1]
   exact fin
  | tup ha ra =>
   cases e2
   cases ry
   obtain ⟨its,rv,pl,_⟩:=I.tuple (SqT.of ha)
   obtain ⟨g1,g2⟩:=in_items I p ra rv e3
   refine SeqAt.in_tupleAt (inE s.heap p) pl (in_at I (in1_units hu) rdx rx e1 g2) ⟨.bl _,H,I,rfl,?_⟩
   rw [show its.toArray.any (inE s.heap p) = its.any (inE s.heap p) by simp,g1]
   exact fin
  | _ => cases e2
 ·exact t.elim
theorem op3_notIn (hu:X.A.units + 64 < cLine):OpR X (compareOp .NotIn) (lift2 X.K (r3in true)):=by
 intro pins s σ H x y v u Q I rx ry h
 obtain ⟨dx,dy,H3,Q3,hr,rdx,rdy,t,k⟩:=h
 simp only [r3in] at t
 split at t
 ·rename_i p ps e1 e2
  simp only [Option.bind_eq_some_iff] at e2
  obtain ⟨ds,e2,e3⟩:=e2
  have fin:=k _ _ _ _ TK.refl hr (.bl _) t
  cases rdy with
  | ref a =>
   (delta seqH at e2; dsimp only at e2)
   split at e2
   ·rename_i ds' ha
    cases e2
    obtain ⟨vs,ga,ra⟩:=hr a _ ha
    cases ry
    obtain ⟨its,rv,pl,_⟩:=I.list (SqL.of ga)
    obtain ⟨g1,g2⟩:=in_items I p ra rv e3
    refine SeqAt.notIn_listAt (inE s.heap p) pl.isList (in_at I (in1_units hu) rdx rx e1 g2) ⟨.bl _,H,I,rfl,?_⟩
    rw [show its.toArray.any (inE s.heap p) = its.any (inE s.heap p) by simp,g1]
    exact fin
   ·cases e2
  | fl ha ra =>
   cases e2
   cases ry
   obtain ⟨its,rv,pl,_⟩:=I.list ha.sq
   obtain ⟨g1,g2⟩:=in_items I p ra rv e3
   refine SeqAt.notIn_listAt (inE s.heap p) pl.isList (in_at I (in1_units hu) rdx rx e1 g2) ⟨.bl _,H,I,rfl,?_⟩
   rw [show its.toArray.any (inE s.heap p) = its.any (inE s.heap p) by simp,g1]
   exact fin
  | tup ha ra =>
   cases e2
   cases ry
   obtain ⟨its,rv,pl,_⟩:=I.tuple (SqT.of ha)
   obtain ⟨g1,g2⟩:=in_items I p ra rv e3
   refine SeqAt.notIn_tupleAt (inE s.heap p) pl (in_at I (in1_units hu) rdx rx e1 g2) ⟨.bl _,H,I,rfl,?_⟩
   rw [show its.toArray.any (inE s.heap p) = its.any (inE s.heap p) by simp,g1]
   exact fin
  | _ => cases e2
 ·exact t.elim
noncomputable def tyH (H:Hp3) (d:D):Option String:=match d with
 | .non => some "NoneType"
 | .bl _ => some "bool"
 | .int _ => some "int"
 | .str _ => some "str"
 | .tup _ => some "tuple"
 | .fl _ => some "list"
 | .ref a => (match H a with
  | some (.lst _) => some "list"
  | some (.dic _) => some "dict"
  | _ => none)
 | .ty _ => none
 | .ktup _ => some "tuple"
noncomputable def isT (U T:String):Bool:=U == T || (U == "bool" && T == "int")
noncomputable def kinds:List String:=["int", "bool", "str", "tuple", "list", "dict"]
noncomputable def r3isi:List D→Hp3→VK3→Prop:=fun ds H Q => match ds with
 | [x,.ty T] => (match tyH H x with
  | some U => T∈kinds∧Q (.bl (isT U T)) H
  | none => False)
 | _ => False
theorem kit_ok (K:PySem.W.Frag) (U T:String) (hU:U ∈ "NoneType"::kinds) (hT:T∈kinds):PySem.W.kitOne K (.type U) (.type T) = some (isT U T):=by
 simp only [kinds,List.mem_cons,List.not_mem_nil,or_false] at hU hT
 rcases hU with rfl | rfl | rfl | rfl | rfl | rfl | rfl <;> rcases hT with rfl | rfl | rfl | rfl | rfl | rfl <;> kernel_rfl
theorem r3isi_inv {ds:List D} {H:Hp3} {Q:VK3} (t:r3isi ds H Q):∃ x T U,ds = [x,.ty T]∧tyH H x = some U∧T∈kinds∧Q (.bl (isT U T)) H:=by
 unfold r3isi at t
 split at t
 ·split at t
  ·exact ⟨_,_,_,rfl,by assumption,t⟩
  ·exact t.elim
 ·exact t.elim
theorem cb3_isi:CallR X (.builtin "isinstance") (liftC X.K r3isi):=by
 intro pins s σ H xs us Q I rs h
 obtain ⟨ds,H3,Q3,hr,rd,t,k⟩:=h
 obtain ⟨x,T,U,rfl,eU,hT,t⟩:=r3isi_inv t
 cases rd with | cons r1 r2 => cases r2 with | cons r2 r3 => cases r3 with | nil => cases r2 with | ty _ =>
 obtain ⟨u,w,rfl,ru,rw'⟩:=vals2 rs
 obtain rfl:w = Value.type T:=rw'
 have fin:∀ tk,EP X pins σ Q (.bool (isT U T)) { s with toks:=tk }:=fun tk => ⟨.bl _,H,I.tok tk,rfl,k _ _ _ _ TK.refl hr (.bl _) t⟩
 have e:∀ (hU:U ∈ "NoneType"::kinds),PySem.W.kitOne X.K (.type U) (.type T) = some (isT U T):=fun hU => kit_ok X.K U T hU hT
 cases r1 with
 | non => cases eU; exact isinst_ok I ru (.non) (e (.head _)) fin
 | bl b => cases eU; exact isinst_ok I ru (.bl b) (e (.tail _ (.tail _ (.head _)))) fin
 | int b => cases eU; exact isinst_ok I ru (.int b) (e (.tail _ (.head _))) fin
 | str b => cases eU; exact isinst_ok I ru (.str b) (e (.tail _ (.tail _ (.tail _ (.head _))))) fin
 | ty b => cases eU
 | tup ha ra =>
  cases eU
  cases ru
  obtain ⟨its,_,⟨o,h1,h2,_⟩,_⟩:=I.tuple (SqT.of ha)
  exact PySem.W.kia_one PySem.W.kitx_tuple I.kIn ⟨o,h1,h2⟩ (e (.tail _ (.tail _ (.tail _ (.tail _ (.head _)))))) (fun z => nomatch z) fin
 | ktup ha ra =>
  cases eU
  cases ru
  obtain ⟨its,_,⟨o,h1,h2,_⟩,_⟩:=I.tuple ha.sq
  exact PySem.W.kia_one PySem.W.kitx_tuple I.kIn ⟨o,h1,h2⟩ (e (.tail _ (.tail _ (.tail _ (.tail _ (.head _)))))) (fun z => nomatch z) fin
 | fl ha ra =>
  cases eU
  cases ru
  obtain ⟨its,_,pl,_⟩:=I.list ha.sq
  obtain ⟨o,h1,h2,_⟩:=pl.isList
  exact PySem.W.kia_one PySem.W.kitx_list I.kIn ⟨o,h1,h2⟩ (e (.tail _ (.tail _ (.tail _ (.tail _ (.tail _ (.head _))))))) (fun z => nomatch z) fin
 | ref a =>
  (delta tyH at eU; dsimp only at eU)
  split at eU
  ·rename_i ds ha
   cases eU
   obtain ⟨vs,ga,ra⟩:=hr a _ ha
   exact isinst_ok I ru (.lst ga) (e (.tail _ (.tail _ (.tail _ (.tail _ (.tail _ (.head _))))))) fin
  ·rename_i ds ha
   cases eU
   obtain ⟨vs,ga,ra⟩:=hr a _ ha
   exact isinst_ok I ru (.dT ga) (e (.tail _ (.tail _ (.tail _ (.tail _ (.tail _ (.tail _ (.head _)))))))) fin
  all_goals cases eU
noncomputable def m3 (r:D→List D→Hp3→VK3→Prop) (to:TE3) (t:TA3):TE3:=fun σ H Q => to σ H fun x H1 => (match x with
 | .ref a => (match H1 a with
  | some (.lst _) => t σ H1 fun xs H2 => r x xs H2 Q
  | _ => False)
 | _ => False)
theorem p3_bm {o e:Expr} {es:List Expr} {to:TE3} {t:TA3} {name:Str} {apos cpos:Pos} {id:String} {r:D→List D→Hp3→VK3→Prop} (slot:Slot "list" name id) (hty:typeOf (.builtin id) = pure (.type "method_descriptor")) (hm:MtR X id (liftM X.K r)) (ho:PE3 X o to) (ha:PA3 X (e::es) t)
  (hbase:attributeBase o name X.env (eval o X.env) = eval o X.env:=by rfl)
  (hfew:((backTo cpos (starEach (e::es) X.env)).all (fun x => !x.1) && (backToKw cpos (keywordEach [] X.env)).all (fun x => x.1.isSome)
   && decide ((e::es).length + ([]:List Keyword).length + (if ([]:List Keyword).isEmpty then 0 else 1) < 30)) = true:=by rfl)
  (hline:(apos.endLine == cpos.line) = true:=by rfl) (hs:starEach (e::es) X.env = (false,eval e X.env)::starEach es X.env:=by rfl) (hplain:(backTo cpos (starEach es X.env)).any (·.1) = false:=by rfl) :
  PE3 X (.Call (.Attribute o name apos) (e::es) [] cpos) (m3 r to t) :=
 pe_imp (pe_bm PySem.F.plainAttrs_list slot hty hm ho ha hbase hfew hline hs hplain) fun _ _ _ zz => zz.ex fun σ3 H3 Q3 sr hr t k => ⟨σ3,H3,_,sr,hr,t,fun x v H3a Ha tka hra rx qa => by
  cases rx with
  | ref a =>
   simp only [] at qa
   split at qa
   ·rename_i ds ha
    obtain ⟨vs,ga,ra⟩:=hra a _ ha
    exact ⟨.inl ⟨rfl,vs,SqL.of ga⟩,σ3,H3a,_,sr.mono tka,hra,qa,fun ds us H3b Hb tkb hrb rs qb => ⟨.ref a,ds,H3b,Q3,hrb,.ref a,rs,qb,k.mono (tka.trans tkb)⟩⟩
   ·exact qa.elim
  | _ => exact qa.elim⟩
theorem p3_bm0 {o:Expr} {to:TE3} {name:Str} {apos cpos:Pos} {id:String} {r:D→List D→Hp3→VK3→Prop} (slot:Slot "list" name id) (hty:typeOf (.builtin id) = pure (.type "method_descriptor")) (hm:MtR X id (liftM X.K r)) (ho:PE3 X o to)
  (hbase:attributeBase o name X.env (eval o X.env) = eval o X.env:=by rfl) (hline:(apos.endLine == cpos.line) = true:=by rfl) :
  PE3 X (.Call (.Attribute o name apos) [] [] cpos) (m3 r to nil3) :=
 pe_imp (pe_bm0 PySem.F.plainAttrs_list slot hty hm ho hbase hline) fun _ _ _ zz => zz.ex fun σ3 H3 Q3 sr hr t k => ⟨σ3,H3,_,sr,hr,t,fun x v H3a Ha tka hra rx qa => by
  cases rx with
  | ref a =>
   simp only [] at qa
   split at qa
   ·rename_i ds ha
    obtain ⟨vs,ga,ra⟩:=hra a _ ha
    exact ⟨.inl ⟨rfl,vs,SqL.of ga⟩,.ref a,[],H3a,Q3,hra,.ref a,.nil,qa,k.mono tka⟩
   ·exact qa.elim
  | _ => exact qa.elim⟩
noncomputable def r3app:D→List D→Hp3→VK3→Prop:=fun x xs H Q => match x,xs with
 | .ref a,[y] => (match H a with
  | some (.lst ds) => ds.length < sizeLine∧Q .non (upd3 H a (.lst (ds++[y])))
  | _ => False)
 | _,_ => False
theorem mt3_app:MtR X "list.append" (liftM X.K r3app):=by
 intro pins s σ H x xs v us Q I rx rs h
 obtain ⟨d,ds,H3,Q3,hr,rd,rds,t,k⟩:=h
 cases rd with
 | ref a =>
  cases rds with
  | nil => exact t.elim
  | cons r1 r2 =>
   cases r2 with
   | cons _ _ => exact t.elim
   | nil =>
    (delta r3app at t; dsimp only at t)
    split at t
    ·rename_i ds ha
     obtain ⟨vs,ga,ra⟩:=hr a _ ha
     exact mt_append pins s σ H _ _ v us Q I rx rs ⟨a,vs,_,rfl,rfl,ga,by rw [← ra.length]; exact t.1,k _ _ _ _ (TK.lst ga) (hr.setL (TK.lst ga) ((ra.snoc r1).mono (TK.lst ga))) .non t.2⟩
    ·exact t.elim
 | _ => exact t.elim
noncomputable def r3ext:D→List D→Hp3→VK3→Prop:=fun x xs H Q => match x,xs with
 | .ref a,[.ref b] => (match H a,H b with
  | some (.lst ds),some (.lst es) => ds.length + es.length≤sizeLine∧Q .non (upd3 H a (.lst (ds++es)))
  | _,_ => False)
 | _,_ => False
theorem mt3_ext:MtR X "list.extend" (liftM X.K r3ext):=by
 intro pins s σ H x xs v us Q I rx rs h
 obtain ⟨d,ds,H3,Q3,hr,rd,rds,t,k⟩:=h
 cases rd with
 | ref a =>
  cases rds with
  | nil => exact t.elim
  | cons r1 r2 =>
   cases r2 with
   | cons _ _ => cases r1 <;> exact t.elim
   | nil =>
    cases r1 with
    | ref b =>
     (delta r3ext at t; dsimp only at t)
     split at t
     ·rename_i ds es ha hb
      obtain ⟨vs,ga,ra⟩:=hr a _ ha
      obtain ⟨ws,gb,rb⟩:=hr b _ hb
      exact mt_extend pins s σ H _ _ v us Q I rx rs ⟨a,b,vs,ws,rfl,rfl,ga,gb,by rw [← ra.length,← rb.length]; exact t.1,k _ _ _ _ (TK.lst ga) (hr.setL (TK.lst ga) ((ra.append rb).mono (TK.lst ga))) .non t.2⟩
     ·exact t.elim
    | _ => exact t.elim
 | _ => exact t.elim
noncomputable def r3pop:D→List D→Hp3→VK3→Prop:=fun x xs H Q => match x,xs with
 | .ref a,[] => (match H a with
  | some (.lst ds) => (match ds[ds.length - 1]? with | some y => Q y (upd3 H a (.lst ds.dropLast)) | none => False)
  | _ => False)
 | _,_ => False
theorem mt3_pop:MtR X "list.pop" (liftM X.K r3pop):=by
 intro pins s σ H x xs v us Q I rx rs h
 obtain ⟨d,ds,H3,Q3,hr,rd,rds,t,k⟩:=h
 cases rd with
 | ref a =>
  cases rds with
  | cons _ _ => exact t.elim
  | nil =>
   (delta r3pop at t; dsimp only at t)
   split at t
   ·rename_i ds ha
    split at t
    ·rename_i y ey
     obtain ⟨vs,ga,ra⟩:=hr a _ ha
     obtain ⟨w,ew,rw'⟩:=ra.get ey
     exact mt_pop pins s σ H _ _ v us Q I rx rs ⟨a,vs,w,rfl,rfl,ga,by rw [← ra.length]; exact ew,k _ _ _ _ (TK.lst ga) (hr.setL (TK.lst ga) (ra.dropLast.mono (TK.lst ga))) (rw'.mono (TK.lst ga)) t⟩
    ·exact t.elim
   ·exact t.elim
 | _ => exact t.elim
end
theorem closure_ok {scope:Scope} {env:Env} (h:∀ y,(y,NameKind.free)∈scope.names→∃ c,env.cells.lookup y = some c) :
  ∃ cl,closureFor scope env = pure cl∧(∀ y c,cl.lookup y = some c→env.cells.lookup y = some c)∧∀ y,(y,NameKind.free)∈scope.names→∃ c,cl.lookup y = some c:=by
 have go:∀ (names:List (Str×NameKind)) (cs:List (Str×Addr)),(∀ y,(y,NameKind.free)∈names→∃ c,env.cells.lookup y = some c)→(∀ y c,cs.lookup y = some c→env.cells.lookup y = some c) →
   ∃ cl,(forIn (m:=Sem) names cs fun (x:Str×NameKind) r => match x with
    | (name,kind) => if (kind == NameKind.free) = true then do let c ← cellOf env name; pure (ForInStep.yield ((name,c)::r)) else pure (ForInStep.yield r)) = pure cl ∧
    (∀ y c,cl.lookup y = some c→env.cells.lookup y = some c)∧(∀ y,(y,NameKind.free)∈names→∃ c,cl.lookup y = some c)∧∀ y c,cs.lookup y = some c→∃ c',cl.lookup y = some c':=by
  intro names
  induction names with
  | nil => intro cs _ h2; exact ⟨cs,rfl,h2,(fun _ z => nomatch z),fun y c e => ⟨c,e⟩⟩
  | cons x r ih =>
   intro cs h1 h2
   obtain ⟨n,k⟩:=x
   by_cases hk:k = NameKind.free
   ·subst hk
    obtain ⟨c,hc⟩:=h1 n List.mem_cons_self
    have ec:cellOf env n = pure c:=by unfold cellOf; rw [hc]
    have h2':∀ y c',((n,c)::cs).lookup y = some c'→env.cells.lookup y = some c':=fun y c' e => by
     rw [List.lookup_cons] at e
     split at e
     ·rename_i he
      cases e
      rw [eq_of_beq he]; exact hc
     ·exact h2 y c' e
    obtain ⟨cl,e1,e2,e3,e4⟩:=ih ((n,c)::cs) (fun y hy => h1 y (List.mem_cons_of_mem _ hy)) h2'
    have hn:∃ c',cl.lookup n = some c':=e4 n c (by rw [List.lookup_cons]; simp)
    refine ⟨cl,?_,e2,fun y hy => ?_,fun y c' e => ?_⟩
    ·rw [List.forIn_cons]
     simp only [beq_self_eq_true,if_true,ec]
     exact e1
    ·rcases List.mem_cons.mp hy with z | z
     ·cases z; exact hn
     ·exact e3 y z
    ·by_cases hy:y = n
     ·rw [hy]; exact hn
     ·exact e4 y c' (by rw [List.lookup_cons,beq_eq_false_iff_ne.mpr hy]; exact e)
   ·have hb:(k == NameKind.free) = false:=by simpa using hk
    obtain ⟨cl,e1,e2,e3,e4⟩:=ih cs (fun y hy => h1 y (List.mem_cons_of_mem _ hy)) h2
    refine ⟨cl,?_,e2,fun y hy => ?_,e4⟩
    ·rw [List.forIn_cons]
     simp only [hb,Bool.false_eq_true,if_false]
     exact e1
    ·rcases List.mem_cons.mp hy with z | z
     ·cases z; exact absurd rfl hk
     ·exact e3 y z
 obtain ⟨cl,e1,e2,e3,_⟩:=go scope.names [] h (fun _ _ e => by simp at e)
 refine ⟨cl,?_,e2,e3⟩
 unfold closureFor
 refine Eq.trans (congrArg (fun t => t >>= fun cs => pure cs) e1) ?_
 rfl
theorem comp_loop {prog:Program} {w:World} {A:Around} {R:Result→Shared→Prop} {s:Shared} {elt target iter:Expr} {ifs:List Expr} {scope:Scope} {pos:Pos} {it acc:Value} {env:Env} (I:Nat→Shared→Prop)
  (turn:∀ n s,I n s→wpAny (model prog w) A (pyNext it) (fun r s₁ => match r with
   | none => R (.ok .next) s₁
   | some v => wpAny (model prog w) A (letOwnedTupleGo target it v) (fun _ s₁' => wpAny (model prog w) A (assign target env v) (fun _ s₂ =>
     wpAny (model prog w) A (forIn ifs true fun c r => if r = true then do let ok ← isTrue c env (eval c env); pure (ForInStep.yield ok) else pure (ForInStep.yield r)) (fun ok s₃ =>
      if ok = true then wpAny (model prog w) A (eval elt env) (fun x s₄ =>
       wpAny (model prog w) A (call (.builtin "list.append") [acc,x]) (fun _ s₅ => ∃ m,m < n∧I m s₅) (fun _ _ => False) s₄) (fun _ _ => False) s₃
      else ∃ m,m < n∧I m s₃) (fun _ _ => False) s₂) (fun _ _ => False) s₁') (fun _ _ => False) s₁) (fun _ _ => False) s)
  (n:Nat) (h:I n s) :
  codeAny (model prog w) A (.compLoop (.ListComp elt [⟨target,iter,ifs,0⟩] scope pos) 0 it acc env) R s:=by
 refine codeAny_loop rfl I (fun n s hI => ?_) n h
 show wpAny _ A ((compTurn (.ListComp elt [⟨target,iter,ifs,0⟩] scope pos) 0 it acc env).onRaise (fun x => do noteFrame x env; theTreesLotGoes x)) _ _ s
 refine wpAny_noted ?_
 rw [compTurn_list]
 refine wpAny_bind (wpAny_standAt (wpAny_bind (wpAny_mono (turn n s hI) (fun r s₁ h₁ => ?_) fun _ _ h' => h'.elim)))
 cases r with
 | none => exact wpAny_pure h₁
 | some v =>
  refine wpAny_bind (wpAny_mono h₁ (fun _ s₁' h₁' => ?_) fun _ _ h' => h'.elim)
  refine wpAny_bind (wpAny_mono h₁' (fun _ s₂ h₂ => wpAny_bind (wpAny_mono h₂ (fun ok s₃ h₃ => ?_) fun _ _ h' => h'.elim)) fun _ _ h' => h'.elim)
  cases ok with
  | false => exact wpAny_pure ⟨rfl,h₃⟩
  | true =>
   exact wpAny_bind (wpAny_bind (wpAny_mono h₃ (fun x s₄ h₄ => wpAny_bind (wpAny_mono h₄ (fun _ s₅ h₅ => wpAny_pure (wpAny_pure ⟨rfl,h₅⟩)) fun _ _ h' => h'.elim)) fun _ _ h' => h'.elim))
noncomputable def cxC (X:Cx) (N':List Str) (scope:Scope) (cl:List (Str×Addr)) (s₁:Shared) (H₁:Hp) (fp:List Addr) (pins:List (Addr×Obj)):Cx where
 prog:=X.prog
 w:=X.w
 K:=X.K
 mg:=X.mg
 base:=X.base
 A:=X.A
 N:=N'
 s₀:=s₁
 H₀:=H₁
 env:=compEnvC scope cl s₁.heap.objs.size X.env
 outer:=X.stack
 stack:=X.stack
 ex:=fp
 fn:=fun _ => false
 calm:=X.calm
 pn:=X.pn++pins
 xe:=fun _ _ => False
noncomputable abbrev FV:=List (Nat×Str)
noncomputable def relS (scope sc:Scope):Scope:={ scope with names:=scope.names.map fun (n,k) => if (k == .free && sc.kind == .function && sc.names.lookup n == some .cell) then (n,.cell) else (n,k) }
structure CompOk (sc:Scope) (N:List Str) (scope:Scope) (N':List Str) (own:List Str) (fv:FV):Prop where
 kind:scope.kind = .function
 nocell:∀ y∈scope.names,y.2≠.cell
 loc:∀ y∈scope.names,y.2 = .local→scope.names.lookup y.1 = some .local
 fre':∀ y∈scope.names,y.2 = .free→sc.names.lookup y.1 = some .cell
 eqN:N' = own++fv.map (·.2)
 nd:N'.Nodup
 slot:∀ p∈fv,N[p.1]? = some p.2∧sc.names.lookup p.2 = some .cell∧(relS scope sc).names.lookup p.2 = some .cell
theorem CompOk.fre {sc scope:Scope} {N N' own:List Str} {fv:FV} (c:CompOk sc N scope N' own fv):∀ y,(y,NameKind.free)∈scope.names→sc.names.lookup y = some .cell:=fun y hy => c.fre' _ hy rfl
noncomputable def blk (own:List Str) (fv:FV) (σ:St):St:=own.map (fun _ => none)++fv.map fun p => (σ[p.1]?).join
theorem rel_lookup {scope:Scope} {env:Env}:∀ {names:List (Str×NameKind)} {y:Str} {k:NameKind},
  (names.map fun (n,k) => if (k == NameKind.free && env.scope.kind == .function && env.kindOf n == some .cell) then (n,NameKind.cell) else (n,k)).lookup y = some k→k = .cell∨k = .free→(∀ z∈names,z.2≠.cell)→(y,NameKind.free)∈names
 | [],_,_,h,_,_ => by simp at h
 | (n,k0)::r,y,k,h,hk,hc => by
  rw [List.map_cons] at h
  by_cases hf:k0 = NameKind.free
  ·by_cases hy:y = n
   ·subst hy; subst hf; exact List.mem_cons_self
   ·refine List.mem_cons_of_mem _ (rel_lookup (env:=env) (scope:=scope) (k:=k) ?_ hk fun z hz => hc z (List.mem_cons_of_mem _ hz))
    dsimp only at h
    have hyb:(y == n) = false:=beq_eq_false_iff_ne.mpr hy
    split at h <;> (rw [List.lookup_cons,hyb] at h; exact h)
  ·have hb:(k0 == NameKind.free) = false:=by simpa using hf
   simp only [hb,Bool.false_and,Bool.false_eq_true,if_false] at h
   rw [List.lookup_cons] at h
   by_cases hy:y = n
   ·subst hy
    simp only [beq_self_eq_true] at h
    cases h
    rcases hk with z | z
    ·exact absurd z (hc _ List.mem_cons_self)
    ·exact absurd z hf
   ·have hyb:(y == n) = false:=beq_eq_false_iff_ne.mpr hy
    rw [hyb] at h
    exact List.mem_cons_of_mem _ (rel_lookup (env:=env) (scope:=scope) (k:=k) h hk fun z hz => hc z (List.mem_cons_of_mem _ hz))
section
variable {X:Cx} {pins:List (Addr×Obj)} {σ:St} {H₁:Hp} {s₁ s₂:Shared} {scope:Scope} {cl:List (Str×Addr)} {N' own:List Str} {fv:FV} {fp:List Addr}
theorem cxC_ok (I:Inv X pins σ H₁ s₁) (c:CompOk X.env.scope X.N scope N' own fv) (h1:∀ y c,cl.lookup y = some c→X.env.cells.lookup y = some c) (h2:∀ y,(y,NameKind.free)∈scope.names→∃ c,cl.lookup y = some c)
  (hf:∀ b∈fp,FpOk X pins H₁ b∧b < s₁.heap.objs.size):(cxC X N' scope cl s₁ H₁ fp pins).Ok where
 mod:=I.ok.mod
 kind:=c.kind
 glob:=I.ok.glob
 blt:=I.ok.blt
 above:=Nat.le_refl _
 inj:=fun x y a e1 e2 => I.ok.inj x y a (h1 x a e1) (h1 y a e2)
 has:=fun x hx => by
  have hx':(relabel scope X.env).names.lookup x = some .cell∨(relabel scope X.env).names.lookup x = some .free:=hx
  rcases hx' with z | z
  ·exact h2 x (rel_lookup (scope:=scope) (env:=X.env) z (.inl rfl) c.nocell)
  ·exact h2 x (rel_lookup (scope:=scope) (env:=X.env) z (.inr rfl) c.nocell)
 cab:=fun x a e => by cases e
 hd:=I.ok.hd
 frames:=I.ok.frames
 stk:=.inl rfl
 exf:=fun b hb => ⟨Nat.ne_of_lt (hf b hb).2,fun x a e => (hf b hb).1.2.2.2.2.1 x a (h1 x a e)⟩
 bs:=I.bs
 bsz:=Nat.le_trans I.ok.bsz I.sz
 noex:=fun b o e hb => by
  rcases (hf b hb).1.2.2.2.1 with z | z
  ·exact I.ok.noex b o e z
  ·exact absurd (Nat.lt_of_lt_of_le (Heap.lt_size (I.ok.bs b o e).1) z) (Nat.lt_irrefl _)
 exfs:=fun b hb hm => by
  rcases List.mem_cons.mp (I.stkSub b hm) with z | z
  ·exact (hf b hb).1.2.1 z
  ·exact (hf b hb).1.2.2.1 z
 funs:=I.stack
 frf:=I.stkFree
theorem blk_len:(blk own fv σ).length = (own++fv.map (·.2)).length:=by simp [blk]
theorem inv_block (I:Inv X pins σ H₁ s₁) (c:CompOk X.env.scope X.N scope N' own fv) (h1:∀ y c,cl.lookup y = some c→X.env.cells.lookup y = some c) (h2:∀ y,(y,NameKind.free)∈scope.names→∃ c,cl.lookup y = some c)
  (hf:∀ b∈fp,FpOk X pins H₁ b∧b < s₁.heap.objs.size) {h':Heap} {m:Str→Option Value} {tk:Nat} (hn:h'.Ns s₁.heap.objs.size m) (kp:∀ b o,s₁.heap.get? b = some o→h'.get? b = some o) :
  Inv (cxC X N' scope cl s₁ H₁ fp pins) [] (blk own fv σ) H₁ { s₁ with heap:=h',toks:=tk } where
 ok:=cxC_ok I c h1 h2 hf
 os:=rfl
 bare:=I.bare
 base:=Un.kept kp
 loc:=by
  refine ⟨m,hn,fun i x v e1 e2 e3 => ?_⟩
  have e1':(own++fv.map (·.2))[i]? = some x:=by rw [← c.eqN]; exact e1
  have hi:¬ i < own.length:=fun hi => by
   unfold blk at e2
   rw [List.getElem?_append_left (by simpa using hi),List.getElem?_map] at e2
   cases z:own[i]? with
   | none => rw [z] at e2; cases e2
   | some y => rw [z] at e2; cases e2
  unfold blk at e2
  rw [List.getElem?_append_right (by simpa using hi),List.length_map,List.getElem?_map] at e2
  rw [List.getElem?_append_right (by simpa using hi),List.getElem?_map] at e1'
  cases z:fv[i - own.length]? with
  | none => rw [z] at e2; cases e2
  | some p =>
   rw [z] at e2 e1'
   have ex:p.2 = x:=Option.some.inj e1'
   subst ex
   obtain ⟨g1,g2,g3⟩:=c.slot p (List.mem_of_getElem? z)
   have e2':(σ[p.1]?).join = some v:=Option.some.inj e2
   have e2'':σ[p.1]? = some (some v):=by
    cases q:σ[p.1]? with
    | none => rw [q] at e2'; cases e2'
    | some o => rw [q] at e2'; rw [show o = some v from e2']
   obtain ⟨m0,hn0,hl0⟩:=I.loc
   obtain ⟨u,ru,lu⟩:=hl0 p.1 p.2 v g1 e2'' (.inr (.inl g2))
   refine ⟨u,ru,.inr ⟨.inl g3,?_⟩⟩
   rcases lu with ⟨k,_⟩ | ⟨_,cc,ec,ic⟩
   ·exact absurd (show X.env.scope.names.lookup p.2 = some NameKind.local from k) (by rw [g2]; intro z; cases z)
   ·have hfree:(p.2,NameKind.free)∈scope.names:=rel_lookup (scope:=scope) (env:=X.env) g3 (.inl rfl) c.nocell
    obtain ⟨c',ec'⟩:=h2 _ hfree
    have:=h1 _ _ ec'
    rw [ec] at this
    cases this
    obtain ⟨o,ho,hd⟩:=ic
    exact ⟨cc,ec',o,kp _ _ ho,hd⟩
 cell:=fun x a e => by
  obtain ⟨v,o,ho,hd⟩:=I.cell x a (h1 x a e)
  exact ⟨v,o,kp _ _ ho,hd⟩
 free:=I.hok.fresh (Nat.le_refl _)
 freeC:=fun x a e => I.freeC x a (h1 x a e)
 pin:=fun p hp => by
  rw [List.append_nil] at hp
  obtain ⟨g1,g2,g3,g4,g5⟩:=I.pin p hp
  refine ⟨kp _ _ g1,g2,Nat.ne_of_lt (Heap.lt_size g1),fun hm => ?_,g5⟩
  rcases List.mem_cons.mp (I.stkSub p.1 hm) with z | z
  ·exact g3 z
  ·exact g4 z
 hok:=I.hok.kept kp
 len:=by rw [blk_len,← c.eqN]; rfl
theorem inv_left {σ':St} {H':Hp} (I:Inv X pins σ H₁ s₁) (hf:∀ b∈fp,FpOk X pins H₁ b∧b < s₁.heap.objs.size) (J:Inv (cxC X N' scope cl s₁ H₁ fp pins) [] σ' H' s₂) :
  Inv X pins σ H' s₂∧FpOk X pins H' s₁.heap.objs.size∧∃ m,s₂.heap.Ns s₁.heap.objs.size m:=by
 have I2:Inv X pins σ H' s₂:=I.call' (ch:=fp) J.os J.base J.hok J.bare fun b hb => ⟨(hf b hb).1.2.2.2.1,(hf b hb).1.2.1,(hf b hb).1.2.2.2.2.1,(hf b hb).1.2.2.2.2.2⟩
 obtain ⟨m,hn,_⟩:=J.loc
 exact ⟨I2,⟨J.free,(I.fpOk (H':=H') (Nat.le_refl _) J.free).2⟩,m,hn⟩
end
noncomputable def PIfs (X:Cx) (ifs:List Expr) (t:TT):Prop:=∀ (pins:List (Addr×Obj)) (s:Shared) (σ:St) (H:Hp) (Q:Bool→Hp→Prop),Inv X pins σ H s→t σ H Q →
 wpAny (model X.prog X.w) X.A (forIn ifs true fun c r => if r = true then do let ok ← isTrue c X.env (eval c X.env); pure (ForInStep.yield ok) else pure (ForInStep.yield r)) (TP X pins σ Q) X.xe s
theorem pifs_nil {X:Cx}:PIfs X [] (fun _ H Q => Q true H):=fun _ _ _ H _ I h => wpAny_tests_nil ⟨H,I,h⟩
theorem pifs_one {X:Cx} {c:Expr} {t:TT} (h:PT X c t):PIfs X [c] t:=fun pins s σ H Q I hw => wpAny_tests_one (h pins s σ H Q I hw)
noncomputable def tComp (wi:TI) (g:TG) (tc:TT) (te:TE) (own:List Str) (fv:FV):TE:=fun σ H Q => wi σ H fun J H1 => ∀ p,H1 p = none→∃ W:Nat→Nat→Hp→Prop,(∃ m,W 0 m (upd H1 p (.lst [])))∧∀ i m H2,W i m H2 →
 (J.stop i H2∧Q (.ref p) H2)∨(J.go i H2∧∀ x H3,J.yld i H2 x H3→g x (blk own fv σ) H3 fun σ2 H4 => tc σ2 H4 fun b H5 => if b = true then te σ2 H5 fun v H6 => ∃ acc,H6 p = some (.lst acc)∧acc.length < sizeLine ∧
  ∃ m',m' < m∧W (i + 1) m' (upd H6 p (.lst (acc++[v]))) else ∃ m',m' < m∧W (i + 1) m' H5)
theorem comp_core {X:Cx} {pins:List (Addr×Obj)} {σ:St} {H:Hp} {s:Shared} {elt target iter:Expr} {ifs:List Expr} {scope:Scope} {pos fpos:Pos} {N' own:List Str} {fv:FV} {wi:TI} {g:TG} {tc:TT} {te:TE} {R:VK} {use:Option (Value→Sem Unit)} {Q':Value→Shared→Prop}
  (c:CompOk X.env.scope X.N scope N' own fv) (hcalm:X.calm = true) (hi:PI X target iter wi)
  (hgk:∀ x σ H Q,g x σ H Q→g x σ H fun σ' H' => (σ'.length = σ.length∧∀ i,own.length≤i→σ'[i]? = σ[i]?)∧Q σ' H')
  (hb:∀ cl s₁ H₁ fp,PG (cxC X N' scope cl s₁ H₁ fp pins) target g∧PIfs (cxC X N' scope cl s₁ H₁ fp pins) ifs tc∧PE (cxC X N' scope cl s₁ H₁ fp pins) elt te)
  (hs:∀ x,foldedSetIterable iter X.env x = pure x) (I:Inv X pins σ H s) (h:tComp wi g tc te own fv σ H R)
  (fin:∀ (p C:Addr) (H':Hp) (s':Shared) (m:Str→Option Value),Inv X pins σ H' s'→FpOk X pins H' C→s'.heap.Ns C m→R (.ref p) H'→compPost (model X.prog X.w) X.A X.xe use Q' (.ref p) C (.ok .next) s') :
  wpAny (model X.prog X.w) X.A (comprehension (.ListComp elt [⟨target,iter,ifs,0⟩] scope pos) scope X.env fpos (newList []) false (eval iter X.env) use) Q' X.xe s:=by
 obtain ⟨cl,hclos,h1,h2⟩:=closure_ok (scope:=scope) (env:=X.env) fun y hy => I.ok.has y (.inl (c.fre y hy))
 refine wpAny_comprehension_free (use:=use) rfl hs hclos c.kind c.loc (wpAny_mono (hi pins s σ H _ I h) (fun v s1 h1' => wpAny_mono h1' (fun itv s2 h2' => ?_) fun _ _ e => e) fun _ _ e => e)
 obtain ⟨it,fp,tn,J,H2,rfl,I2,T,st2,f2,q2⟩:=h2'
 refine wpAny_newObj_type ?_
 have I3:Inv X pins σ (upd H2 s2.heap.objs.size (.lst [])) { s2 with heap:=s2.heap.push { cls:=.type "list",data:=.seq ([]:List Value).toArray } }:=I2.lnew (t':=s2.toks) (ys:=[]) (its:=[]) .nil (Nat.zero_le _)
 have np:H2 s2.heap.objs.size = none:=I2.fresh
 generalize hs3:({ s2 with heap:=s2.heap.push { cls:=.type "list",data:=.seq ([]:List Value).toArray } }:Shared) = s3 at I3
 have e3:s3.heap = s2.heap.push { cls:=.type "list",data:=.seq ([]:List Value).toArray }:=by rw [← hs3]
 have old3:∀ b o,s2.heap.get? b = some o→s3.heap.get? b = some o:=fun b o e => by rw [e3]; exact Heap.get?_push_of_some _ e
 have f3:∀ b∈fp,FpOk X pins (upd H2 s2.heap.objs.size (.lst [])) b∧b < s3.heap.objs.size:=fun b hb => by
  obtain ⟨o,ho,_⟩:=T.obj 0 _ st2 b hb
  have hlt:=Heap.lt_size ho
  refine ⟨⟨?_,(f2 b hb).2⟩,Heap.lt_size (old3 b o ho)⟩
  rw [upd_ne (Nat.ne_of_lt hlt)]
  exact (f2 b hb).1
 have st3:tn 0 s3.heap:=T.keep 0 _ _ st2 fun b hb o e => old3 b o e
 refine wpAny_newFunctionEnv c.nocell (by intro y hy; simp at hy) (fun h' hns hsb => ?_) c.kind
 have kp:∀ b o,s3.heap.get? b = some o→h'.get? b = some o:=fun b o e => (hsb.2 b (Nat.ne_of_lt (Heap.lt_size e))).trans (Heap.get?_push_of_some _ e)
 have J0:Inv (cxC X N' scope cl s3 (upd H2 s2.heap.objs.size (.lst [])) fp pins) [] (blk own fv σ) (upd H2 s2.heap.objs.size (.lst [])) { s3 with heap:=h',toks:=s3.toks + ([]:List (Str×Value)).length }:=inv_block I3 c h1 h2 f3 hns kp
 have st4:tn 0 h':=T.keep 0 _ _ st3 fun b hb o e => kp b o e
 obtain ⟨W,⟨m0,w0⟩,turn⟩:=q2 s2.heap.objs.size np
 obtain ⟨hg,hifs,helt⟩:=hb cl s3 (upd H2 s2.heap.objs.size (.lst [])) fp
 have noP:∀ b∈fp,b≠s3.heap.objs.size:=fun b hb => Nat.ne_of_lt (f3 b hb).2
 have stat:∀ {H':Hp},(∀ b∈fp,H' b = none)→∀ b∈fp,FpOk (cxC X N' scope cl s3 (upd H2 s2.heap.objs.size (.lst [])) fp pins) [] H' b:=fun hn b hb => by
  obtain ⟨⟨_,g1,g2,g3,g4,g5⟩,g6⟩:=f3 b hb
  refine ⟨hn b hb,Nat.ne_of_lt g6,fun hm => ?_,.inl hb,fun x a e => g4 x a (h1 x a e),fun p hp => g5 p (by simpa [cxC] using hp)⟩
  rcases List.mem_cons.mp (I3.stkSub b hm) with z | z
  ·exact g1 z
  ·exact g2 z
 have loop:codeAny (model X.prog X.w) X.A (.compLoop (.ListComp elt [⟨target,iter,ifs,0⟩] scope pos) 0 (.ref it) (.ref s2.heap.objs.size) (compEnvC scope cl s3.heap.objs.size X.env))
   (compPost (model X.prog X.w) X.A X.xe use Q' (.ref s2.heap.objs.size) s3.heap.objs.size) { s3 with heap:=h',toks:=s3.toks + ([]:List (Str×Value)).length }:=by
  refine comp_loop (fun n s' => ∃ i H' σ',Inv (cxC X N' scope cl s3 (upd H2 s2.heap.objs.size (.lst [])) fp pins) [] (blk own fv σ) H' s'∧σ' = blk own fv σ∧tn i s'.heap∧(∀ b∈fp,H' b = none)∧W i n H') ?_ m0 ⟨0,_,_,J0,rfl,st4,fun b hb => (f3 b hb).1.1,w0⟩
  rintro n s5 ⟨i,H5,_,J5,rfl,st5,fr5,w5⟩
  rcases turn i n H5 w5 with ⟨stop,qn⟩ | ⟨go,step⟩
  ·refine thn (T.done (cxC X N' scope cl s3 (upd H2 s2.heap.objs.size (.lst [])) fp pins) rfl rfl rfl hcalm i [] s5 _ H5 _ J5 (stat fr5) st5 stop) fun r s6 hr => ?_
   obtain ⟨rfl,J6⟩:=hr
   obtain ⟨I6,f6,m6,n6⟩:=inv_left I3 f3 J6
   exact fin _ _ H5 s6 m6 I6 f6 n6 qn
  ·refine thn (T.item (cxC X N' scope cl s3 (upd H2 s2.heap.objs.size (.lst [])) fp pins) rfl rfl rfl hcalm i [] s5 _ H5 _ J5 (stat fr5) st5 go) fun r s6 hr => ?_
   obtain ⟨u,rfl,h6⟩:=hr
   refine thn h6 fun _ s7 h7 => ?_
   obtain ⟨x,H7,J7,r7,y7,st7,fr7⟩:=h7
   have J7':=J7.pinned (stat fr7) (T.obj _ _ st7)
   refine thn (hg _ s7 _ H7 x u _ J7' r7 (hgk _ _ _ _ (step x H7 y7))) fun _ s8 h8 => ?_
   obtain ⟨σ8,H8,J8,⟨l8,k8⟩,q8⟩:=h8
   refine thn (hifs _ s8 σ8 H8 _ J8 q8) fun ok s9 h9 => ?_
   obtain ⟨H9,J9,q9⟩:=h9
   have weak:∀ {H':Hp} {s':Shared},Inv (cxC X N' scope cl s3 (upd H2 s2.heap.objs.size (.lst [])) fp pins) ([]++pinsAt fp s7.heap) σ8 H' s' →
     Inv (cxC X N' scope cl s3 (upd H2 s2.heap.objs.size (.lst [])) fp pins) [] (blk own fv σ) H' s'∧tn (i + 1) s'.heap∧∀ b∈fp,H' b = none:=fun {H' s'} J' => by
    refine ⟨J'.unpinned.weak l8.symm fun j v e => ?_,T.keep _ _ _ st7 fun b hb o e => (J'.pin (b,o) (List.mem_append_right _ (List.mem_append_right _ (mem_pinsAt hb e)))).1,fun b hb => ?_⟩
    ·have hj:own.length≤j:=Nat.le_of_not_lt fun hj => by
      unfold blk at e
      rw [List.getElem?_append_left (by simpa using hj),List.getElem?_map] at e
      cases z:own[j]? with
      | none => rw [z] at e; cases e
      | some y => rw [z] at e; cases e
     rw [k8 j hj]; exact e
    ·obtain ⟨o,e,d⟩:=T.obj _ _ st7 b hb
     exact (J'.pin (b,o) (List.mem_append_right _ (List.mem_append_right _ (mem_pinsAt hb e)))).2.1
   cases ok with
   | false =>
    rw [if_neg Bool.false_ne_true] at q9 ⊢
    obtain ⟨m',hm,w9⟩:=q9
    obtain ⟨g1,g2,g3⟩:=weak J9
    exact ⟨m',hm,i + 1,H9,_,g1,rfl,g2,g3,w9⟩
   | true =>
    rw [if_pos rfl] at q9 ⊢
    refine thn (helt _ s9 σ8 H9 _ J9 q9) fun xv s10 h10 => ?_
    obtain ⟨v,H10,J10,r10,acc,ea,hl,m',hm,w10⟩:=h10
    refine thn (mt_append _ s10 σ8 H10 (.ref s2.heap.objs.size) [v] (.ref s2.heap.objs.size) [xv] (fun z H' => z = .non∧H' = upd H10 s2.heap.objs.size (.lst (acc++[v]))) J10 rfl (.cons r10 .nil) ⟨_,acc,v,rfl,rfl,ea,hl,rfl,rfl⟩) fun _ s11 h11 => ?_
    obtain ⟨z,H11,J11,_,_,rfl⟩:=h11
    obtain ⟨g1,g2,g3⟩:=weak J11
    exact ⟨m',hm,i + 1,_,_,g1,rfl,g2,g3,w10⟩
 exact codeAny_compStart_list loop (T.self X.A 0 _ _ _ st4 loop)
theorem pe_comp {X:Cx} {elt target iter:Expr} {ifs:List Expr} {scope:Scope} {pos:Pos} {N' own:List Str} {fv:FV} {wi:TI} {g:TG} {tc:TT} {te:TE}
  (c:CompOk X.env.scope X.N scope N' own fv) (hcalm:X.calm = true) (hi:PI X target iter wi)
  (hgk:∀ x σ H Q,g x σ H Q→g x σ H fun σ' H' => (σ'.length = σ.length∧∀ i,own.length≤i→σ'[i]? = σ[i]?)∧Q σ' H')
  (hb:∀ pins cl s₁ H₁ fp,PG (cxC X N' scope cl s₁ H₁ fp pins) target g∧PIfs (cxC X N' scope cl s₁ H₁ fp pins) ifs tc∧PE (cxC X N' scope cl s₁ H₁ fp pins) elt te)
  (hs:∀ x,foldedSetIterable iter X.env x = pure x:=by intro _; rfl):PE X (.ListComp elt [⟨target,iter,ifs,0⟩] scope pos) (tComp wi g tc te own fv):=by
 intro pins s σ H Q I h
 rw [eval_ListComp]
 refine comp_core (use:=none) (R:=Q) c hcalm hi hgk (hb pins) hs I h fun p C H' s' m J f n q => ?_
 refine ⟨m,n,fun h' hs' => ⟨.ref p,H',J.turned (t':=s'.toks) (it:=C) (fun b o hb e => (hs'.2 b hb).trans e) f.1 f.2.1 f.2.2.2.1 f.2.2.2.2.1 f.2.2.2.2.2,rfl,q⟩⟩
theorem ps_setcomp {X:Cx} {elt target iter:Expr} {ifs:List Expr} {scope:Scope} {pos spos py:Pos} {y:Str} {j:Nat} {N' own:List Str} {fv:FV} {wi:TI} {g:TG} {tc:TT} {te:TE}
  (hN:X.N.Nodup) (hj:X.N[j]? = some y) (hy:Loc X.env.scope y) (hsw:swapsWith (.ListComp elt [⟨target,iter,ifs,0⟩] scope pos) (some (.Name y py)) spos.line X.env = pure true)
  (c:CompOk X.env.scope X.N scope N' own fv) (hcalm:X.calm = true) (hi:PI X target iter wi)
  (hgk:∀ x σ H Q,g x σ H Q→g x σ H fun σ' H' => (σ'.length = σ.length∧∀ i,own.length≤i→σ'[i]? = σ[i]?)∧Q σ' H')
  (hb:∀ pins cl s₁ H₁ fp,PG (cxC X N' scope cl s₁ H₁ fp pins) target g∧PIfs (cxC X N' scope cl s₁ H₁ fp pins) ifs tc∧PE (cxC X N' scope cl s₁ H₁ fp pins) elt te)
  (hs:∀ x,foldedSetIterable iter X.env x = pure x:=by intro _; rfl) (hf:X.fn y = true∨X.env.scope.names.lookup y = some .local:=by first | exact .inl rfl | exact .inr rfl | assumption) :
  PS X (.Assign [.Name y py] (.ListComp elt [⟨target,iter,ifs,0⟩] scope pos) spos) (tAsg (tComp wi g tc te own fv) (gName j)):=by
 intro pins s σ H Dd I h
 rw [exec_Assign_Name_used _ _ _ _ hsw]
 refine wpAny_bind (wpAny_standAt (wpAny_bind ?_))
 show wpAny _ X.A (do let _ ← comprehension (.ListComp elt [⟨target,iter,ifs,0⟩] scope pos) scope X.env _ (newList []) false (eval iter X.env) (some (assign (.Name y py) X.env))) _ _ s
 refine wpAny_bind (wpAny_mono (comp_core (use:=some (assign (.Name y py) X.env)) (Q':=fun _ s' => SP X pins Dd .next s') c hcalm hi hgk (hb pins) hs I h fun p C H' s' m J f n q => ?_) (fun _ s' hq => wpAny_pure (wpAny_pure hq)) fun _ _ e => e)
 show wpAny _ X.A (assign (.Name y py) X.env (.ref p)) _ _ s'
 refine wpAny_assign_Name (store_ok2 J hN hj hy (v:=.ref p) rfl (fun s'' J' hs'' => ?_) hf)
 obtain ⟨a,sb,ha⟩:=hs''
 have hC:C≠a:=by
  rcases ha with z | z
  ·rw [z]; exact f.2.1
  ·exact fun w => f.2.2.2.2.1 _ _ z w.symm
 refine ⟨m,n.sameBut sb hC,fun h' hs' => ⟨_,H',J'.turned (t':=s''.toks) (it:=C) (fun b o hb e => (hs'.2 b hb).trans e) f.1 f.2.1 f.2.2.2.1 f.2.2.2.2.1 f.2.2.2.2.2,q⟩⟩
theorem small10000 {n:Nat} (h:n≤10000):n < sizeLine:=by rw [show sizeLine = 16777216 by decide]; omega
noncomputable def cp3 (wi:TI3) (g:TG3) (tc:TT3) (te:TE3) (own:List Str) (fv:FV):TE3:=fun σ H Q => wi σ H fun ds keep H1 => (∀ H2:Hp3,Sub3 H1 H2→keep H2)∧ds.length≤10000∧∃ rs:List (Option D),rs.length = ds.length ∧
 (∀ (i:Nat) (d:D),ds[i]? = some d→∀ H2:Hp3,Sub3 H1 H2→g d (own.map (fun _ => none)++fv.map fun p => (σ[p.1]?).join) H2 fun σ2 H4 => tc σ2 H4 fun b H5 =>
  if b = true then te σ2 H5 fun v H6 => Sub3 H2 H6∧rs[i]? = some (some v) else Sub3 H2 H5∧rs[i]? = some none) ∧
 ∀ p,H1 p = none→Q (.ref p) (upd3 H1 p (.lst (rs.filterMap id)))
theorem sr_blk {K:PySem.W.Frag} {H:Hp} {σ3:St3} {σ:St} {own:List Str} {fv:FV} (s:SR K H σ3 σ):SR K H (own.map (fun _ => none)++fv.map fun p => (σ3[p.1]?).join) (blk own fv σ):=by
 refine ⟨by simp [blk],fun i d h => ?_⟩
 have hi:¬ i < own.length:=fun hi => by
  rw [List.getElem?_append_left (by simpa using hi),List.getElem?_map] at h
  cases z:own[i]? with
  | none => rw [z] at h; cases h
  | some y => rw [z] at h; cases h
 rw [List.getElem?_append_right (by simpa using hi),List.length_map,List.getElem?_map] at h
 unfold blk
 rw [List.getElem?_append_right (by simpa using hi),List.length_map,List.getElem?_map]
 cases z:fv[i - own.length]? with
 | none => rw [z] at h; cases h
 | some p =>
  rw [z] at h
  have h':(σ3[p.1]?).join = some d:=Option.some.inj h
  have e:σ3[p.1]? = some (some d):=by
   cases q:σ3[p.1]? with
   | none => rw [q] at h'; cases h'
   | some o => rw [q] at h'; rw [show o = some d from h']
  obtain ⟨v,hv,rv⟩:=s.get _ _ e
  exact ⟨v,by show some (σ[p.1]?).join = some (some v); rw [hv]; rfl,rv⟩
theorem filterMap_take_succ {rs:List (Option D)} {i:Nat} {o:Option D} (h:rs[i]? = some o):(rs.take (i + 1)).filterMap id = (rs.take i).filterMap id++o.toList:=by
 rw [List.take_add_one,h,List.filterMap_append]
 cases o <;> rfl
theorem lift_comp {K:PySem.W.Frag} {wi:TI3} {g:TG3} {g2:TG} {tc:TT3} {te:TE3} {own:List Str} {fv:FV} {σ:St} {H:Hp} {Q:VK} (hgr:∀ v σ H Q,liftG K g v σ H Q→g2 v σ H Q) (h:liftE K (cp3 wi g tc te own fv) σ H Q):tComp (liftI K wi) g2 (liftT K tc) (liftE K te) own fv σ H Q:=by
 obtain ⟨σ3,H3,Q3,sr,hr,t,k⟩:=h
 refine ⟨σ3,H3,_,sr,hr,t,fun ds keep J H3' H' tk' hr' ok q p np => ?_⟩
 obtain ⟨hkeep,hlen,rs,hrl,hel,hfin⟩:=q
 have np3:H3' p = none:=hr'.fresh np
 have hrs:∀ i,((rs.take i).filterMap id).length≤i:=fun i => Nat.le_trans (List.length_filterMap_le _ _) (by rw [List.length_take]; grind)
 refine ⟨fun i m H2 => m = ds.length - i∧i≤ds.length∧TK H' H2∧HR K (upd3 H3' p (.lst ((rs.take i).filterMap id))) H2,⟨ds.length,by simp,Nat.zero_le _,TK.fresh np,hr'.setL (TK.fresh np) (.nil)⟩,?_⟩
 rintro i m H2 ⟨rfl,hi,tk2,hr2⟩
 have sub2:Sub3 H3' (upd3 H3' p (.lst ((rs.take i).filterMap id))):=Sub3.fresh np3
 obtain ⟨go,stop⟩:=ok _ H2 tk2 hr2 (hkeep _ sub2)
 by_cases hlt:i < ds.length
 ·obtain ⟨g1,g2⟩:=go i hlt
  refine .inr ⟨g1,fun x H2' y => ?_⟩
  obtain ⟨tky,hry,d,ed,rd⟩:=g2 x H2' y
  replace tk2:=tk2.trans tky
  refine hgr _ _ _ _ ⟨d,_,_,_,rd,(sr_blk sr).mono (tk'.trans tk2),hry,hel i d ed _ sub2,fun σ3a σa H3a Ha tka sra hra qa => ⟨σ3a,H3a,_,sra,hra,qa,fun b H3b Hb tkb hrb qb => ?_⟩⟩
  cases b with
  | true =>
   rw [if_pos rfl] at qb ⊢
   refine ⟨σ3a,H3b,_,sra.mono tkb,hrb,qb,fun v u H3c Hc tkc hrc rv qc => ?_⟩
   obtain ⟨sub,ers⟩:=qc
   obtain ⟨acc,gacc,racc⟩:=hrc p _ (sub p _ upd3_same)
   refine ⟨acc,gacc,?_,ds.length - (i + 1),by grind,rfl,hlt,((tk2.trans tka).trans (tkb.trans tkc)).trans (TK.lst gacc),?_⟩
   ·rw [← racc.length]
    exact small10000 (Nat.le_trans (hrs i) (Nat.le_trans hi hlen))
   ·rw [filterMap_take_succ ers,← upd3_upd3]
    exact (hrc.sub sub).setL (TK.lst gacc) ((racc.snoc rv).mono (TK.lst gacc))
  | false =>
   rw [if_neg Bool.false_ne_true] at qb ⊢
   obtain ⟨sub,ers⟩:=qb
   refine ⟨ds.length - (i + 1),by grind,rfl,hlt,(tk2.trans tka).trans tkb,?_⟩
   rw [filterMap_take_succ ers]
   simp only [Option.toList,List.append_nil]
   exact hrb.sub sub
 ·have e:i = ds.length:=by grind
  subst e
  refine .inl ⟨stop,k _ _ _ _ (tk'.trans tk2) hr2 (.ref p) ?_⟩
  rw [List.take_of_length_le (by rw [hrl]; exact Nat.le_refl _)]
  exact hfin p np3
noncomputable def yes3:TT3:=fun _ H Q => Q true H
noncomputable def PIfs3 (X:Cx) (ifs:List Expr) (t:TT3):Prop:=PIfs X ifs (liftT X.K t)
theorem ifs3_nil {X:Cx}:PIfs3 X [] yes3:=fun pins s σ H Q I h => by
 obtain ⟨σ3,H3,Q3,sr,hr,t,k⟩:=h
 exact pifs_nil pins s σ H Q I (k _ _ _ TK.refl hr t)
theorem ifs3_one {X:Cx} {c:Expr} {t:TT3} (h:PT3 X c t):PIfs3 X [c] t:=pifs_one h
theorem gr_name {K:PySem.W.Frag} {i:Nat}:∀ v σ H Q,liftG K (gn3 i) v σ H Q→gName i v σ H Q:=fun _ _ _ _ ⟨_,_,_,_,rd,sr,hr,t,k⟩ => k _ _ _ _ TK.refl (sr.set i rd) hr t
theorem gk_name {n i:Nat} (hi:i < n):∀ x σ H Q,gName i x σ H Q→gName i x σ H fun σ' H' => (σ'.length = σ.length∧∀ j,n≤j→σ'[j]? = σ[j]?)∧Q σ' H':=fun x σ H Q h =>
 ⟨⟨by simp,fun j hj => List.getElem?_set_ne (by grind)⟩,h⟩
section
variable {X:Cx} {elt iter:Expr} {ifs:List Expr} {scope:Scope} {pos px py pt spos:Pos} {x x' y:Str} {fv:FV} {wi:TI3} {tc:TT3} {te:TE3} {kk:Nat}
theorem p3_comp (c:CompOk X.env.scope X.N scope (x::fv.map (·.2)) [x] fv) (hcalm:X.calm = true) (hi:PI3 X (.Name x px) iter wi)
  (hifs:∀ pins cl s₁ H₁ fp,PIfs3 (cxC X (x::fv.map (·.2)) scope cl s₁ H₁ fp pins) ifs tc) (helt:∀ pins cl s₁ H₁ fp,PE3 (cxC X (x::fv.map (·.2)) scope cl s₁ H₁ fp pins) elt te)
  (hx:(relabel scope X.env).names.lookup x = some .local:=by rfl) (hs:∀ x,foldedSetIterable iter X.env x = pure x:=by intro _; rfl):PE3 X (.ListComp elt [⟨.Name x px,iter,ifs,0⟩] scope pos) (cp3 wi (gn3 0) tc te [x] fv) :=
 pe_imp (pe_comp (g:=gName 0) (tc:=liftT X.K tc) (te:=liftE X.K te) c hcalm hi (gk_name (Nat.zero_lt_one)) (fun pins cl s₁ H₁ fp => ⟨pg_name c.nd rfl (.inl hx) (.inr hx),hifs pins cl s₁ H₁ fp,helt pins cl s₁ H₁ fp⟩) hs) fun _ _ _ h => lift_comp gr_name h
theorem s3_setcomp (j:Nat) (hN:X.N.Nodup) (c:CompOk X.env.scope X.N scope (x::fv.map (·.2)) [x] fv) (hcalm:X.calm = true) (hi:PI3 X (.Name x px) iter wi)
  (hifs:∀ pins cl s₁ H₁ fp,PIfs3 (cxC X (x::fv.map (·.2)) scope cl s₁ H₁ fp pins) ifs tc) (helt:∀ pins cl s₁ H₁ fp,PE3 (cxC X (x::fv.map (·.2)) scope cl s₁ H₁ fp pins) elt te)
  (hj:X.N[j]? = some y:=by rfl) (hy:Loc X.env.scope y:=by first | exact Or.inl rfl | exact Or.inr rfl) (hsw:swapsWith (.ListComp elt [⟨.Name x px,iter,ifs,0⟩] scope pos) (some (.Name y py)) spos.line X.env = pure true:=by rfl)
  (hx:(relabel scope X.env).names.lookup x = some .local:=by rfl) (hs:∀ x,foldedSetIterable iter X.env x = pure x:=by intro _; rfl) (hf:X.fn y = true∨X.env.scope.names.lookup y = some .local:=by first | exact .inl rfl | exact .inr rfl | assumption) :
  PS3 X (.Assign [.Name y py] (.ListComp elt [⟨.Name x px,iter,ifs,0⟩] scope pos) spos) (st3 j (cp3 wi (gn3 0) tc te [x] fv)) :=
 ps_imp (ps_setcomp (g:=gName 0) (tc:=liftT X.K tc) (te:=liftE X.K te) hN hj hy hsw c hcalm hi (gk_name (Nat.zero_lt_one)) (fun pins cl s₁ H₁ fp => ⟨pg_name c.nd rfl (.inl hx) (.inr hx),hifs pins cl s₁ H₁ fp,helt pins cl s₁ H₁ fp⟩) hs hf)
  fun _ _ _ zz => zz.ex fun σ3 H3 D3 sr hr t k => lift_comp gr_name ⟨σ3,H3,_,sr,hr,t,fun x v H3a Ha tka hra rx qa => k.nx _ _ _ _ tka ((sr.mono tka).set j rx) hra qa⟩
end
end L3
namespace L3
open PySem L2
noncomputable def i3sub:R3:=rI30 fun i j => .int (i - j)
noncomputable def i3mul:R3:=rI3 CMul fun i j => .int (i * j)
noncomputable def i3div:R3:=rI3 CDiv fun i j => .int (i / j)
noncomputable def i3mod:R3:=rI3 (fun _ j => 0 < j) fun i j => .int (i % j)
noncomputable def i3gt:R3:=rI30 fun i j => .bl (decide (j < i))
theorem intsOf_map:∀ ns:List Int,intsOf (ns.map D.int) = some ns
 | [] => rfl
 | n::ns => by simp only [List.map_cons,intsOf,intsOf_map ns,Option.map_some]
noncomputable def minL:List Int→Int
 | [] => 0
 | [x] => x
 | x::y::r => min x (minL (y::r))
noncomputable def maxL:List Int→Int
 | [] => 0
 | [x] => x
 | x::y::r => max x (maxL (y::r))
theorem minL_le':∀ {ns:List Int} {a:Int},a∈ns→minL ns≤a
 | [x],a,h => by simp at h; subst h; exact Int.le_refl _
 | x::y::r,a,h => by
  rcases List.mem_cons.mp h with rfl | h
  ·exact Int.min_le_left _ _
  ·exact Int.le_trans (Int.min_le_right _ _) (minL_le' (ns:=y::r) h)
theorem minL_mem':∀ {ns:List Int},ns≠[]→minL ns∈ns
 | [x],_ => List.mem_cons_self
 | x::y::r,_ => by
  have ih:=minL_mem' (ns:=y::r) (by simp)
  have e:minL (x::y::r) = min x (minL (y::r)):=rfl
  rw [e]
  rcases Int.le_total x (minL (y::r)) with h | h
  ·rw [Int.min_eq_left h]; exact List.mem_cons_self
  ·rw [Int.min_eq_right h]; exact List.mem_cons_of_mem _ ih
theorem maxL_ge':∀ {ns:List Int} {a:Int},a∈ns→a≤maxL ns
 | [x],a,h => by simp at h; subst h; exact Int.le_refl _
 | x::y::r,a,h => by
  rcases List.mem_cons.mp h with rfl | h
  ·exact Int.le_max_left _ _
  ·exact Int.le_trans (maxL_ge' (ns:=y::r) h) (Int.le_max_right _ _)
theorem maxL_mem':∀ {ns:List Int},ns≠[]→maxL ns∈ns
 | [x],_ => List.mem_cons_self
 | x::y::r,_ => by
  have ih:=maxL_mem' (ns:=y::r) (by simp)
  have e:maxL (x::y::r) = max x (maxL (y::r)):=rfl
  rw [e]
  rcases Int.le_total x (maxL (y::r)) with h | h
  ·rw [Int.max_eq_right h]; exact List.mem_cons_of_mem _ ih
  ·rw [Int.max_eq_left h]; exact List.mem_cons_self
noncomputable def r3mm (f:List Int→Int):List D→Hp3→VK3→Prop:=fun ds H Q => match ds with
 | [.ref a] => (match H a with
  | some (.lst xs) => (match intsOf xs with
   | some ns => ns≠[]∧Q (.int (f ns)) H
   | none => False)
  | _ => False)
 | _ => False
noncomputable abbrev r3min:List D→Hp3→VK3→Prop:=r3mm minL
noncomputable abbrev r3max:List D→Hp3→VK3→Prop:=r3mm maxL
noncomputable def r3ins:D→List D→Hp3→VK3→Prop:=fun x xs H Q => match x,xs with
 | .ref a,[.int i,y] => (match H a with
  | some (.lst ds) => ((0≤i∧i≤ds.length)∧ds.length < 1000)∧Q .non (upd3 H a (.lst (ds.take i.toNat++y::ds.drop i.toNat)))
  | _ => False)
 | _,_ => False
noncomputable def pr (x y:Int):D:=.tup [.int x,.int y]
noncomputable abbrev Pt:=Int×Int
noncomputable def prP (p:Pt):D:=.tup [.int p.1,.int p.2]
noncomputable def ptsOf:List D→Option (List Pt)
 | [] => some []
 | .tup [.int x,.int y]::ds => (ptsOf ds).map ((x,y)::·)
 | _::_ => none
theorem ptsOf_map:∀ ps:List Pt,ptsOf (ps.map prP) = some ps
 | [] => rfl
 | p::ps => by simp only [List.map_cons,prP,ptsOf]; rw [ptsOf_map ps]; rfl
theorem ptsOf_inv:∀ {ds:List D} {ps:List Pt},ptsOf ds = some ps→ds = ps.map prP:=by
 intro ds
 induction ds with
 | nil => intro ps h; simp only [ptsOf,Option.some.injEq] at h; subst h; rfl
 | cons d ds ih =>
  intro ps h
  unfold ptsOf at h
  split at h
  ·rename_i a; cases a
  ·rename_i x y r heq
   cases heq
   simp only [Option.map_eq_some_iff] at h
   obtain ⟨qs,h1,h2⟩:=h
   subst h2
   rw [ih h1]; rfl
  ·cases h
noncomputable def ltc (c r:Pt):Bool:=HT.lexLt [r.2,r.1] [c.2,c.1]
noncomputable def insP (row:List Pt) (c:Pt):List Pt:=row.takeWhile (ltc c)++c::row.dropWhile (ltc c)
noncomputable def isort (ps:List Pt):List Pt:=ps.foldl insP []
theorem ltc_iff (c r:Pt):ltc c r = true↔r.2 < c.2∨(r.2 = c.2∧r.1 < c.1):=by
 unfold ltc HT.lexLt
 by_cases h:r.2 = c.2
 ·rw [if_pos h]
  unfold HT.lexLt
  by_cases h2:r.1 = c.1
  ·rw [if_pos h2]; unfold HT.lexLt; simp [h,h2]
  ·rw [if_neg h2]; simp [h]
 ·rw [if_neg h]
  simp [h]
theorem ltc_false (c r:Pt):ltc c r = false↔c.2 < r.2∨(c.2 = r.2∧c.1≤r.1):=by
 rw [← Bool.not_eq_true,ltc_iff]
 omega
theorem take_while_eq {p:Pt→Bool}:∀ {row:List Pt} {k:Nat},k≤row.length→(∀ r∈row.take k,p r = true)→(∀ h:k < row.length,p (row[k]'h) = false)→row.takeWhile p = row.take k∧row.dropWhile p = row.drop k
 | [],k,_,_,_ => by simp
 | r::row,0,_,_,h => by
  have:=h (by simp)
  simp at this
  simp [List.takeWhile_cons,List.dropWhile_cons,this]
 | r::row,k + 1,hk,h1,h2 => by
  have hr:p r = true:=h1 r (by simp)
  have ih:=take_while_eq (p:=p) (row:=row) (k:=k) (by simpa using hk) (fun x hx => h1 x (by simp [hx])) (fun h => by have:=h2 (by simpa using h); simpa using this)
  simp [List.takeWhile_cons,List.dropWhile_cons,hr,ih.1,ih.2]
theorem insP_perm (row:List Pt) (c:Pt):(insP row c).Perm (c::row):=by
 unfold insP
 have e:=List.takeWhile_append_dropWhile (p:=ltc c) (l:=row)
 have h:(row.takeWhile (ltc c)++c::row.dropWhile (ltc c)).Perm (c::(row.takeWhile (ltc c)++row.dropWhile (ltc c))):=List.perm_middle
 rw [e] at h
 exact h
theorem foldl_ins_perm:∀ (ps row:List Pt),(ps.foldl insP row).Perm (row++ps)
 | [],row => by simp
 | p::ps,row => by
  rw [List.foldl_cons]
  refine (foldl_ins_perm ps _).trans ?_
  refine ((insP_perm row p).append_right ps).trans ?_
  rw [List.cons_append]
  exact List.perm_middle.symm
theorem isort_perm (ps:List Pt):(isort ps).Perm ps:=by
 have:=foldl_ins_perm ps []
 simpa [isort] using this
theorem isort_len (ps:List Pt):(isort ps).length = ps.length:=(isort_perm ps).length_eq
theorem isort_take {ps:List Pt} {i:Nat} {c:Pt} (h:ps[i]? = some c):isort (ps.take (i + 1)) = insP (isort (ps.take i)) c:=by
 unfold isort
 rw [List.take_add_one,h,List.foldl_append]
 rfl
noncomputable def leP (a b:Pt):Prop:=ltc a b = false
theorem leP_trans {a b c:Pt} (h1:leP a b) (h2:leP b c):leP a c:=by
 unfold leP at *
 rw [ltc_false] at *
 grind
theorem leP_of_ltc {c r:Pt} (h:ltc c r = true):leP r c:=by
 unfold leP
 rw [ltc_iff] at h
 rw [ltc_false]
 grind
theorem leP_antisymm {a b:Pt} (h1:leP a b) (h2:leP b a):a = b:=by
 unfold leP at *
 rw [ltc_false] at *
 exact Prod.ext (by grind) (by grind)
theorem insP_sorted {row:List Pt} {c:Pt} (h:row.Pairwise leP):(insP row c).Pairwise leP:=by
 unfold insP
 have e:=List.takeWhile_append_dropWhile (p:=ltc c) (l:=row)
 have ht:∀ r∈row.takeWhile (ltc c),ltc c r = true:=fun r hr => by
  have:=List.all_takeWhile (p:=ltc c) (l:=row)
  rw [List.all_eq_true] at this
  exact this r hr
 have hd:∀ r∈row.dropWhile (ltc c),leP c r:=by
  have hs:(row.dropWhile (ltc c)).Pairwise leP:=by rw [← e] at h; exact (List.pairwise_append.mp h).2.1
  cases hq:row.dropWhile (ltc c) with
  | nil => intro r hr; cases hr
  | cons x xs =>
   have hx:ltc c x = false:=by
    have:=List.head?_dropWhile_not (ltc c) row
    rw [hq] at this
    simpa using this
   rw [hq] at hs
   intro r hr
   rcases List.mem_cons.mp hr with rfl | hr
   ·exact hx
   ·exact leP_trans hx ((List.pairwise_cons.mp hs).1 r hr)
 rw [← e] at h
 obtain ⟨h1,h2,h3⟩:=List.pairwise_append.mp h
 refine List.pairwise_append.mpr ⟨h1,List.pairwise_cons.mpr ⟨hd,h2⟩,fun a ha b hb => ?_⟩
 rcases List.mem_cons.mp hb with rfl | hb
 ·exact leP_of_ltc (ht a ha)
 ·exact h3 a ha b hb
theorem foldl_ins_sorted:∀ (ps row:List Pt),row.Pairwise leP→(ps.foldl insP row).Pairwise leP
 | [],_,h => h
 | _::ps,_,h => foldl_ins_sorted ps _ (insP_sorted h)
theorem isort_sorted (ps:List Pt):(isort ps).Pairwise leP:=foldl_ins_sorted ps [] List.Pairwise.nil
theorem sorted_unique {as bs:List Pt} (hp:as.Perm bs) (ha:as.Pairwise leP) (hb:bs.Pairwise leP):as = bs:=hp.eq_of_pairwise (fun _ _ _ _ h1 h2 => leP_antisymm h1 h2) ha hb
theorem isort_of {as ps:List Pt} (hp:as.Perm ps) (ha:as.Pairwise leP):isort ps = as:=sorted_unique ((isort_perm ps).trans hp.symm) (isort_sorted ps) ha
noncomputable def zc (M:Int) (c:Pt):Int:=c.2 * (2 * M + 1) + c.1
theorem zc_lt {M:Int} {c r:Pt} (hc : -M≤c.1∧c.1≤M) (hr : -M≤r.1∧r.1≤M):ltc c r = decide (zc M r < zc M c):=by
 have hB:0 < 2 * M + 1:=by grind
 rw [Bool.eq_iff_iff,ltc_iff,decide_eq_true_iff]
 unfold zc
 constructor
 ·rintro (h | ⟨h1,h2⟩)
  ·have:=Int.mul_le_mul_of_nonneg_right (show r.2 + 1≤c.2 by grind) (Int.le_of_lt hB)
   rw [Int.add_mul,Int.one_mul] at this
   grind
  ·rw [h1]; grind
 ·intro h
  by_cases h1:r.2 < c.2
  ·exact .inl h1
  ·by_cases h2:r.2 = c.2
   ·rw [h2] at h; exact .inr ⟨h2,by grind⟩
   ·exfalso
    have:=Int.mul_le_mul_of_nonneg_right (show c.2 + 1≤r.2 by grind) (Int.le_of_lt hB)
    rw [Int.add_mul,Int.one_mul] at this
    grind
theorem bound_ex:∀ ps:List Pt,∃ M:Int,0≤M∧∀ c∈ps,-M≤c.1∧c.1≤M
 | [] => ⟨0,by grind,fun _ h => nomatch h⟩
 | p::ps => by
  obtain ⟨M,h0,h⟩:=bound_ex ps
  refine ⟨M + p.1.natAbs,by grind,fun c hc => ?_⟩
  rcases List.mem_cons.mp hc with rfl | hc
  ·grind
  ·have:=h c hc; grind
noncomputable def KeyOk (sp:Sp3):Prop:=∀ (c:Pt) (H3:Hp3) (Q3:VK3),Q3 (.tup [.int c.2,.int c.1]) H3→sp [prP c] H3 Q3
noncomputable def sok (sp:Sp3) (x:D) (H1:Hp3) (Q:VK3):Prop:=match x with
 | .ref a => (match H1 a with
  | some (.lst ds) => (match ptsOf ds with
   | some ps => KeyOk sp∧ps.length < 64∧∀ p,H1 p = none→Q (.ref p) (upd3 H1 p (.lst ((isort ps).map prP)))
   | none => False)
  | _ => False)
 | _ => False
noncomputable def so3 (sp:Sp3) (te:TE3):TE3:=fun σ H Q => te σ H fun x H1 => sok sp x H1 Q
end L3
namespace L3
open PySem PySem.Spec PyProof.Rows L2
section
variable {X:Cx}
noncomputable def rInsert:V→List V→Hp→VK→Prop:=fun x vs H Q => ∃ l xs i y,x = .ref l∧vs = [.int i,y]∧H l = some (.lst xs)∧(0≤i∧i≤xs.length)∧xs.length < sizeLine∧Q .non (upd H l (.lst (xs.take i.toNat++y::xs.drop i.toNat)))
theorem mt_insert:MtM X "list.insert" rInsert:=by
 intro pins s σ H x vs v us Q I rx rv h
 obtain ⟨l,xs,i,y,rfl,rfl,hH,hi,hz,q⟩:=h
 cases rx
 obtain ⟨u,w',rfl,ru,ry⟩:=rv.two
 obtain ⟨t,rfl⟩:=ru
 obtain ⟨z,its,n,r,hl,e⟩:=I.lstM hH
 have hs:=sizeLine_eq
 have hfit:Builtin.List.listFitsIndex i = true:=by
  unfold Builtin.List.listFitsIndex
  simp only [Bool.and_eq_true,decide_eq_true_eq]
  constructor <;> grind
 refine call_meets PySem.F.slot_list_insert ⟨_,e,rfl⟩ PySem.F.entry_list_insert (PySem.F.args_list_insert_3 _ _ _)
  (PySem.AutoSeq1.list_insert_list_int_val_1 l its.toArray n i t w' (by simp [hfit]) (by rw [List.size_toArray]; grind)) ⟨e,?_⟩
 refine ⟨.non,_,I.lset (its':=its.take i.toNat++w'::its.drop i.toNat) hH e ?_ ((r.take _).append (.cons ry (r.drop _))) ?_,rfl,q⟩
 ·have hk:(if i < 0 then (i + (its.toArray.size:Int)).toNat else min i.toNat its.toArray.size) = i.toNat:=by
   rw [if_neg (by grind),List.size_toArray]; grind
  show (its.toArray.extract 0 (if i < 0 then (i + (its.toArray.size:Int)).toNat else min i.toNat its.toArray.size)).push w'++its.toArray.extract (if i < 0 then (i + (its.toArray.size:Int)).toNat else min i.toNat its.toArray.size) = _
  rw [hk]
  apply Array.ext'
  simp
  exact List.take_of_length_le (by rw [List.length_drop]; exact Nat.le_refl _)
 ·simp only [List.length_append,List.length_cons,List.length_take,List.length_drop]
  grind
theorem mt3_ins:MtR X "list.insert" (liftM X.K r3ins):=by
 intro pins s σ H x xs v us Q I rx rs h
 obtain ⟨d,ds,H3,Q3,hr,rd,rds,t,k⟩:=h
 cases rd with
 | ref a =>
  cases rds with
  | nil => exact t.elim
  | cons r1 r2 =>
   cases r2 with
   | nil => cases r1 <;> exact t.elim
   | cons r2 r3 =>
    cases r3 with
    | cons _ _ => cases r1 <;> exact t.elim
    | nil =>
     cases r1 with
     | int i =>
      (delta r3ins at t; dsimp only at t)
      split at t
      ·rename_i ds ha
       obtain ⟨vs,ga,ra⟩:=hr a _ ha
       obtain ⟨⟨hi,hl⟩,q⟩:=t
       exact mt_insert pins s σ H _ _ v us Q I rx rs ⟨a,vs,i,_,rfl,rfl,ga,by rw [← ra.length]; exact hi,by rw [← ra.length]; exact small1000 (Nat.le_of_lt hl),
        k _ _ _ _ (TK.lst ga) (hr.setL (TK.lst ga) (((ra.take _).append (.cons r2 (ra.drop _))).mono (TK.lst ga))) .non q⟩
      ·exact t.elim
     | _ => exact t.elim
 | _ => exact t.elim
theorem minL_le:∀ {ns:List Int} {a:Int},a∈ns→minL ns≤a
 | [x],a,h => by simp at h; subst h; exact Int.le_refl _
 | x::y::r,a,h => by
  rcases List.mem_cons.mp h with rfl | h
  ·exact Int.min_le_left _ _
  ·exact Int.le_trans (Int.min_le_right _ _) (minL_le (ns:=y::r) h)
theorem minL_mem:∀ {ns:List Int},ns≠[]→minL ns∈ns
 | [x],_ => List.mem_cons_self
 | x::y::r,_ => by
  have ih:=minL_mem (ns:=y::r) (by simp)
  have e:minL (x::y::r) = min x (minL (y::r)):=rfl
  rw [e]
  rcases Int.le_total x (minL (y::r)) with h | h
  ·rw [Int.min_eq_left h]; exact List.mem_cons_self
  ·rw [Int.min_eq_right h]; exact List.mem_cons_of_mem _ ih
theorem maxL_ge:∀ {ns:List Int} {a:Int},a∈ns→a≤maxL ns
 | [x],a,h => by simp at h; subst h; exact Int.le_refl _
 | x::y::r,a,h => by
  rcases List.mem_cons.mp h with rfl | h
  ·exact Int.le_max_left _ _
  ·exact Int.le_trans (maxL_ge (ns:=y::r) h) (Int.le_max_right _ _)
theorem maxL_mem:∀ {ns:List Int},ns≠[]→maxL ns∈ns
 | [x],_ => List.mem_cons_self
 | x::y::r,_ => by
  have ih:=maxL_mem (ns:=y::r) (by simp)
  have e:maxL (x::y::r) = max x (maxL (y::r)):=rfl
  rw [e]
  rcases Int.le_total x (maxL (y::r)) with h | h
  ·rw [Int.max_eq_right h]; exact List.mem_cons_of_mem _ ih
  ·rw [Int.max_eq_left h]; exact List.mem_cons_self
theorem call_minL (hc:X.calm = true):CallR X (.builtin "min") (fun xs H Q => ∃ a ns,xs = [.ref a]∧SqL X.K H a (ns.map V.int)∧ns≠[]∧Q (.int (minL ns)) H):=by
 intro pins s σ H xs us Q I r h
 obtain ⟨a,ns,rfl,hq,hne,q⟩:=h
 obtain ⟨u,rfl,ru⟩:=vals1 r
 cases ru
 obtain ⟨its,rv,pl,_⟩:=I.list hq
 have hi:=intsAre_of rv
 obtain ⟨zs,e⟩:=hi.allInts.items
 have hns:zs.toList.map (·.1) = ns:=by rw [← nums_intItems,← e]; exact hi.numsOf
 have hpos:0 < zs.size:=Nat.pos_of_ne_zero fun z => hne (by rw [← hns,Array.eq_empty_of_size_eq_zero z]; rfl)
 have hl:=pl.isList
 rw [e] at hl
 refine min_intList (I.ok.hd hc) hl hpos fun v h' tk hv hk => ?_
 obtain ⟨t,rfl⟩:=intItems_at hv
 obtain ⟨h1,h2⟩:=argBest_lt (numAt zs) (zs.size - 1)
 have hm:numAt zs (argBest (fun i j => decide (numAt zs i < numAt zs j)) (zs.size - 1)) = minL ns:=by
  refine Int.le_antisymm ?_ (minL_le ?_)
  ·obtain ⟨j,hj,ej⟩:=mem_getD (minL_mem hne)
   rw [← hns,List.length_map,Array.length_toList] at hj
   have:=h2 j (by omega)
   rw [numAt_eq zs j,hns,ej] at this
   exact this
  ·rw [numAt_eq,hns]
   exact getD_mem (by rw [← hns,List.length_map,Array.length_toList]; omega)
 exact ⟨.int (minL ns),H,I.kept hk,⟨t,by rw [hm]⟩,q⟩
theorem call_maxL (hc:X.calm = true):CallR X (.builtin "max") (fun xs H Q => ∃ a ns,xs = [.ref a]∧SqL X.K H a (ns.map V.int)∧ns≠[]∧Q (.int (maxL ns)) H):=by
 intro pins s σ H xs us Q I r h
 obtain ⟨a,ns,rfl,hq,hne,q⟩:=h
 obtain ⟨u,rfl,ru⟩:=vals1 r
 cases ru
 obtain ⟨its,rv,pl,_⟩:=I.list hq
 have hi:=intsAre_of rv
 obtain ⟨zs,e⟩:=hi.allInts.items
 have hns:zs.toList.map (·.1) = ns:=by rw [← nums_intItems,← e]; exact hi.numsOf
 have hpos:0 < zs.size:=Nat.pos_of_ne_zero fun z => hne (by rw [← hns,Array.eq_empty_of_size_eq_zero z]; rfl)
 have hl:=pl.isList
 rw [e] at hl
 refine max_intList (I.ok.hd hc) hl hpos fun v h' tk hv hk => ?_
 obtain ⟨t,rfl⟩:=intItems_at hv
 obtain ⟨h1,h2⟩:=argBest_gt (numAt zs) (zs.size - 1)
 have hm:numAt zs (argBest (fun i j => decide (numAt zs i > numAt zs j)) (zs.size - 1)) = maxL ns:=by
  refine Int.le_antisymm (maxL_ge ?_) ?_
  ·rw [numAt_eq,hns]
   exact getD_mem (by rw [← hns,List.length_map,Array.length_toList]; omega)
  ·obtain ⟨j,hj,ej⟩:=mem_getD (maxL_mem hne)
   rw [← hns,List.length_map,Array.length_toList] at hj
   have:=h2 j (by omega)
   rw [numAt_eq zs j,hns,ej] at this
   exact this
 exact ⟨.int (maxL ns),H,I.kept hk,⟨t,by rw [hm]⟩,q⟩
theorem lift_mm {id:String} {f:List Int→Int} (h:CallR X (.builtin id) (fun xs H Q => ∃ a ns,xs = [.ref a]∧SqL X.K H a (ns.map V.int)∧ns≠[]∧Q (.int (f ns)) H)):CallR X (.builtin id) (liftC X.K (r3mm f)):=by
 intro pins s σ H xs us Q I rs t
 obtain ⟨ds,H3,Q3,hr,rd,t,k⟩:=t
 cases rd with
 | nil => exact t.elim
 | cons r1 r2 =>
  cases r2 with
  | cons _ _ => cases r1 <;> exact t.elim
  | nil =>
   cases r1 with
   | ref a =>
    (delta r3mm at t; dsimp only at t)
    split at t
    ·rename_i ds ha
     split at t
     ·rename_i ns e
      obtain ⟨vs,ga,ra⟩:=hr a _ ha
      have z:=intsOf_inv e
      subst z
      have z:=ra.ints_inv
      subst z
      exact h pins s σ H _ us Q I rs ⟨a,ns,rfl,SqL.of ga,t.1,k _ _ _ _ TK.refl hr (.int _) t.2⟩
     ·exact t.elim
    ·exact t.elim
   | _ => exact t.elim
theorem cb3_min (hc:X.calm = true):CallR X (.builtin "min") (liftC X.K r3min):=lift_mm (call_minL hc)
theorem cb3_max (hc:X.calm = true):CallR X (.builtin "max") (liftC X.K r3max):=lift_mm (call_maxL hc)
end
end L3
namespace L3
open PySem L2
theorem sizeLine_n:sizeLine = 16777216:=by decide
theorem small1000' {n:Nat} (h:n≤1000):n < sizeLine:=by rw [sizeLine_n]; omega
theorem upd3_old {H:Hp3} {a p:Addr} {o u:O3} (h:H a = some o) (n:H p = none):upd3 H p u a = some o:=by rw [upd3_ne (ne3 h n)]; exact h
theorem sub_upd {H H2:Hp3} {p:Addr} {o:O3} (s:Sub3 H H2) (h:H2 p = some o):Sub3 (upd3 H p o) H2:=fun b u e => by
 by_cases hb:b = p
 ·subst hb; rw [upd3_same] at e; cases e; exact h
 ·rw [upd3_ne hb] at e; exact s b u e
theorem sub_back {H H2:Hp3} {p:Addr} (s:Sub3 H H2) (h:H2 p = none):H p = none:=by
 cases e:H p with
 | none => rfl
 | some o => have:=s p o e; rw [h] at this; cases this
section
variable {σ:St3} {H:Hp3} {Q:VK3} {D0:Ends3} {i j:Int} {a b:Addr} {d x y:D} {ds es:List D} {ta tb te tc:TE3} {tr:TA3} {t u:TS3} {cA cB:TT3} {QL:List D→Hp3→Prop} {QB:Bool→Hp3→Prop}
theorem g_v3 {k:Nat} (h:σ[k]? = some (some d)) (q:Q d H):v3 k σ H Q:=by unfold v3; rw [h]; exact q
theorem g_c3 (q:Q d H):c3 d σ H Q:=q
theorem g_o3 {r:R3} (h:ta σ H fun x H1 => tb σ H1 fun y H2 => r x y H2 Q):o3 r ta tb σ H Q:=h
theorem g_u3 {r:D→Hp3→VK3→Prop} (h:ta σ H fun x H1 => r x H1 Q):u3 r ta σ H Q:=h
theorem g_neg (q:Q (.int (-i)) H):r3neg (.int i) H Q:=q
theorem g_sub (q:Q (.int (i - j)) H):i3sub (.int i) (.int j) H Q:=q
theorem g_add (q:Q (.int (i + j)) H):r3add (.int i) (.int j) H Q:=q
theorem g_cat (ha:H a = some (.lst ds)) (hb:H b = some (.lst es)) (hl:ds.length + es.length≤sizeLine) (q:∀ p,H p = none→Q (.ref p) (upd3 H p (.lst (ds++es)))):r3add (.ref a) (.ref b) H Q:=by
 (delta r3add; simp only [ha,hb]); exact ⟨hl,q⟩
theorem g_mul (c:CMul i j) (q:Q (.int (i * j)) H):i3mul (.int i) (.int j) H Q:=⟨c,q⟩
theorem g_div (c:CDiv i j) (q:Q (.int (i / j)) H):i3div (.int i) (.int j) H Q:=⟨c,q⟩
theorem g_mod (c:0 < j) (q:Q (.int (i % j)) H):i3mod (.int i) (.int j) H Q:=⟨c,q⟩
theorem g_gt (q:Q (.bl (decide (j < i))) H):i3gt (.int i) (.int j) H Q:=q
theorem g_lt (q:Q (.bl (decide (i < j))) H):r3lt (.int i) (.int j) H Q:=q
theorem g_ltT {x1 x2 y1 y2:Int} (q:Q (.bl (HT.lexLt [x1,x2] [y1,y2])) H):r3lt (.tup [.int x1,.int x2]) (.tup [.int y1,.int y2]) H Q:=q
theorem pyN_i (i:Int):pyN 4 (.int i) = some (.int i):=rfl
theorem pyN_p (x y:Int):pyN 5 (.tup [.int x,.int y]) = some (.tuple [.int x,.int y]):=rfl
theorem g_eqI (q:Q (.bl (decide (i = j))) H):r3eq (.int i) (.int j) H Q:=by
 have e:(i == j) = decide (i = j):=rfl
 (delta r3eq pyH; simp only [pyN_i,PyData.eqv,e]); exact q
theorem g_neI (q:Q (.bl (!decide (i = j))) H):r3ne (.int i) (.int j) H Q:=by
 have e:(i == j) = decide (i = j):=rfl
 (delta r3ne pyH; simp only [pyN_i,PyData.eqv,e]); exact q
theorem g_eqP {x1 x2 y1 y2:Int} (q:Q (.bl (decide ((x1,x2) = (y1,y2)))) H):r3eq (.tup [.int x1,.int x2]) (.tup [.int y1,.int y2]) H Q:=by
 have e:(PyData.eqvAll [.int x1,.int x2] [.int y1,.int y2]) = decide ((x1,x2) = (y1,y2)):=by
  simp only [PyData.eqvAll,PyData.eqv,Bool.and_true,Prod.mk.injEq,Bool.decide_and]; rfl
 (delta r3eq pyH; simp only [pyN_p,PyData.eqv,e]); exact q
theorem g_neP {x1 x2 y1 y2:Int} (q:Q (.bl (!decide ((x1,x2) = (y1,y2)))) H):r3ne (.tup [.int x1,.int x2]) (.tup [.int y1,.int y2]) H Q:=by
 have e:(PyData.eqvAll [.int x1,.int x2] [.int y1,.int y2]) = decide ((x1,x2) = (y1,y2)):=by
  simp only [PyData.eqvAll,PyData.eqv,Bool.and_true,Prod.mk.injEq,Bool.decide_and]; rfl
 (delta r3ne pyH; simp only [pyN_p,PyData.eqv,e]); exact q
theorem g_isN (q:Q (.bl (isN x)) H):r3isN x .non H Q:=q
theorem g_notN (q:Q (.bl (!isN x)) H):r3notN x .non H Q:=q
theorem g_ixT (h:atI ds i = some d) (q:Q d H):r3ix (.tup ds) (.int i) H Q:=by (delta r3ix; simp only [h]); exact q
theorem g_ixF (h:atI ds i = some d) (q:Q d H):r3ix (.fl ds) (.int i) H Q:=by (delta r3ix; simp only [h]); exact q
theorem g_ixL (ha:H a = some (.lst ds)) (h:atI ds i = some d) (q:Q d H):r3ix (.ref a) (.int i) H Q:=by (delta r3ix; simp only [ha,h]); exact q
theorem g_ts (h:te σ H fun d H1 => bt d H1 QB):ts3 te σ H QB:=h
theorem g_bt {k:Bool} (q:QB k H):bt (.bl k) H QB:=q
theorem g_an (h:cA σ H fun c H1 => if c = true then cB σ H1 QB else QB false H1):an3 cA cB σ H QB:=h
theorem g_or (h:cA σ H fun c H1 => if c = true then QB true H1 else cB σ H1 QB):or3 cA cB σ H QB:=h
theorem g_no (h:cA σ H fun c H1 => QB (!c) H1):no3 cA σ H QB:=h
noncomputable def avk (tb:TE3) (σ:St3) (x:D) (H1:Hp3) (Q:VK3):Prop:=match x with
 | .bl c => if c = true then tb σ H1 Q else Q (.bl false) H1
 | _ => False
noncomputable def nvk (x:D) (H1:Hp3) (Q:VK3):Prop:=match x with
 | .bl c => Q (.bl (!c)) H1
 | _ => False
theorem g_av (h:ta σ H fun x H1 => avk tb σ x H1 Q):av3 ta tb σ H Q:=h
theorem g_avk {c:Bool} (h:if c = true then tb σ H Q else Q (.bl false) H):avk tb σ (.bl c) H Q:=h
theorem g_nv (h:ta σ H fun x H1 => nvk x H1 Q):nv3 ta σ H Q:=h
theorem g_nvk {c:Bool} (q:Q (.bl (!c)) H):nvk (.bl c) H Q:=q
theorem g_nil (q:QL [] H):nil3 σ H QL:=q
theorem g_cons (h:ta σ H fun x H1 => tr σ H1 fun xs H2 => QL (x::xs) H2):cons3 ta tr σ H QL:=h
theorem g_tp (h:tr σ H fun ds H1 => ds.length≤1000∧Q (.tup ds) H1):tp3 tr σ H Q:=h
theorem g_ls (h:tr σ H fun ds H1 => ds.length≤1000∧∀ p,H1 p = none→Q (.ref p) (upd3 H1 p (.lst ds))):ls3 tr σ H Q:=h
theorem g_and {q:Prop} {n:Nat} (h:Nat.ble ds.length n = true) (h2:q):ds.length≤n∧q:=⟨Nat.le_of_ble_eq_true h,h2⟩
theorem g_cb {r:List D→Hp3→VK3→Prop} (h:tr σ H fun ds H1 => r ds H1 Q):cb3 r tr σ H Q:=h
theorem g_lenT (q:Q (.int ds.length) H):r3len [.tup ds] H Q:=q
theorem g_lenF (q:Q (.int ds.length) H):r3len [.fl ds] H Q:=q
theorem g_lenL (ha:H a = some (.lst ds)) (q:Q (.int ds.length) H):r3len [.ref a] H Q:=by (delta r3len; simp only [ha]); exact q
theorem g_tupL (ha:H a = some (.lst ds)) (q:Q (.tup ds) H):r3tuple [.ref a] H Q:=by (delta r3tuple; simp only [ha]); exact q
theorem g_sl {tl th:TO3} {r:RSl} (h:te σ H fun x H1 => tl σ H1 fun l H2 => th σ H2 fun u H3 => r x l u H3 Q):sl3 r te tl th σ H Q:=h
theorem g_np {QO:Option Int→Hp3→Prop} (q:QO none H):np3 σ H QO:=q
noncomputable def ptk (x:D) (H1:Hp3) (QO:Option Int→Hp3→Prop):Prop:=match x with
 | .int i => QO (some i) H1
 | _ => False
theorem g_pt {QO:Option Int→Hp3→Prop} (h:te σ H fun x H1 => ptk x H1 QO):pt3 te σ H QO:=h
theorem g_ptk {QO:Option Int→Hp3→Prop} (q:QO (some i) H):ptk (.int i) H QO:=q
theorem g_sq (h:t { D0 with nx:=u D0 } σ H):sq3 t u D0 σ H:=h
theorem g_st {k:Nat} (h:te σ H fun x H1 => D0.nx (σ.set k (some x)) H1):st3 k te D0 σ H:=h
theorem g_nx3 (h:D0.nx σ H):nx3 D0 σ H:=h
theorem g_dr (h:te σ H fun _ H1 => D0.nx σ H1):dr3 te D0 σ H:=h
theorem g_rt3 (h:te σ H fun d H1 => D0.rt d H1):rt3 te D0 σ H:=h
theorem g_is (h:cA σ H fun b H1 => if b = true then t D0 σ H1 else u D0 σ H1):is3 cA t u D0 σ H:=h
theorem g_as {g:TG3} (h:te σ H fun x H1 => g x σ H1 D0.nx):as3 te g D0 σ H:=h
theorem g_gn {k:Nat} {R:St3→Hp3→Prop} (h:R (σ.set k (some d)) H):gn3 k d σ H R:=h
theorem g_g2 {k l:Nat} {R:St3→Hp3→Prop} (h:R ((σ.set k (some x)).set l (some y)) H):g2_3 k l (.tup [x,y]) σ H R:=h
theorem g_nx {n:St3→Hp3→Prop} {r:VK3} {bk ct:St3→Hp3→Prop} (h:n σ H):Ends3.nx ⟨n,r,bk,ct⟩ σ H:=h
theorem g_rt {n:St3→Hp3→Prop} {r:VK3} {bk ct:St3→Hp3→Prop} (h:r d H):Ends3.rt ⟨n,r,bk,ct⟩ d H:=h
theorem g_fin {H':Hp3} (h:Q d H') (s:Sub3 H' H):Ends3.rt (fin3 Q) d H:=⟨H',s,h⟩
noncomputable def Lp (g:TG3) (tb:TS3) (D0:Ends3) (σ:St3) (ds:List D) (keep:Hp3→Prop) (H1:Hp3):Prop:=∃ P:Nat→St3→Hp3→Prop,P 0 σ H1∧(∀ i σ H,i≤ds.length→P i σ H→keep H) ∧
 (∀ i d σ H,ds[i]? = some d→P i σ H→g d σ H fun σ2 H2 => tb { D0 with nx:=P (i + 1),ct:=P (i + 1),bk:=D0.nx } σ2 H2)∧∀ σ H,P ds.length σ H→D0.nx σ H
theorem g_fo {wi:TI3} {g:TG3} (h:wi σ H fun ds keep H1 => Lp g t D0 σ ds keep H1):fo3 wi g t D0 σ H:=h
theorem Lp.by {g:TG3} {keep:Hp3→Prop} (P:Nat→St3→Hp3→Prop) (h0:P 0 σ H) (hk:∀ i σ H,i≤ds.length→P i σ H→keep H)
  (turn:∀ i d σ H,ds[i]? = some d→P i σ H→g d σ H fun σ2 H2 => t { D0 with nx:=P (i + 1),ct:=P (i + 1),bk:=D0.nx } σ2 H2) (fin:∀ σ H,P ds.length σ H→D0.nx σ H):Lp g t D0 σ ds keep H:=⟨P,h0,hk,turn,fin⟩
theorem Lp.rng {g:TG3} {lo:Int} {n:Nat} (P:Nat→St3→Hp3→Prop) (h0:P 0 σ H)
  (turn:∀ (i:Nat) σ H,i < n→P i σ H→g (.int (lo + (i:Int))) σ H fun σ2 H2 => t { D0 with nx:=P (i + 1),ct:=P (i + 1),bk:=D0.nx } σ2 H2) (fin:∀ σ H,P n σ H→D0.nx σ H):Lp g t D0 σ (rng lo n) (fun _ => True) H :=
 ⟨P,h0,fun _ _ _ _ _ => trivial,fun i d σ H hd p => by
  have hi:i < n:=by
   have:=(List.getElem?_eq_some_iff.mp hd).1
   rwa [rng_len] at this
  rw [rng_get hi] at hd
  cases hd
  exact turn i σ H hi p,fun σ H p => fin σ H (by rw [rng_len] at p; exact p)⟩
theorem g_ir1 {R:List D→(Hp3→Prop)→Hp3→Prop} (h:ta σ H fun x H1 => rg1 x H1 R):ir1 ta σ H R:=h
theorem g_ir2 {R:List D→(Hp3→Prop)→Hp3→Prop} (h:ta σ H fun x H1 => tb σ H1 fun y H2 => rg2 x y H2 R):ir2 ta tb σ H R:=h
theorem g_rg1 {R:List D→(Hp3→Prop)→Hp3→Prop} (h:R (rng 0 j.toNat) (fun _ => True) H):rg1 (.int j) H R:=h
theorem g_rg2 {R:List D→(Hp3→Prop)→Hp3→Prop} (h:R (rng i (j - i).toNat) (fun _ => True) H):rg2 (.int i) (.int j) H R:=h
noncomputable def ilk (x:D) (H1:Hp3) (R:List D→(Hp3→Prop)→Hp3→Prop):Prop:=match x with
 | .ref a => (match H1 a with
  | some (.lst ds) => R ds (fun H' => H' a = some (.lst ds)) H1
  | _ => False)
 | .fl ds => R ds (fun _ => True) H1
 | _ => False
noncomputable def itk (x:D) (H1:Hp3) (R:List D→(Hp3→Prop)→Hp3→Prop):Prop:=match x with
 | .tup ds => R ds (fun _ => True) H1
 | _ => False
theorem g_il {R:List D→(Hp3→Prop)→Hp3→Prop} (h:te σ H fun x H1 => ilk x H1 R):il3 te σ H R:=h
theorem g_ilR {R:List D→(Hp3→Prop)→Hp3→Prop} (ha:H a = some (.lst ds)) (h:R ds (fun H' => H' a = some (.lst ds)) H):ilk (.ref a) H R:=by (delta ilk; simp only [ha]); exact h
theorem g_it {R:List D→(Hp3→Prop)→Hp3→Prop} (h:te σ H fun x H1 => itk x H1 R):it3 te σ H R:=h
theorem g_itT {R:List D→(Hp3→Prop)→Hp3→Prop} (h:R ds (fun _ => True) H):itk (.tup ds) H R:=h
theorem g_wh (P:St3→Hp3→Prop) (μ:St3→Hp3→Nat) (h0:P σ H) (turn:∀ σ H,P σ H→cA σ H fun b H1 => if b = true then t { D0 with nx:=fun σ' H' => P σ' H'∧μ σ' H' < μ σ H,ct:=fun σ' H' => P σ' H'∧μ σ' H' < μ σ H,bk:=D0.nx } σ H1 else D0.nx σ H1):wh3 cA t D0 σ H:=⟨P,μ,h0,turn⟩
noncomputable def mtk (r:D→List D→Hp3→VK3→Prop) (t:TA3) (σ:St3) (x:D) (H1:Hp3) (Q:VK3):Prop:=match x with
 | .ref a => (match H1 a with
  | some (.lst _) => t σ H1 fun xs H2 => r x xs H2 Q
  | _ => False)
 | _ => False
theorem g_m3 {r:D→List D→Hp3→VK3→Prop} (h:te σ H fun x H1 => mtk r tr σ x H1 Q):m3 r te tr σ H Q:=h
theorem g_mtk {r:D→List D→Hp3→VK3→Prop} (ha:H a = some (.lst ds)) (h:tr σ H fun xs H2 => r (.ref a) xs H2 Q):mtk r tr σ (.ref a) H Q:=by (delta mtk; simp only [ha]); exact h
theorem g_app (ha:H a = some (.lst ds)) (hl:ds.length < sizeLine) (q:Q .non (upd3 H a (.lst (ds++[y])))):r3app (.ref a) [y] H Q:=by (delta r3app; simp only [ha]); exact ⟨hl,q⟩
theorem g_ext (ha:H a = some (.lst ds)) (hb:H b = some (.lst es)) (hl:ds.length + es.length≤sizeLine) (q:Q .non (upd3 H a (.lst (ds++es)))):r3ext (.ref a) [.ref b] H Q:=by (delta r3ext; simp only [ha,hb]); exact ⟨hl,q⟩
theorem g_pop (ha:H a = some (.lst ds)) (hy:ds[ds.length - 1]? = some y) (q:Q y (upd3 H a (.lst ds.dropLast))):r3pop (.ref a) [] H Q:=by (delta r3pop; simp only [ha,hy]); exact q
theorem g_ins (ha:H a = some (.lst ds)) (hi:0≤i∧i≤ds.length) (hl:ds.length < 1000) (q:Q .non (upd3 H a (.lst (ds.take i.toNat++y::ds.drop i.toNat)))):r3ins (.ref a) [.int i,y] H Q:=by
 (delta r3ins; simp only [ha]); exact ⟨⟨hi,hl⟩,q⟩
theorem g_ixS (h:seqH H x = some ds) (ha:atI ds i = some d) (q:Q d H):r3ix x (.int i) H Q:=by
 cases x with
 | ref a =>
  (delta seqH at h; dsimp only at h)
  split at h
  ·rename_i es e; cases h; exact g_ixL e ha q
  ·cases h
 | fl es => cases h; exact g_ixF ha q
 | tup es => cases h; exact g_ixT ha q
 | _ => cases h
theorem g_lenS (h:seqH H x = some ds) (q:Q (.int ds.length) H):r3len [x] H Q:=by
 cases x with
 | ref a =>
  (delta seqH at h; dsimp only at h)
  split at h
  ·rename_i es e; cases h; exact g_lenL e q
  ·cases h
 | fl es => cases h; exact q
 | tup es => cases h; exact q
 | _ => cases h
theorem seq_ref (ha:H a = some (.lst ds)):seqH H (.ref a) = some ds:=by (delta seqH; simp only [ha])
theorem g_isi {U T:String} (h:tyH H x = some U) (hT:T∈kinds) (q:Q (.bl (isT U T)) H):r3isi [x,.ty T] H Q:=by
 (delta r3isi; simp only [h]); exact ⟨hT,q⟩
theorem atI_map {α:Type} {xs:List α} {f:α→D} {k:Int} (h0:0≤k) (h1:k.toNat < xs.length):atI (xs.map f) k = some (f (xs[k.toNat]'h1)):=by
 have hl:k < ((xs.map f).length:Int):=by rw [List.length_map]; omega
 unfold atI ixN
 rw [if_pos h0,if_pos hl,Option.bind_some,List.getElem?_map,List.getElem?_eq_getElem h1]
 rfl
theorem py_pts:∀ ps:List Pt,mapO (pyN 4) (ps.map prP) = some (ps.map fun p => PyData.tuple [.int p.1,.int p.2])
 | [] => rfl
 | p::ps => by
  have e:pyN 4 (prP p) = some (PyData.tuple [.int p.1,.int p.2]):=rfl
  simp only [List.map_cons,mapO,e,py_pts ps]
theorem eqv_pt (p q:Pt):PyData.eqv (PyData.tuple [.int p.1,.int p.2]) (PyData.tuple [.int q.1,.int q.2]) = decide (p = q):=by
 obtain ⟨a,b⟩:=p
 obtain ⟨c,d⟩:=q
 simp only [PyData.eqv,PyData.eqvAll,Bool.and_true,Prod.mk.injEq,Bool.decide_and]; rfl
theorem any_pt (p:Pt):∀ ps:List Pt,(ps.map fun p => PyData.tuple [.int p.1,.int p.2]).any (fun q => PyData.eqv q (PyData.tuple [.int p.1,.int p.2])) = decide (p∈ps)
 | [] => by simp
 | q::ps => by
  rw [List.map_cons,List.any_cons,any_pt p ps,eqv_pt]
  by_cases h:q = p
  ·subst h; simp
  ·have h':¬ p = q:=fun e => h e.symm
   simp [h,h']
theorem g_ninP {p1 p2:Int} {ps:List Pt} (h:seqH H y = some (ps.map prP)) (q:Q (.bl (!decide ((p1,p2)∈ps))) H):r3in true (.tup [.int p1,.int p2]) y H Q:=by
 have e:pyN 4 (.tup [.int p1,.int p2]) = some (PyData.tuple [.int p1,.int p2]):=rfl
 (delta r3in; simp only [e,h,Option.bind_some,py_pts])
 rw [← any_pt (p1,p2) ps] at q
 exact q
noncomputable def Cp (g:TG3) (tc:TT3) (te:TE3) (σ0:St3) (ds:List D) (keep:Hp3→Prop) (H1:Hp3) (Q:VK3):Prop:=(∀ H2:Hp3,Sub3 H1 H2→keep H2)∧ds.length≤10000∧∃ rs:List (Option D),rs.length = ds.length ∧
 (∀ (i:Nat) (d:D),ds[i]? = some d→∀ H2:Hp3,Sub3 H1 H2→g d σ0 H2 fun σ2 H4 => tc σ2 H4 fun b H5 =>
  if b = true then te σ2 H5 fun v H6 => Sub3 H2 H6∧rs[i]? = some (some v) else Sub3 H2 H5∧rs[i]? = some none) ∧
 ∀ p,H1 p = none→Q (.ref p) (upd3 H1 p (.lst (rs.filterMap id)))
noncomputable def blk3 (own:List Str) (fv:FV) (σ:St3):St3:=own.map (fun _ => none)++fv.map fun p => (σ[p.1]?).join
theorem g_cp {wi:TI3} {g:TG3} {own:List Str} {fv:FV} (h:wi σ H fun ds keep H1 => Cp g cA te (blk3 own fv σ) ds keep H1 Q):cp3 wi g cA te own fv σ H Q:=h
theorem Cp.filt {α:Type} {g:TG3} {keep:Hp3→Prop} {σ0:St3} {as:List α} {E:α→D} (F:α→D) (T:α→Bool) (hk:∀ H2:Hp3,Sub3 H H2→keep H2) (hl:as.length≤1000)
  (hel:∀ (i:Nat) a,as[i]? = some a→∀ (R1:VK3) (R0:Hp3→Prop) (H2:Hp3),Sub3 H H2→(T a = true→∀ H6,Sub3 H2 H6→R1 (F a) H6)→(T a = false→∀ H6,Sub3 H2 H6→R0 H6)→g (E a) σ0 H2 fun σ2 H4 => cA σ2 H4 fun b H5 => if b = true then te σ2 H5 R1 else R0 H5)
  (fin:∀ p,H p = none→Q (.ref p) (upd3 H p (.lst ((as.filter T).map F)))):Cp g cA te σ0 (as.map E) keep H Q:=by
 refine ⟨hk,by rw [List.length_map]; exact Nat.le_trans hl (by decide),as.map (fun a => if T a = true then some (F a) else none),by simp,fun i d hd H2 hs => ?_,fun p hp => ?_⟩
 ·rw [List.getElem?_map] at hd
  cases e:as[i]? with
  | none => rw [e] at hd; cases hd
  | some a =>
   rw [e] at hd
   cases hd
   have er:(as.map fun a => if T a = true then some (F a) else none)[i]? = some (if T a = true then some (F a) else none):=by rw [List.getElem?_map,e]; rfl
   exact hel i a e _ _ H2 hs (fun ht H6 h6 => ⟨h6,by rw [er,if_pos ht]⟩) fun ht H6 h6 => ⟨h6,by rw [er,if_neg (by rw [ht]; exact Bool.false_ne_true)]⟩
 ·have e:∀ as:List α,(as.map fun a => if T a = true then some (F a) else none).filterMap id = (as.filter T).map F:=by
   intro as
   induction as with
   | nil => rfl
   | cons a as ih =>
    rw [List.map_cons,List.filterMap_cons]
    cases h:T a with
    | true => rw [List.filter_cons_of_pos h,List.map_cons,← ih]; rfl
    | false => rw [List.filter_cons_of_neg (by simp [h]),← ih]; rfl
  rw [e]
  exact fin p hp
theorem Cp.map {α:Type} {g:TG3} {keep:Hp3→Prop} {σ0:St3} {as:List α} {E:α→D} (F:α→D) (hk:∀ H2:Hp3,Sub3 H H2→keep H2) (hl:as.length≤1000)
  (hel:∀ (i:Nat) a,as[i]? = some a→∀ (R:VK3) (H2:Hp3),Sub3 H H2→(∀ H6,Sub3 H2 H6→R (F a) H6)→g (E a) σ0 H2 fun σ2 H4 => te σ2 H4 R)
  (fin:∀ p,H p = none→Q (.ref p) (upd3 H p (.lst (as.map F)))):Cp g yes3 te σ0 (as.map E) keep H Q:=by
 refine ⟨hk,by rw [List.length_map]; exact Nat.le_trans hl (by decide),as.map (fun a => some (F a)),by simp,fun i d hd H2 hs => ?_,fun p hp => ?_⟩
 ·rw [List.getElem?_map] at hd
  cases e:as[i]? with
  | none => rw [e] at hd; cases hd
  | some a =>
   rw [e] at hd
   cases hd
   have er:(as.map fun a => some (F a))[i]? = some (some (F a)):=by rw [List.getElem?_map,e]; rfl
   exact hel i a e _ H2 hs fun H6 h6 => ⟨h6,er⟩
 ·have e:∀ as:List α,(as.map fun a => some (F a)).filterMap id = as.map F:=by
   intro as
   induction as with
   | nil => rfl
   | cons a as ih => rw [List.map_cons,List.filterMap_cons,List.map_cons,← ih]; rfl
  rw [e]
  exact fin p hp
theorem Cp.mapP {α:Type} {g:TG3} {keep:Hp3→Prop} {σ0:St3} {as:List α} {E:α→D} (f:α→Pt) (hk:∀ H2:Hp3,Sub3 H H2→keep H2) (hl:as.length≤1000)
  (hel:∀ (i:Nat) a,as[i]? = some a→∀ (R:VK3) (H2:Hp3),Sub3 H H2→(∀ H6,Sub3 H2 H6→R (.tup [.int (f a).1,.int (f a).2]) H6)→g (E a) σ0 H2 fun σ2 H4 => te σ2 H4 R)
  (fin:∀ p,H p = none→Q (.ref p) (upd3 H p (.lst ((as.map f).map prP)))):Cp g yes3 te σ0 (as.map E) keep H Q :=
 Cp.map (fun a => prP (f a)) hk hl hel fun p hp => by have:=fin p hp; rw [List.map_map] at this; exact this
theorem g_min {ns:List Int} (ha:H a = some (.lst (ns.map D.int))) (hn:ns≠[]) (q:Q (.int (minL ns)) H):r3min [.ref a] H Q:=by
 simp only [r3min,r3mm,ha,intsOf_map]; exact ⟨hn,q⟩
theorem g_max {ns:List Int} (ha:H a = some (.lst (ns.map D.int))) (hn:ns≠[]) (q:Q (.int (maxL ns)) H):r3max [.ref a] H Q:=by
 simp only [r3max,r3mm,ha,intsOf_map]; exact ⟨hn,q⟩
theorem g_so {sp:Sp3} (h:te σ H fun x H1 => sok sp x H1 Q):so3 sp te σ H Q:=h
theorem g_sok {sp:Sp3} {ps:List Pt} (ha:H a = some (.lst (ps.map prP))) (ko:KeyOk sp) (hl:ps.length < 64) (q:∀ p,H p = none→Q (.ref p) (upd3 H p (.lst ((isort ps).map prP)))):sok sp (.ref a) H Q:=by
 (delta sok; simp only [ha,ptsOf_map]); exact ⟨ko,hl,q⟩
theorem ifD {p A B:Prop} [Decidable p] (h1:p→A) (h2:¬ p→B):if decide p = true then A else B:=by
 by_cases h:p
 ·rw [if_pos (decide_eq_true h)]; exact h1 h
 ·rw [if_neg (by simpa using h)]; exact h2 h
theorem ifN {p A B:Prop} [Decidable p] (h1:¬ p→A) (h2:p→B):if (!decide p) = true then A else B:=by
 by_cases h:p
 ·rw [if_neg (by simpa using h)]; exact h2 h
 ·rw [if_pos (by simpa using h)]; exact h1 h
theorem ifB {c:Bool} {A B:Prop} (h1:c = true→A) (h2:c = false→B):if c = true then A else B:=by
 cases c
 ·rw [if_neg Bool.false_ne_true]; exact h2 rfl
 ·rw [if_pos rfl]; exact h1 rfl
theorem ifY {c:Bool} {A B:Prop} (hc:c = true) (h:A):if c = true then A else B:=by rw [if_pos hc]; exact h
theorem ifX {c:Bool} {A B:Prop} (hc:c = false) (h:B):if c = true then A else B:=by subst hc; exact h
end
end L3
namespace L3
open PySem PySem.W PyProof.Rows
section
variable {cmp:Nat→Nat→(Bool→Shared→Prop)→Shared→Prop} {n:Nat} {z:Nat→Int} {s:Shared}
noncomputable def ak (z:Nat→Int) (p:Array Nat) (t:Nat):Int:=z (p.getD t 0)
theorem getD_of {p:Array Nat} {t:Nat}:p.getD t 0 = (p[t]?).getD 0:=by simp [Array.getD_eq_getD_getElem?]
theorem ak_congr {p q:Array Nat} {t u:Nat} (h:p[t]? = q[u]?):ak z p t = ak z q u:=by unfold ak; rw [getD_of,getD_of,h]
noncomputable def Pm (n:Nat) (p:Array Nat):Prop:=p.Perm (List.range n).toArray
theorem Pm.size {p:Array Nat} (h:Pm n p):p.size = n:=by have:=Array.Perm.size_eq h; simpa using this
theorem Pm.lt {p:Array Nat} (h:Pm n p) {t:Nat} (ht:t < n):p.getD t 0 < n:=by
 have hs:t < p.size:=by rw [h.size]; exact ht
 have e:p.getD t 0 = p[t]:=by rw [getD_of,Array.getElem?_eq_getElem hs]; rfl
 have hm:p[t]∈p:=Array.getElem_mem hs
 have:=(Array.Perm.mem_iff h).mp hm
 rw [e]
 simpa using this
theorem Pm.rev {p:Array Nat} (h:Pm n p) (i j:Nat):Pm n (kas_rev p i j):=(mirror_perm p i j _).trans h
theorem Pm.bub {p:Array Nat} (h:Pm n p) (k d:Nat):Pm n (bubble p k d):=(bubble_perm p k d).trans h
theorem ak_rev {p:Array Nat} {i j:Nat} (hj:j≤p.size) (k:Nat):ak z (kas_rev p i j) k = if i≤k∧k < j then ak z p (i + j - 1 - k) else ak z p k:=by
 have e:=getElem?_mirror_all (i:=i) hj k
 by_cases h:i≤k∧k < j
 ·rw [if_pos h] at e ⊢; exact ak_congr e
 ·rw [if_neg h] at e ⊢; exact ak_congr e
theorem ak_rev_eq {p:Array Nat} {i j:Nat} (hj:j≤p.size) (heq:∀ t,i≤t→t < j→ak z p t = ak z p (j - 1)) (k:Nat):ak z (kas_rev p i j) k = ak z p k:=by
 rw [ak_rev hj]
 split
 ·rw [heq _ (by omega) (by omega),heq k (by omega) (by omega)]
 ·rfl
noncomputable def CmpOk (cmp:Nat→Nat→(Bool→Shared→Prop)→Shared→Prop) (n:Nat) (z:Nat→Int) (s:Shared):Prop:=∀ i j C,i < n→j < n→C (decide (z i < z j)) s→cmp i j C s
theorem k_asc (hc:CmpOk cmp n z s) {p:Array Nat} (hp:Pm n p) {Q:Nat→Shared→Prop}:∀ (f m:Nat),1≤m→m + f≤n →
  (∀ r,m≤r→r≤m + f→(∀ t,m≤t→t < r→ak z p (t - 1)≤ak z p t)→(r < m + f→ak z p r < ak z p (r - 1))→Q r s)→(kas_asc p f m).kasWp cmp Q s
 | 0,m,_,_,h => h m (Nat.le_refl _) (Nat.le_refl _) (fun t h1 h2 => absurd h1 (by grind)) (fun z => absurd z (by grind))
 | f + 1,m,h1,h2,h => by
  refine hc _ _ _ (hp.lt (by grind)) (hp.lt (by grind)) ?_
  by_cases hlt:z (p.getD m 0) < z (p.getD (m - 1) 0)
  ·rw [decide_eq_true hlt]
   exact h m (Nat.le_refl _) (by grind) (fun t g1 g2 => absurd g1 (by grind)) (fun _ => hlt)
  ·rw [decide_eq_false hlt]
   refine k_asc hc hp f (m + 1) (by grind) (by grind) fun r r1 r2 r3 r4 => h r (by grind) (by grind) (fun t t1 t2 => ?_) (fun z => r4 (by grind))
   by_cases ht:t = m
   ·subst ht; exact Int.not_lt.mp hlt
   ·exact r3 t (by grind) t2
noncomputable def SorP (z:Nat→Int) (p:Array Nat) (k:Nat):Prop:=∀ i j,i≤j→j < k→ak z p i≤ak z p j
noncomputable def NonP (z:Nat→Int) (p:Array Nat) (k:Nat):Prop:=∀ i j,i≤j→j < k→ak z p j≤ak z p i
theorem sor_of {p:Array Nat} {m r:Nat} (h0:SorP z p m) (h1:1≤m) (h:∀ t,m≤t→t < r→ak z p (t - 1)≤ak z p t):SorP z p r:=by
 intro i j hij hj
 induction j with
 | zero => have:i = 0:=(by grind); subst this; exact Int.le_refl _
 | succ j ih =>
  by_cases e:i = j + 1
  ·subst e; exact Int.le_refl _
  ·by_cases hm:j + 1 < m
   ·exact h0 i (j + 1) hij hm
   ·exact Int.le_trans (ih (by grind) (by grind)) (h (j + 1) (by grind) hj)
theorem k_desc (hc:CmpOk cmp n z s) {Q:Array Nat×Nat×Nat→Shared→Prop}:∀ (f:Nat) (p:Array Nat) (m q:Nat),Pm n p→1≤m→m + f≤n→q < m→NonP z p m→(∀ t,m - 1 - q≤t→t < m→ak z p t = ak z p (m - 1)) →
  (∀ p' r q',Pm n p'→1≤r→r≤m + f→q' < r→NonP z p' r→(∀ t,r - 1 - q'≤t→t < r→ak z p' t = ak z p' (r - 1))→Q (p',r,q') s)→(kas_desc f p m q).kasWp cmp Q s
 | 0,p,m,q,hp,h1,h2,hq,hn,he,h => h p m q hp h1 (Nat.le_refl _) hq hn he
 | f + 1,p,m,q,hp,h1,h2,hq,hn,he,h => by
  have hsz:=hp.size
  refine hc _ _ _ (hp.lt (by grind)) (hp.lt (by grind)) ?_
  by_cases hlt:ak z p m < ak z p (m - 1)
  ·rw [decide_eq_true (show z (p.getD m 0) < z (p.getD (m - 1) 0) from hlt)]
   by_cases hq0:q > 0
   ·have ek:∀ k,ak z (kas_rev p (m - (q + 1)) m) k = ak z p k:=ak_rev_eq (by grind) (fun t t1 t2 => he t (by grind) t2)
    show (if q > 0 then kas_desc f (kas_rev p (m - (q + 1)) m) (m + 1) 0 else kas_desc f p (m + 1) 0).kasWp cmp Q s
    rw [if_pos hq0]
    refine k_desc hc f _ (m + 1) 0 (hp.rev _ _) (by grind) (by grind) (by grind) ?_ ?_ fun p' r q' a1 a2 a3 a4 a5 a6 => h p' r q' a1 a2 (by grind) a4 a5 a6
    ·intro i j hij hj
     rw [ek,ek]
     by_cases e:j = m
     ·subst e
      by_cases e2:i = j
      ·subst e2; exact Int.le_refl _
      ·exact Int.le_trans (Int.le_of_lt hlt) (hn i (j - 1) (by grind) (by grind))
     ·exact hn i j hij (by grind)
    ·intro t t1 t2
     have:t = m:=by grind
     subst this; rfl
   ·show (if q > 0 then kas_desc f (kas_rev p (m - (q + 1)) m) (m + 1) 0 else kas_desc f p (m + 1) 0).kasWp cmp Q s
    rw [if_neg hq0]
    refine k_desc hc f _ (m + 1) 0 hp (by grind) (by grind) (by grind) ?_ ?_ fun p' r q' a1 a2 a3 a4 a5 a6 => h p' r q' a1 a2 (by grind) a4 a5 a6
    ·intro i j hij hj
     by_cases e:j = m
     ·subst e
      by_cases e2:i = j
      ·subst e2; exact Int.le_refl _
      ·exact Int.le_trans (Int.le_of_lt hlt) (hn i (j - 1) (by grind) (by grind))
     ·exact hn i j hij (by grind)
    ·intro t t1 t2
     have:t = m:=by grind
     subst this; rfl
  ·rw [decide_eq_false (show ¬ z (p.getD m 0) < z (p.getD (m - 1) 0) from hlt)]
   refine hc _ _ _ (hp.lt (by grind)) (hp.lt (by grind)) ?_
   by_cases hgt:ak z p (m - 1) < ak z p m
   ·rw [decide_eq_true (show z (p.getD (m - 1) 0) < z (p.getD m 0) from hgt)]
    exact h p m q hp h1 (by grind) hq hn he
   ·rw [decide_eq_false (show ¬ z (p.getD (m - 1) 0) < z (p.getD m 0) from hgt)]
    have eq:ak z p m = ak z p (m - 1):=by grind
    refine k_desc hc f p (m + 1) (q + 1) hp (by grind) (by grind) (by grind) ?_ ?_ fun p' r q' a1 a2 a3 a4 a5 a6 => h p' r q' a1 a2 (by grind) a4 a5 a6
    ·intro i j hij hj
     by_cases e:j = m
     ·subst e
      by_cases e2:i = j
      ·subst e2; exact Int.le_refl _
      ·rw [eq]; exact hn i (j - 1) (by grind) (by grind)
     ·exact hn i j hij (by grind)
    ·intro t t1 t2
     show ak z p t = ak z p m
     by_cases e:t = m
     ·subst e; rfl
     ·rw [eq]; exact he t (by grind) (by grind)
theorem k_tail (hc:CmpOk cmp n z s) {p:Array Nat} {m:Nat} (hp:Pm n p) (h1:1≤m) (hm:m≤n) (hn:NonP z p m) {Q:Nat×Array Nat→Shared→Prop}
  (h:∀ r p',Pm n p'→1≤r→r≤n→SorP z p' r→Q (r,p') s):(kas_tail3 m n p).kasWp cmp Q s:=by
 unfold kas_tail3
 rw [KasT.kasWp_bind]
 have hsz:=hp.size
 have hs:SorP z (kas_rev p 0 m) m:=fun i j hij hj => by
  rw [ak_rev (by grind),ak_rev (by grind),if_pos ⟨by grind,by grind⟩,if_pos ⟨by grind,by grind⟩]
  exact hn _ _ (by grind) (by grind)
 refine k_asc hc (hp.rev 0 m) _ m h1 (by grind) fun r r1 r2 r3 _ => h r _ (hp.rev 0 m) (by grind) (by grind) (sor_of hs h1 r3)
theorem k_descPart (hc:CmpOk cmp n z s) {p:Array Nat} {m:Nat} (hp:Pm n p) (h1:1≤m) (hm:m + 1≤n) (hn:∀ t,t < m→ak z p t = ak z p (m - 1)) (hd:ak z p m < ak z p (m - 1)) {Q:Nat×Array Nat→Shared→Prop}
  (h:∀ r p',Pm n p'→1≤r→r≤n→SorP z p' r→Q (r,p') s):(kas_descPart m n p).kasWp cmp Q s:=by
 unfold kas_descPart
 rw [KasT.kasWp_bind]
 refine k_desc hc _ p (m + 1) 0 hp (by grind) (by grind) (by grind) ?_ ?_ ?_
 ·intro i j hij hj
  by_cases e:j = m
  ·subst e
   by_cases e2:i = j
   ·subst e2; exact Int.le_refl _
   ·rw [hn i (by grind)]; exact Int.le_of_lt hd
  ·rw [hn i (by grind),hn j (by grind)]; exact Int.le_refl _
 ·intro t t1 t2
  have:t = m:=by grind
  subst this; rfl
 ·intro p' r q' a1 a2 a3 a4 a5 a6
  have hsz:=a1.size
  show (if q' > 0 then kas_tail3 r n (kas_rev p' (r - (q' + 1)) r) else kas_tail3 r n p').kasWp cmp Q s
  by_cases hq:q' > 0
  ·rw [if_pos hq]
   have ek:∀ k,ak z (kas_rev p' (r - (q' + 1)) r) k = ak z p' k:=ak_rev_eq (by grind) (fun t t1 t2 => a6 t (by grind) t2)
   exact k_tail hc (a1.rev _ _) a2 (by grind) (fun i j hij hj => by rw [ek,ek]; exact a5 i j hij hj) h
  ·rw [if_neg hq]
   exact k_tail hc a1 a2 (by grind) a5 h
theorem k_count (hc:CmpOk cmp n z s) {p:Array Nat} (hp:Pm n p) (hn:1≤n) {Q:Nat×Array Nat→Shared→Prop} (h:∀ r p',Pm n p'→1≤r→r≤n→SorP z p' r→Q (r,p') s):(kas_count n p).kasWp cmp Q s:=by
 unfold kas_count
 rw [KasT.kasWp_bind]
 have hsz:=hp.size
 refine k_asc hc hp _ 1 (Nat.le_refl _) (by grind) fun r r1 r2 r3 r4 => ?_
 have hs:SorP z p r:=sor_of (m:=1) (fun i j hij hj => by
  have e1:i = 0:=by grind
  have e2:j = 0:=by grind
  subst e1; subst e2; exact Int.le_refl _) (Nat.le_refl _) r3
 by_cases e:r = n
 ·rw [if_pos (by rw [e]; exact beq_self_eq_true n)]
  exact h r p hp r1 (by grind) hs
 ·rw [if_neg (by simpa using e)]
  have hd:=r4 (by grind)
  by_cases hr:r > 1
  ·rw [if_pos hr]
   refine hc _ _ _ (hp.lt (by grind)) (hp.lt (by grind)) ?_
   by_cases hlt:ak z p 0 < ak z p (r - 1)
   ·rw [decide_eq_true (show z (p.getD 0 0) < z (p.getD (r - 1) 0) from hlt)]
    exact h r p hp r1 (by grind) hs
   ·rw [decide_eq_false (show ¬ z (p.getD 0 0) < z (p.getD (r - 1) 0) from hlt)]
    have heq:∀ t,t < r→ak z p t = ak z p (r - 1):=fun t ht => by
     have g1:=hs 0 t (by grind) ht
     have g2:=hs t (r - 1) (by grind) (by grind)
     grind
    have ek:∀ k,ak z (kas_rev p 0 r) k = ak z p k:=ak_rev_eq (by grind) (fun t t1 t2 => heq t t2)
    exact k_descPart hc (hp.rev 0 r) r1 (by grind) (fun t ht => by rw [ek,ek]; exact heq t ht) (by rw [ek,ek]; exact hd) h
  ·rw [if_neg hr]
   have e1:r = 1:=by grind
   subst e1
   exact k_descPart hc hp r1 (by grind) (fun t ht => by have:t = 0:=(by grind); subst this; rfl) hd h
theorem k_place (hc:CmpOk cmp n z s) {p:Array Nat} {k:Nat} (hp:Pm n p) (hk:k < n) (hs:SorP z p k) {Q:Nat→Shared→Prop}:∀ (f l r:Nat),l≤r→r≤k→r - l≤f→(∀ t,t < l→ak z p t≤ak z p k)→(∀ t,r≤t→t < k→ak z p k < ak z p t) →
  (∀ l',l'≤k→(∀ t,t < l'→ak z p t≤ak z p k)→(∀ t,l'≤t→t < k→ak z p k < ak z p t)→Q l' s)→(kas_place p k f l r).kasWp cmp Q s
 | 0,l,r,h1,h2,h3,h4,h5,h => h l (by grind) h4 (fun t t1 t2 => h5 t (by grind) t2)
 | f + 1,l,r,h1,h2,h3,h4,h5,h => by
  show (if l ≥ r then KasT.ret l else .ask (p.getD k 0) (p.getD ((l + r) / 2) 0) fun c => if c = true then kas_place p k f l ((l + r) / 2) else kas_place p k f ((l + r) / 2 + 1) r).kasWp cmp Q s
  by_cases hlr:l ≥ r
  ·rw [if_pos hlr]
   exact h l (by grind) h4 (fun t t1 t2 => h5 t (by grind) t2)
  ·rw [if_neg hlr]
   refine hc _ _ _ (hp.lt (by grind)) (hp.lt (by grind)) ?_
   by_cases hlt:ak z p k < ak z p ((l + r) / 2)
   ·rw [decide_eq_true (show z (p.getD k 0) < z (p.getD ((l + r) / 2) 0) from hlt)]
    exact k_place hc hp hk hs f l ((l + r) / 2) (by grind) (by grind) (by grind) h4 (fun t t1 t2 => by
     have:=hs ((l + r) / 2) t t1 t2
     grind) h
   ·rw [decide_eq_false (show ¬ z (p.getD k 0) < z (p.getD ((l + r) / 2) 0) from hlt)]
    exact k_place hc hp hk hs f ((l + r) / 2 + 1) r (by grind) h2 (by grind) (fun t ht => by
     have:=hs t ((l + r) / 2) (by grind) (by grind)
     grind) h5 h
theorem k_bin (hc:CmpOk cmp n z s) {Q:Array Nat→Shared→Prop}:∀ (f:Nat) (p:Array Nat) (k:Nat),k + f = n→Pm n p→SorP z p k→(∀ p',Pm n p'→SorP z p' n→Q p' s)→(kas_bin f p k).kasWp cmp Q s
 | 0,p,k,h1,hp,hs,h => h p hp (by rw [← h1]; exact hs)
 | f + 1,p,k,h1,hp,hs,h => by
  show ((kas_place p k k 0 k).bind fun l => kas_bin f (bubble p k (k - l)) (k + 1)).kasWp cmp Q s
  rw [KasT.kasWp_bind]
  have hsz:=hp.size
  refine k_place hc hp (by grind) hs k 0 k (Nat.zero_le _) (Nat.le_refl _) (by grind) (fun t ht => absurd ht (by grind)) (fun t t1 t2 => absurd t1 (by grind)) fun l l1 l2 l3 => ?_
  refine k_bin hc f _ (k + 1) (by grind) (hp.bub _ _) ?_ h
  have eb:∀ t,ak z (bubble p k (k - l)) t = if t = l then ak z p k else if l < t∧t≤k then ak z p (t - 1) else ak z p t:=fun t => by
   have e:=getElem?_bubble (xs:=p) (src:=k) (by grind) (k - l) (by grind) t
   rw [show k - (k - l) = l by grind] at e
   by_cases g1:t = l
   ·rw [if_pos g1] at e ⊢; exact ak_congr e
   ·rw [if_neg g1] at e ⊢
    by_cases g2:l < t∧t≤k
    ·rw [if_pos g2] at e ⊢; exact ak_congr e
    ·rw [if_neg g2] at e ⊢; exact ak_congr e
  intro i j hij hj
  rw [eb,eb]
  by_cases i1:i = l
  ·rw [if_pos i1]
   by_cases j1:j = l
   ·rw [if_pos j1]; exact Int.le_refl _
   ·rw [if_neg j1,if_pos ⟨by grind,by grind⟩]
    exact Int.le_of_lt (l3 (j - 1) (by grind) (by grind))
  ·rw [if_neg i1]
   by_cases i2:l < i∧i≤k
   ·rw [if_pos i2,if_neg (by grind),if_pos ⟨by grind,by grind⟩]
    exact hs _ _ (by grind) (by grind)
   ·rw [if_neg i2]
    by_cases j1:j = l
    ·rw [if_pos j1]; exact l2 i (by grind)
    ·rw [if_neg j1]
     by_cases j2:l < j∧j≤k
     ·rw [if_pos j2]; exact hs _ _ (by grind) (by grind)
     ·rw [if_neg j2]; exact hs _ _ hij (by grind)
theorem k_sort (hc:CmpOk cmp n z s) (hn:1≤n) {Q:Array Nat→Shared→Prop} (h:∀ p,Pm n p→SorP z p n→Q p s):(kas_sort n).kasWp cmp Q s:=by
 unfold kas_sort
 rw [KasT.kasWp_bind]
 refine k_count hc (Array.Perm.refl _) hn fun r p hp h1 h2 hs => ?_
 show (if r < n then kas_bin (n - max r 1) p (max r 1) else .ret p).kasWp cmp Q s
 have e:max r 1 = r:=by grind
 by_cases hr:r < n
 ·rw [if_pos hr,e]
  exact k_bin hc _ p r (by grind) hp hs h
 ·rw [if_neg hr]
  have:r = n:=by grind
  subst this
  exact h p hp hs
end
end L3
namespace L3
open PySem PySem.Spec PySem.W PyProof.Rows
section
variable {prog:Program} {w:World} {A:Around} {E:Value→Shared→Prop} {s:Shared}
structure SortJ (prog:Program) (w:World) (A:Around) (s:Shared) (vs:List Value) (f:Value) (z:Nat→Int) (Q:Value→Shared→Prop) (D kS:Addr) (J:Nat→List Value→Nat→Shared→Prop):Prop where
 start:∀ e1 h',(∀ b o,s.heap.get? b = some o→h'.get? b = some o)→h'.get? D = some (seqObj "list" #[] e1)→h'.get? kS = some (seqObj "list" #[] 0)→J e1 [] 0 { s with heap:=h' }
 stand:∀ e1 ks e s1,J e1 ks e s1→s1.heap.get? kS = some (seqObj "list" (List.toArray ks) e)∧s1.heap.get? D = some (seqObj "list" #[] e1)
 turn:∀ e1 ks e s1 x,J e1 ks e s1→vs[ks.length]? = some x→wpAny (model prog w) A (call f [x]) (fun k s2 => s2.heap.get? kS = some (seqObj "list" (List.toArray ks) e) ∧
  ∀ c h',Heap.SameBut kS s2.heap h'→h'.get? kS = some (seqObj "list" (List.toArray (ks++[k])) c)→J e1 (ks++[k]) c { s2 with heap:=h' }) (fun _ _ => False) s1
 order:∀ e1 ks e s1,J e1 ks e s1→ks.length = vs.length→2≤vs.length→wpAny (model prog w) A (keyKind' (List.toArray ks)) (fun κ s2 => s2 = s1∧CmpOk (kas_ask prog w A κ ks) vs.length z s1) (fun _ _ => False) s1
 fin:∀ e1 ks e s1 (p:Array Nat),J e1 ks e s1→ks.length = vs.length→Pm vs.length p→SorP z p vs.length→∀ h' c,(∀ b o,b≠kS→b≠D→s1.heap.get? b = some o→h'.get? b = some o) →
  h'.get? D = some (seqObj "list" (List.toArray (p.toList.map fun i => vs.getD i Value.none)) c)→Q (.ref D) { s1 with heap:=h' }
theorem sort_tail {D kS:Addr} {ks:List Value} {e e1:Nat} {st:SortSt} {out:List Value} {P:PySem.Fin→Shared→Prop} (hk:s.heap.get? kS = some (seqObj "list" (List.toArray ks) e)) (hD:s.heap.get? D = some (seqObj "list" #[] e1)) (ne:D≠kS)
  (ho:(arrOf st).map (·.2) = List.toArray out) (hf:failedOf st = none) (h1:ks.length < 64) (h2:out.length < 64)
  (h:∀ h' c,(∀ b o,b≠kS→b≠D→s.heap.get? b = some o→h'.get? b = some o)→h'.get? D = some (seqObj "list" (List.toArray out) c)→P (.done (.ret .none)) { s with heap:=h' }):wpAny (model prog w) A (ksk_tail D false e1 (.ref kS) st) P E s:=by
 have s1:=Heap.SameBut.update s.heap kS (Obj.mapSeq fun _ => (#[]:Array Value))
 have hD1:(s.heap.update kS (Obj.mapSeq fun _ => (#[]:Array Value))).get? D = some (seqObj "list" #[] e1):=(s1.2 D ne).trans hD
 have s2:=Heap.SameBut.update (s.heap.update kS (Obj.mapSeq fun _ => (#[]:Array Value))) D (Obj.mapSeq fun _ => List.toArray out)
 unfold ksk_tail
 dsimp only
 rw [ho]
 refine wpAny_bind (listUpdate_at hk rfl (wpAny_bind (wpAny_letGo (wpAny_bind (seqEpoch_at hD1 rfl (wpAny_bind (listUpdate_at hD1 rfl ?_ (Nat.zero_le _) ?_)))))) ?_ (Nat.zero_le _))
 ·rw [hf]
  simp only [bne_self_eq_false,Bool.false_eq_true,if_false]
  exact wpAny_pure (h _ _ (fun b o n1 n2 q => (s2.2 b n2).trans ((s1.2 b n1).trans q)) (get?_update_seq hD1 fun _ => List.toArray out))
 ·simp only [Bool.false_eq_true,if_false,List.size_toArray]
  rw [sizeLine_eq]; grind
 ·rw [List.size_toArray,sizeLine_eq]; grind
theorem sort_end {D kS:Addr} {J:Nat→List Value→Nat→Shared→Prop} {s0:Shared} {vs ks:List Value} {f:Value} {z:Nat→Int} {Q:Value→Shared→Prop} {e e1:Nat} {P:PySem.Fin→Shared→Prop} (T:SortJ prog w A s0 vs f z Q D kS J) (ne:D≠kS) (h64:vs.length < 64)
  (hJ:J e1 ks e s) (hl:ks.length = vs.length) (hP:∀ s',Q (.ref D) s'→P (.done (.ret .none)) s'):wpAny (model prog w) A (ksk_end D false vs.toArray e1 (.ref kS) (List.toArray ks)) P E s:=by
 obtain ⟨hk,hD⟩:=T.stand _ _ _ _ hJ
 unfold ksk_end
 dsimp only
 simp only [Bool.false_eq_true,if_false]
 by_cases h2:vs.toArray.size < 2
 ·rw [if_pos h2,if_pos h2]
  rw [List.size_toArray] at h2
  refine wpAny_bind (wpAny_pure ?_)
  rw [StateT.run_pure]
  refine wpAny_bind (wpAny_pure ?_)
  have hz:(List.range vs.length).map (fun i => vs.getD i Value.none) = vs:=by
   apply List.ext_getElem?
   intro i
   rw [List.getElem?_map]
   by_cases hi:i < vs.length
   ·rw [List.getElem?_range hi,List.getElem?_eq_getElem hi]
    simp [hi]
   ·rw [List.getElem?_eq_none (by simpa using hi),List.getElem?_eq_none (by simpa using hi)]; rfl
  refine sort_tail (out:=vs) hk hD ne ?_ rfl (by grind) h64 fun h' c g1 g2 => hP _ (T.fin e1 ks e s (List.toArray (List.range vs.length)) hJ hl (Array.Perm.refl _) ?_ h' c g1 ?_)
  ·show Array.map (·.2) ((List.toArray ks).zip vs.toArray) = vs.toArray
   apply Array.toList_inj.mp
   simp only [Array.toList_map,Array.toList_zip]
   exact List.map_snd_zip (by grind)
  ·intro i j hij hj
   have:i = j:=by grind
   subst this; exact Int.le_refl _
  ·rw [g2]
   simp only [List.toList_toArray] at hz ⊢
   rw [hz]
 ·rw [if_neg h2,if_neg h2]
  rw [List.size_toArray] at h2
  refine wpAny_bind (wpAny_mono (T.order _ _ _ _ hJ hl (by grind)) (fun κ s2 hk2 => ?_) fun _ _ x => x.elim)
  obtain ⟨rfl,hc⟩:=hk2
  refine wpAny_bind (wpAny_mono (kat_run (Q:=fun st' s' => s' = s2∧∃ p:Array Nat,Pm vs.length p∧SorP z p vs.length∧arrOf st' = p.map (kas_item ((List.toArray ks).zip vs.toArray))∧failedOf st' = none) (G:=fun p s' => s' = s2∧Pm vs.length p∧SorP z p vs.length)
   hl (by grind) h64 (fun p st' s' a1 a2 a3 a4 => ⟨a4.1,p,a4.2.1,a4.2.2,a2,a3⟩) (k_sort hc (by grind) fun p g1 g2 => ⟨rfl,g1,g2⟩)) ?_ fun _ _ x => x)
  rintro ⟨⟨⟩,st'⟩ s' ⟨rfl,p,pm,so,har,hf⟩
  dsimp only
  refine sort_tail hk hD ne (kat_snds hl har) hf (by grind) ?_ fun h' c g1 g2 => hP _ (T.fin e1 ks e _ p hJ hl pm so h' c g1 g2)
  rw [List.length_map,Array.length_toList,pm.size]; exact h64
theorem sort_tree {D:Addr} {vs:List Value} {f:Value} {z:Nat→Int} {Q:Value→Shared→Prop} {s0:Shared} {n:Nat} {P:PySem.Fin→Shared→Prop} (hD:s.heap.get? D = some (seqObj "list" vs.toArray n)) (h64:vs.length < 64)
  (kp:∀ b o,s0.heap.get? b = some o→s.heap.get? b = some o∧b≠D) (hs:∃ h,s = { s0 with heap:=h })
  (T:∀ kS,s.heap.objs.size≤kS→∃ J,SortJ prog w A s0 vs f z Q D kS J) (hP:∀ s',Q (.ref D) s'→P (.done (.ret .none)) s'):wpAny (model prog w) A (ksk_tree D f false) P E s:=by
 have s1:=Heap.SameBut.update s.heap D (Obj.mapSeq fun _ => (#[]:Array Value))
 obtain ⟨e1,hD1⟩:∃ e1,(s.heap.update D (Obj.mapSeq fun _ => (#[]:Array Value))).get? D = some (seqObj "list" #[] e1):=⟨_,get?_update_seq hD fun _ => #[]⟩
 have hz:(((s.heap.update D (Obj.mapSeq fun _ => (#[]:Array Value))).push (seqObj "tuple" vs.toArray 0))).objs.size = s.heap.objs.size + 1:=by rw [size_push',Heap.size_update]
 have hlt:D < s.heap.objs.size:=Heap.lt_size hD
 have hne:D≠(((s.heap.update D (Obj.mapSeq fun _ => (#[]:Array Value))).push (seqObj "tuple" vs.toArray 0))).objs.size:=Nat.ne_of_lt (by rw [hz]; exact Nat.lt_succ_of_lt hlt)
 obtain ⟨J,T⟩:=T (((s.heap.update D (Obj.mapSeq fun _ => (#[]:Array Value))).push (seqObj "tuple" vs.toArray 0))).objs.size (by rw [hz]; exact Nat.le_succ _)
 unfold ksk_tree
 refine wpAny_bind (listItems_at hD rfl (wpAny_bind (listUpdate_at hD rfl (wpAny_bind (seqEpoch_at hD1 rfl (wpAny_bind (wpAny_newTuple (wpAny_bind (wpAny_newList (wpAny_holding ?_) (Nat.zero_le _))) ?_)))) ?_ (Nat.zero_le _))))
 ·unfold ksk_rest
  obtain ⟨h0,rfl⟩:=hs
  have J0:=T.start e1 ((((h0.update D (Obj.mapSeq fun _ => (#[]:Array Value))).push (seqObj "tuple" vs.toArray 0))).push (seqObj "list" #[] 0)) (fun b o q => Heap.get?_push_of_some _ (Heap.get?_push_of_some _ ((s1.2 b (kp b o q).2).trans (kp b o q).1))) (Heap.get?_push_of_some _ (Heap.get?_push_of_some _ hD1)) (Heap.get?_push_size _ rfl)
  refine wpAny_bind (wpAny_rule ?_)
  rw [List.forIn_toArray]
  refine wpAny_bind (ksk_fold (fun i s' => ∃ ks e,ks.length = i∧J e1 ks e s') vs 0 _ ⟨[],0,rfl,J0⟩ (fun j x s' hx hI => ?_) fun s' hI => ?_)
  ·obtain ⟨ks,e,hl,hJ⟩:=hI
   have hj:ks.length = j:=by grind
   have hjl:j < vs.length:=(List.getElem?_eq_some_iff.mp hx).1
   refine wpAny_bind (wpAny_attempt (wpAny_mono (T.turn _ _ _ _ x hJ (by rw [hj]; exact hx)) (fun k s2 hk => ?_) fun _ _ hF => hF.elim))
   obtain ⟨hk,fin⟩:=hk
   dsimp only
   refine wpAny_bind (listUpdate_at hk rfl ?_ ?_ ?_)
   ·have hu:=get?_update_seq hk (·.push k)
    rw [show (List.toArray ks).push k = List.toArray (ks++[k]) by simp] at hu
    exact wpAny_pure ⟨rfl,ks++[k],_,by simp; grind,fin _ _ (Heap.SameBut.update ..) hu⟩
   ·rw [List.size_toArray,sizeLine_eq]; grind
   ·rw [Array.size_push,List.size_toArray,sizeLine_eq]; grind
  ·obtain ⟨ks,e,hl,hJ⟩:=hI
   have hl':ks.length = vs.length:=by grind
   dsimp only
   refine wpAny_bind (listItems_at (T.stand _ _ _ _ hJ).1 rfl ?_)
   exact sort_end T hne h64 hJ hl' hP
 ·show vs.length≤_; rw [sizeLine_eq]; grind
 ·rw [List.size_toArray,sizeLine_eq]; grind
theorem sort_call {l q:Addr} {vs:List Value} {z:Nat→Int} {Q:Value→Shared→Prop} (hl:s.heap.IsList l vs.toArray) (h64:vs.length < 64)
  (T:∀ D kS,s.heap.objs.size≤D→D < kS→∃ J,SortJ prog w A.in1.in1 s vs (.ref q) z Q D kS J):wpAny (model prog w) A (call (.builtin "sorted") [.ref l] [(Str.ofString "key",.ref q)]) Q E s:=by
 refine call_function_entry_kw kind_sorted plain_sorted entry_sorted (ksk_s1 _ _) ?_
 unfold Builtin.«sorted»
 have hz:((s.heap.push (seqObj "list" #[] 0)).update s.heap.objs.size (Obj.mapSeq (·++vs.toArray))).objs.size = s.heap.objs.size + 1:=(Heap.size_update ..).trans (size_push' ..)
 refine wpAny_bind (m:=checkCount "sorted" 1 1 _) (wpAny_pure (wpAny_bind (collect_list hl (wpAny_bind (wpAny_newList ?_ ?_)) ?_)))
 ·have kp:∀ b o,s.heap.get? b = some o→(((s.heap.push (seqObj "list" #[] 0)).update s.heap.objs.size (Obj.mapSeq (·++vs.toArray))).push (seqObj "list" vs.toArray 0)).get? b = some o:=fun b o q => by
   have hb:b < s.heap.objs.size:=Heap.lt_size q
   rw [Heap.get?_push_ne _ _ _ (by rw [hz]; exact Nat.ne_of_lt (Nat.lt_succ_of_lt hb)),Heap.get?_update_ne _ _ _ _ (Nat.ne_of_lt hb),Heap.get?_push_ne _ _ _ (Nat.ne_of_lt hb)]
   exact q
  have hD:(((s.heap.push (seqObj "list" #[] 0)).update s.heap.objs.size (Obj.mapSeq (·++vs.toArray))).push (seqObj "list" vs.toArray 0)).get? ((s.heap.push (seqObj "list" #[] 0)).update s.heap.objs.size (Obj.mapSeq (·++vs.toArray))).objs.size = some (seqObj "list" vs.toArray 0):=Heap.get?_push_size _ rfl
  refine wpAny_bind (wpAny_holding (wpAny_call_entry_kw slot_list_sort ⟨_,hD,rfl⟩ entry_list_sort ?_ (ksk_l1 _ _)))
  refine sort_tree (s0:=s) (Q:=Q) hD h64 (fun b o q => ⟨kp b o q,Nat.ne_of_lt (by rw [hz]; exact Nat.lt_succ_of_lt (Heap.lt_size q))⟩) ⟨_,rfl⟩ (fun kS hk => T _ kS (by rw [hz]; exact Nat.le_succ _) (Nat.lt_of_lt_of_le (Heap.lt_size hD) hk)) fun s' hq => ⟨_,rfl,wpAny_pure ⟨_,rfl,hq⟩⟩
 ·rw [sizeLine_eq]; grind
 ·rw [sizeLine_eq]; grind
end
end L3
namespace L3
open PySem PySem.Spec PyProof.Rows L2
noncomputable def Cx.in2 (X:Cx):Cx:={ X with A:=X.A.in1.in1,xe:=fun _ _ => False }
theorem Ok.in2 {X:Cx} (k:X.Ok):(Cx.in2 X).Ok:=⟨k.mod,k.kind,k.glob,k.blt,k.above,k.inj,k.has,k.cab,k.hd,k.frames,k.stk,k.exf,k.bs,k.bsz,k.noex,k.exfs,k.funs,k.frf⟩
section
variable {X:Cx} {pins:List (Addr×Obj)} {σ:St} {H H':Hp} {s:Shared}
theorem Inv.in2 (I:Inv X pins σ H s):Inv (Cx.in2 X) pins σ H s:=⟨Ok.in2 I.ok,I.os,I.bare,I.base,I.loc,I.cell,I.free,I.freeC,I.pin,I.hok,I.len⟩
theorem Inv.out2 (k:X.Ok) (I:Inv (Cx.in2 X) pins σ H s):Inv X pins σ H s:=⟨k,I.os,I.bare,I.base,I.loc,I.cell,I.free,I.freeC,I.pin,I.hok,I.len⟩
theorem Inv.adopt {D kS:Addr} {xs:List V} {its:List Value} {n:Nat} {h':Heap} (I:Inv X pins σ H s) (fD:FpOk X pins H D) (fk:FpOk X pins H kS) (g:∀ b o,b≠kS→b≠D→s.heap.get? b = some o→h'.get? b = some o)
  (hD:h'.get? D = some (seqObj "list" its.toArray n)) (hv:Vals xs its) (hz:xs.length≤sizeLine):Inv X pins σ (upd H D (.lst xs)) { s with heap:=h' }:=by
 have nD:∀ b u,H b = some u→b≠D:=fun b u e z => by rw [z,fD.1] at e; cases e
 have nK:∀ b u,H b = some u→b≠kS:=fun b u e z => by rw [z,fk.1] at e; cases e
 have out:∀ b,b∉[kS,D]→b≠kS∧b≠D:=fun b hb => ⟨fun z => hb (by simp [z]),fun z => hb (by simp [z])⟩
 refine I.step (g':=s.gens) (d':=s.drawn) (t':=s.toks) (ch:=[kS,D]) (fun b hb => ?_) (fun b o _ _ hc e _ => g b o (out b hc).1 (out b hc).2 e) (fun b o _ _ hc e _ => ⟨o.slots,g b o (out b hc).1 (out b hc).2 e⟩) (fun b o hc _ z => by rw [upd_ne (out b hc).2]; exact z) ?_
  (fun b ys e => by rw [upd_ne (nD b _ e)]; exact e) (fun b o u e => by rw [upd_ne (nD b _ e)]; exact e) (fun b ps e => ⟨#[],by rw [upd_ne (nD b _ e),e]; simp⟩) (fun m hm => ?_) (fun b u e => ?_) I.bare
 ·rcases List.mem_cons.mp hb with z | hb
  ·rw [z]; exact ⟨fk.2.2.2.1,fk.2.1,fk.2.2.2.2.1,fk.2.2.2.2.2⟩
  ·rw [List.mem_singleton.mp hb]; exact ⟨fD.2.2.2.1,fD.2.1,fD.2.2.2.2.1,fD.2.2.2.2.2⟩
 ·exact fun b o hc e => ⟨o,g b o (out b hc).1 (out b hc).2 e⟩
 ·obtain ⟨o,es,ep,ho,r⟩:=hm
  exact ⟨o,es,ep,g _ o (Ne.symm fk.2.1) (Ne.symm fD.2.1) ho,r⟩
 ·by_cases hb:b = D
  ·subst hb
   rw [upd_same] at e
   cases e
   exact ⟨hz,its,n,hv,hD⟩
  ·rw [upd_ne hb] at e
   refine (I.hok b u e).stay (fun c v hc q => ?_) (fun c q => by rw [upd_ne (nD c _ q)]; exact q) fun c ys q => by rw [upd_ne (nD c _ q)]; exact q
   rcases hc with z | z
   ·exact g c v (by rw [z]; exact nK b u e) (by rw [z]; exact hb) q
   ·exact g c v (nK c _ z) (nD c _ z) q
end
noncomputable def Keys (K:PySem.W.Frag) (H:Hp):List Pt→List Value→Prop:=Paired fun c k => ∃ a,k = .ref a∧SqT K H a [.int c.2,.int c.1]
theorem Keys.mono {K:PySem.W.Frag} {H H':Hp} (t:TK H H') {cs:List Pt} {ks:List Value} (h:Keys K H cs ks):Keys K H' cs ks:=Paired.mapP h fun _ _ ⟨a,e,q⟩ => ⟨a,e,t.sqT q⟩
theorem Paired.snoc {α β:Type} {R:α→β→Prop} {as:List α} {bs:List β} {a:α} {b:β} (t:Paired R as bs) (h:R a b):Paired R (as++[a]) (bs++[b]):=by
 induction t with
 | nil => exact .cons h .nil
 | cons r _ ih => exact .cons r ih
theorem Paired.at {α β:Type} {R:α→β→Prop}:∀ {as:List α} {bs:List β} {i:Nat} {a:α},Paired R as bs→as[i]? = some a→∃ b,bs[i]? = some b∧R a b
 | _,_,_,_,.nil,e => by simp at e
 | _,_,0,_,.cons r _,e => by simp at e; subst e; exact ⟨_,rfl,r⟩
 | _,_,i + 1,a,.cons _ t,e => by
  obtain ⟨b,h1,h2⟩:=Paired.at (i:=i) (a:=a) t (by simpa using e)
  exact ⟨b,by simpa using h1,h2⟩
section
variable {X:Cx}
theorem key_read {pins:List (Addr×Obj)} {σ:St} {H:Hp} {s:Shared} (I:Inv X pins σ H s) {a:Addr} {y x:Int} (h:SqT X.K H a [.int y,.int x]):∃ o n t u,s.heap.get? a = some o∧o.cls = .type "tuple"∧o.data = .seq #[.int y t,.int x u] n:=by
 obtain ⟨its,rv,⟨o,e,c,n,d⟩,_⟩:=I.tuple h
 obtain ⟨u,v,rfl,⟨t,rfl⟩,⟨t',rfl⟩⟩:=vals2 rv
 exact ⟨o,n,t,t',e,c,by simpa using d⟩
theorem keys_tups {pins:List (Addr×Obj)} {σ:St} {H:Hp} {s:Shared} (I:Inv X pins σ H s):∀ {cs:List Pt} {ks:List Value},Keys X.K H cs ks→∃ fs,PySem.W.KatTups s.heap ks fs∧fs.length = ks.length∧∀ v∈fs,∃ i t,v = Value.int i t:=by
 intro cs ks h
 induction h with
 | nil => exact ⟨[],trivial,rfl,fun _ h => nomatch h⟩
 | cons r t ih =>
  obtain ⟨a,rfl,q⟩:=r
  obtain ⟨o,n,t1,t2,e,c,d⟩:=key_read I q
  obtain ⟨fs,h1,h2,h3⟩:=ih
  refine ⟨_::fs,.cons e c d rfl h1,congrArg (· + 1) h2,fun v hv => ?_⟩
  rcases List.mem_cons.mp hv with rfl | hv
  ·exact ⟨_,_,rfl⟩
  ·exact h3 v hv
theorem keys_ask {pins:List (Addr×Obj)} {σ:St} {H:Hp} {s:Shared} {A:Around} {E:Value→Shared→Prop} (I:Inv X pins σ H s) {a b:Addr} {c d:Pt} {C:Bool→Shared→Prop} (ha:SqT X.K H a [.int c.2,.int c.1]) (hb:SqT X.K H b [.int d.2,.int d.1]) (h:C (ltc d c) s) :
  wpAny (model X.prog X.w) A (keyLt' (tuples' true) (.ref a) (.ref b)) C E s:=by
 obtain ⟨oa,na,t1,t2,ea,_,da⟩:=key_read I ha
 obtain ⟨ob,nb,u1,u2,eb,_,db⟩:=key_read I hb
 refine PySem.W.kat_lt ea da eb db (PySem.W.kat_cons (wpAny_eqBool_int ?_))
 have e0:ltc d c = if c.2 = d.2 then (if c.1 = d.1 then false else decide (c.1 < d.1)) else decide (c.2 < d.2):=rfl
 by_cases h1:c.2 = d.2
 ·rw [show (c.2 == d.2) = true by simp [h1]]
  rw [e0,if_pos h1] at h
  refine PySem.W.kat_yes (PySem.W.kat_cons (wpAny_eqBool_int ?_))
  by_cases h2:c.1 = d.1
  ·rw [show (c.1 == d.1) = true by simp [h2]]
   rw [if_pos h2] at h
   exact PySem.W.kat_yes (PySem.W.kat_nil h)
  ·rw [show (c.1 == d.1) = false by simp [h2]]
   rw [if_neg h2] at h
   exact PySem.W.kat_no (PySem.W.kat_one _ _ (lt_int h))
 ·rw [show (c.2 == d.2) = false by simp [h1]]
  rw [e0,if_neg h1] at h
  exact PySem.W.kat_no (oneLt_int h)
end
theorem map_range_getD {α:Type} (xs:List α) (d:α):(List.range xs.length).map (fun i => xs.getD i d) = xs:=by
 apply List.ext_getElem?
 intro i
 rw [List.getElem?_map]
 by_cases hi:i < xs.length
 ·rw [List.getElem?_range hi,List.getElem?_eq_getElem hi]
  simp [hi]
 ·rw [List.getElem?_eq_none (by simpa using hi),List.getElem?_eq_none (by simpa using hi)]; rfl
theorem vals_pick {vs:List V} {its:List Value} (rv:Vals vs its):∀ {l:List Nat},(∀ i∈l,i < vs.length)→Vals (l.map fun i => vs.getD i .non) (l.map fun i => its.getD i Value.none)
 | [],_ => .nil
 | i::l,h => by
  have hi:=h i (by simp)
  obtain ⟨u,hu,r⟩:=rv.get (List.getElem?_eq_getElem hi)
  refine .cons ?_ (vals_pick rv fun j hj => h j (by simp [hj]))
  have e1:vs.getD i .non = vs[i]:=by simp [hi]
  have e2:its.getD i Value.none = u:=by rw [List.getD_eq_getElem?_getD,hu]; rfl
  show RelV (vs.getD i .non) (its.getD i Value.none)
  rw [e1,e2]; exact r
theorem rep_pick {K:PySem.W.Frag} {H:Hp} {ps:List Pt} {vs:List V} (ra:RepL K H (ps.map prP) vs):∀ {l:List Nat},(∀ i∈l,i < ps.length)→RepL K H ((l.map fun i => ps.getD i (0,0)).map prP) (l.map fun i => vs.getD i .non)
 | [],_ => .nil
 | i::l,h => by
  have hi:=h i (by simp)
  obtain ⟨v,hv,r⟩:=ra.get (i:=i) (d:=prP ps[i]) (by rw [List.getElem?_map,List.getElem?_eq_getElem hi]; rfl)
  refine .cons ?_ (rep_pick ra fun j hj => h j (by simp [hj]))
  have e1:ps.getD i (0,0) = ps[i]:=by simp [hi]
  have e2:vs.getD i .non = v:=by rw [List.getD_eq_getElem?_getD,hv]; rfl
  show Rep K H (prP (ps.getD i (0,0))) (vs.getD i .non)
  rw [e1,e2]; exact r
theorem sorted_pick {M:Int} {ps:List Pt} {p:Array Nat} (hM:∀ c∈ps,-M≤c.1∧c.1≤M) (pm:Pm ps.length p) (so:SorP (fun i => zc M (ps.getD i (0,0))) p ps.length):isort ps = p.toList.map fun i => ps.getD i (0,0):=by
 have hmem:∀ i,i < ps.length→ps.getD i (0,0)∈ps:=fun i hi => by rw [show ps.getD i (0,0) = ps[i] by simp [hi]]; exact List.getElem_mem hi
 refine isort_of ?_ ?_
 ·have h1:p.toList.Perm (List.range ps.length):=by have:=Array.Perm.toList pm; simpa using this
  have h2:=h1.map fun i => ps.getD i (0,0)
  rw [map_range_getD] at h2
  exact h2
 ·rw [List.pairwise_iff_getElem]
  intro i j hi hj hij
  have hsz:=pm.size
  rw [List.length_map,Array.length_toList,hsz] at hi hj
  have key:∀ t,t < ps.length→∀ h,(p.toList.map fun i => ps.getD i (0,0))[t]'h = ps.getD (p.getD t 0) (0,0):=fun t ht h => by
   rw [List.getElem_map]
   have:p.toList[t]'(by simpa [hsz] using ht) = p.getD t 0:=by simp [Array.getD,hsz,ht]
   rw [this]
  rw [key i hi,key j hj]
  have h1:=so i j (Nat.le_of_lt hij) hj
  unfold leP
  rw [zc_lt (hM _ (hmem _ (pm.lt hi))) (hM _ (hmem _ (pm.lt hj)))]
  exact decide_eq_false (Int.not_lt.mpr h1)
section
variable {X:Cx} {pins:List (Addr×Obj)} {σ:St} {H:Hp} {s:Shared}
theorem sort_runG (I:Inv X pins σ H s) {f a:Addr} {vs:List V} {ps:List Pt} {H3:Hp3}
  (ga:H a = some (.lst vs)) (ra:RepL X.K H (ps.map prP) vs) (hr3:HR X.K H3 H) (h64:ps.length < 64) {Q:VK}
  (call1:∀ (pins:List (Addr×Obj)) (H':Hp) (s:Shared) (c:Pt) (v:V) (u:Value),TK H H'→HR X.K H3 H'→Inv (Cx.in2 X) pins σ H' s→Rep X.K H' (prP c) v→RelV v u →
   wpAny (model X.prog X.w) (Cx.in2 X).A (call (.ref f) [u]) (EP (Cx.in2 X) pins σ fun v H'' => TK H' H''∧HR X.K H3 H''∧Rep X.K H'' (.tup [.int c.2,.int c.1]) v) (fun _ _ => False) s)
  (hQ:∀ (D:Addr) (H'':Hp),TK H H''→HR X.K (upd3 H3 D (.lst ((isort ps).map prP))) H''→H3 D = none→Q (.ref D) H'') :
  wpAny (model X.prog X.w) X.A (call (.builtin "sorted") [.ref a] [(Str.ofString "key",.ref f)]) (EP X pins σ Q) X.xe s:=by
 obtain ⟨its,rv,pl,_⟩:=I.list (SqL.of ga)
 have hv:vs.length = ps.length:=by rw [← ra.length,List.length_map]
 have hn:its.length = ps.length:=by rw [← rv.length]; exact hv
 obtain ⟨M,hM0,hM⟩:=bound_ex ps
 refine sort_call (z:=fun i => zc M (ps.getD i (0,0))) pl.isList (by grind) fun D kS hD hk => ?_
 have hK:s.heap.objs.size≤kS:=Nat.le_trans hD (Nat.le_of_lt hk)
 have nD:H D = none:=I.hok.fresh hD
 have nK:H kS = none:=I.hok.fresh hK
 have fD:=(Inv.in2 I).fpOk (H':=H) hD nD
 have fk:=(Inv.in2 I).fpOk (H':=H) hK nK
 have nc:∀ (xs:Array Value) (e:Nat) (v:Option Value),(seqObj "list" xs e).data≠.cell v:=fun _ _ _ z => by cases z
 refine ⟨fun e1 ks e s' => ∃ H',Inv (Cx.in2 X) (pins++[(D,seqObj "list" #[] e1)]) σ H' s'∧s'.heap.get? kS = some (seqObj "list" (List.toArray ks) e)∧H' kS = none∧TK H H'∧HR X.K H3 H'∧Keys X.K H' (ps.take ks.length) ks,?_⟩
 constructor
 ·intro e1 h' kp hD' hk'
  have I2:=(Inv.in2 I).kept (t':=s.toks) kp
  refine ⟨H,I2.pins_of fun p hp => ?_,hk',nK,TK.refl,hr3,.nil⟩
  rcases List.mem_append.mp hp with hp | hp
  ·exact I2.pin p (List.mem_append_right _ hp)
  ·rw [List.mem_singleton.mp hp]
   exact ⟨hD',nD,fD.2.1,fD.2.2.1,nc _ _⟩
 ·rintro e1 ks e s1 ⟨H',J,h1,_⟩
  exact ⟨h1,(J.pin (D,seqObj "list" #[] e1) (by simp)).1⟩
 ·rintro e1 ks e s1 x ⟨H',J,hk1,nk1,tk,hr',kr⟩ hx
  have hi:ks.length < ps.length:=by have:=(List.getElem?_eq_some_iff.mp hx).1; grind
  have hc:ps[ks.length]? = some ps[ks.length]:=List.getElem?_eq_getElem hi
  generalize ps[ks.length] = c at hc
  obtain ⟨v,hv1,rep⟩:=ra.get (i:=ks.length) (d:=prP c) (by rw [List.getElem?_map,hc]; rfl)
  obtain ⟨u,hu,rx⟩:=rv.get hv1
  rw [hx] at hu
  cases hu
  have J2:Inv (Cx.in2 X) (pins++[(D,seqObj "list" #[] e1),(kS,seqObj "list" (List.toArray ks) e)]) σ H' s1:=J.pins_of fun p hp => by
   rcases List.mem_append.mp hp with hp | hp
   ·exact J.pin p (by simp [hp])
   ·rcases List.mem_cons.mp hp with rfl | hp
    ·exact J.pin _ (by simp)
    ·rw [List.mem_singleton.mp hp]
     exact ⟨hk1,nk1,fk.2.1,fk.2.2.1,nc _ _⟩
  refine wpAny_mono (call1 _ H' s1 c v x tk hr' J2 (rep.mono tk) rx) (fun k s2 hk2 => ?_) fun _ _ z => z
  ·obtain ⟨v',H'',J3,rk,tk',hr'',rep'⟩:=hk2
   cases rep' with
   | tup sq rl =>
    cases rk
    have ex:=RepL.ints_inv (ns:=[c.2,c.1]) rl
    subst ex
    have pk:=J3.pin (kS,seqObj "list" (List.toArray ks) e) (by simp)
    refine ⟨pk.1,fun c' h' sb hk' => ⟨H'',?_,hk',pk.2.1,tk.trans tk',hr'',?_⟩⟩
    ·refine (J3.pins_of (pins':=pins++[(D,seqObj "list" #[] e1)]) fun p hp => J3.pin p ?_).turned (it:=kS) (t':=s2.toks) (fun b o hb e => (sb.2 b hb).trans e) pk.2.1 fk.2.1 fk.2.2.2.1 fk.2.2.2.2.1 fun p hp => ?_
     ·rcases List.mem_append.mp hp with hp | hp
      ·simp [hp]
      ·rw [List.mem_singleton.mp hp]; simp
     ·rcases List.mem_append.mp hp with hp | hp
      ·exact fk.2.2.2.2.2 p (List.mem_append_left _ hp)
      ·rcases List.mem_append.mp hp with hp | hp
       ·exact fk.2.2.2.2.2 p (List.mem_append_right _ hp)
       ·rw [List.mem_singleton.mp hp]; exact Nat.ne_of_lt hk
    ·rw [List.length_append,List.length_singleton,List.take_add_one,hc]
     exact Paired.snoc (Keys.mono tk' kr) ⟨_,rfl,SqT.of sq⟩
 ·rintro e1 ks e s1 ⟨H',J,hk1,nk1,tk,hr',kr⟩ hl h2
  rw [List.take_of_length_le (by grind)] at kr
  obtain ⟨fs,t1,t2,t3⟩:=keys_tups J kr
  refine PySem.W.kat_kind (T:=.type "int") t1 (by grind) (fun v hv => ?_) (by decide) ⟨rfl,?_⟩
  ·obtain ⟨i,t,rfl⟩:=t3 v hv
   exact PySem.W.Looks.now
  ·intro i j C hi hj hC
   have hi':i < ps.length:=by grind
   have hj':j < ps.length:=by grind
   obtain ⟨ki,ei,ai,rfl,qi⟩:=Paired.at kr (List.getElem?_eq_getElem hi')
   obtain ⟨kj,ej,aj,rfl,qj⟩:=Paired.at kr (List.getElem?_eq_getElem hj')
   unfold PySem.W.kas_ask
   rw [show ks.getD i Value.none = .ref ai by rw [List.getD_eq_getElem?_getD,ei]; rfl,show ks.getD j Value.none = .ref aj by rw [List.getD_eq_getElem?_getD,ej]; rfl]
   refine keys_ask J qi qj ?_
   rw [zc_lt (hM _ (List.getElem_mem hj')) (hM _ (List.getElem_mem hi'))]
   have e1:ps.getD i (0,0) = ps[i]:=by simp [hi']
   have e2:ps.getD j (0,0) = ps[j]:=by simp [hj']
   have hC':C (decide (zc M (ps.getD i (0,0)) < zc M (ps.getD j (0,0)))) s1:=hC
   rw [e1,e2] at hC'
   exact hC'
 ·rintro e1 ks e s1 p ⟨H',J,hk1,nk1,tk,hr',kr⟩ hl pm so h' c g hD'
  have pD:=J.pin (D,seqObj "list" #[] e1) (by simp)
  have nD':H' D = none:=pD.2.1
  rw [hn] at pm so
  have hlt:∀ i∈p.toList,i < ps.length:=fun i hi => by
   have h1:p.toList.Perm (List.range ps.length):=by have:=Array.Perm.toList pm; simpa using this
   simpa using h1.mem_iff.mp hi
  have hvals:=vals_pick rv (l:=p.toList) fun i hi => by rw [hv]; exact hlt i hi
  have J':=Inv.adopt (J.pins_of (pins':=pins) fun q hq => J.pin q (by simp [hq])) ⟨nD',fD.2⟩ ⟨nk1,fk.2⟩ g hD' hvals (by rw [List.length_map,Array.length_toList,pm.size,sizeLine_eq]; grind)
  refine ⟨.ref D,_,Inv.out2 I.ok J',rfl,hQ D _ (tk.trans (TK.fresh nD')) ?_ (hr3.fresh nD)⟩
  refine hr'.setL (TK.fresh nD') ?_
  rw [sorted_pick hM pm so]
  exact ((rep_pick ra hlt).mono tk).mono (TK.fresh nD')
theorem sort_run (I:Inv X pins σ H s) {k:Nat} {f:Addr} {fd:FuncData} {pp:List Str} {sp:Sp3} (F:FnOk X.prog X.w X.K X.mg X.base CX0 k f fd pp (liftF X.K sp)) (hr:Room (k + 2) X.A) (hb:Binds X.K fd pp []) {a:Addr} {vs:List V} {ps:List Pt} {H3:Hp3}
  (ga:H a = some (.lst vs)) (ra:RepL X.K H (ps.map prP) vs) (hr3:HR X.K H3 H) (ko:KeyOk sp) (h64:ps.length < 64) {Q:VK}
  (hQ:∀ (D:Addr) (H'':Hp),TK H H''→HR X.K (upd3 H3 D (.lst ((isort ps).map prP))) H''→H3 D = none→Q (.ref D) H'') :
  wpAny (model X.prog X.w) X.A (call (.builtin "sorted") [.ref a] [(Str.ofString "key",.ref f)]) (EP X pins σ Q) X.xe s:=by
 refine sort_runG I ga ra hr3 h64 (fun pins' H' s' c v u tk hr' J rep rx => ?_) hQ
 refine run_fn (X:=Cx.in2 X) (E:=E0) F (hr.in1.in1) hb .nil pass0 J (.cons rx .nil) ?_
 exact ⟨[prP c],H3,fun d H3' => d = .tup [.int c.2,.int c.1]∧H3' = H3,hr',.cons rep .nil,ko c H3 _ ⟨rfl,rfl⟩,fun d v H3'' H'' tk' hr'' rep' q => by
  obtain ⟨rfl,rfl⟩:=q
  exact ⟨tk',hr'',rep'⟩⟩
theorem p3_sortedK {k:Nat} {x:Str} {pp:List Str} {sp:Sp3} {e:Expr} {te:TE3} {p pos kp kpos:Pos} (F:Fn X.prog X.w X.K X.mg X.base k x pp sp) (hr:Room (k + 2) X.A) (hs:X.mg "sorted" = none) (he:PE3 X e te)
  (hg:Gl X "sorted":=by rfl) (hx:Gl X x:=by rfl) (hdb:(x == ("__debug__" : Str)) = false:=by decide) (h1:starEach [e] X.env = (false,eval e X.env)::starEach [] X.env:=by rfl)
  (h2:backTo pos (starEach [e] X.env) = (false,eval e X.env)::backTo pos (starEach [] X.env):=by rfl) (h3:(backTo pos (starEach [e] X.env)).any (·.1) = false:=by rfl) (h4:(backToKw pos (keywordEach [⟨some "key",.Name x kp,kpos⟩] X.env)).all (·.1.isSome) = true:=by rfl)
  (h5:(backToKw pos (keywordEach [⟨some "key",.Name x kp,kpos⟩] X.env)).any (·.1.isNone) = false:=by rfl) (h6:(backToKw pos (keywordEach [⟨some "key",.Name x kp,kpos⟩] X.env)).filterMap (·.1) = [Str.ofString "key"]:=by rfl) :
  PE3 X (.Call (.Name "sorted" p) [e] [⟨some "key",.Name x kp,kpos⟩] pos) (so3 sp te):=by
 obtain ⟨f,fd,F,hm,hkp,hb⟩:=F.ex
 intro pins s σ H Q I h
 obtain ⟨σ3,H3,Q3,sr,hr3,t,kk⟩:=h
 refine wpAny_Call_Name_kw (ld_blt I hg hs boot_sorted ?_ (by decide) (by decide))
 have pa:PA X [e] (tCons (liftE X.K te) tNil):=pa_cons he pa_nil h1
 refine callWith_kw (thn (pa pos pins s σ H (fun vs H1 => ∃ d v H31,vs = [v]∧TK H H1∧HR X.K H31 H1∧Rep X.K H1 d v∧sok sp d H31 Q3) I ⟨σ3,H3,_,sr,hr3,t,fun d v H3' H' tk hr' rep q => ⟨d,v,H3',rfl,tk,hr',rep,q⟩⟩) fun us s1 hq => ?_) h2 h3 h4 h5
 obtain ⟨vs,H1,I1,rvs,d,v,H31,rfl,tk1,hr1,rep1,q1⟩:=hq
 have pk:PK X [⟨some "key",.Name x kp,kpos⟩] (tCons (tC (.ref f)) tNil):=pk_cons (pe_glob (v:=.ref f) hx hm rfl hdb) pk_nil
 refine thn (pk pos pins s1 σ H1 (fun zs H2 => zs = [.ref f]∧H2 = H1) I1 ⟨rfl,rfl⟩) fun ws s2 hq => ?_
 obtain ⟨zs,H2,I2,rz,rfl,rfl⟩:=hq
 obtain ⟨w1,rfl,rw1⟩:=vals1 rz
 cases rw1
 obtain ⟨u1,rfl,ru1⟩:=vals1 rvs
 rw [h6]
 cases rep1 with
 | ref a =>
  cases ru1
  unfold sok at q1
  dsimp only at q1
  split at q1
  ·rename_i ds ha
   split at q1
   ·rename_i ps ep
    obtain ⟨ko,h64,q1⟩:=q1
    have z:=ptsOf_inv ep
    subst z
    obtain ⟨vs,ga,ra⟩:=hr1 a _ ha
    exact sort_run I2 F hr hb ga ra hr1 ko h64 fun D H'' tk hr'' nD => kk _ _ _ _ (tk1.trans tk) hr'' (.ref D) (q1 D nD)
   ·exact q1.elim
  ·exact q1.elim
 | _ => exact q1.elim
end
noncomputable def keysOf:List D→Option (List Key)
 | [] => some []
 | .int i::ds => (keysOf ds).map (Sum.inl i::·)
 | .str x::ds => (keysOf ds).map (Sum.inr x::·)
 | _::_ => none
theorem keys_rep {K:PySem.W.Frag} {H:Hp}:∀ {ds:List D} {xs:List V} {ks:List Key},RepL K H ds xs→keysOf ds = some ks→xs = ks.map kV
 | _,_,_,.nil,h => by simp only [keysOf,Option.some.injEq] at h; subst h; rfl
 | _,_,_,.cons (d:=d) r t,h => by
  cases r with
  | int i =>
   simp only [keysOf,Option.map_eq_some_iff] at h
   obtain ⟨ms,h1,rfl⟩:=h
   rw [keys_rep t h1]; rfl
  | str i =>
   simp only [keysOf,Option.map_eq_some_iff] at h
   obtain ⟨ms,h1,rfl⟩:=h
   rw [keys_rep t h1]; rfl
  | _ => simp [keysOf] at h
noncomputable abbrev Tab:=List (List Key×D)
noncomputable def dlook (kvs:Tab) (k:List Key):Option D:=(kvs.find? fun kv => decide (kv.1 = k)).map (·.2)
noncomputable def dput (kvs:Tab) (k:List Key) (d:D):Tab:=if (kvs.any fun kv => decide (kv.1 = k)) = true then kvs.map (fun kv => if kv.1 = k then (kv.1,d) else kv) else kvs++[(k,d)]
noncomputable abbrev TR (K:PySem.W.Frag) (H:Hp):Tab→List (List Key×V)→Prop:=Paired (fun (p:List Key×D) (q:List Key×V) => p.1 = q.1∧Rep K H p.2 q.2)
theorem TR.look {K:PySem.W.Frag} {H:Hp} {k:List Key}:∀ {kvs:Tab} {ks:List (List Key×V)},TR K H kvs ks→(valV ks k).isSome = (dlook kvs k).isSome∧∀ d,dlook kvs k = some d→∃ v,valV ks k = some v∧Rep K H d v
 | _,_,.nil => ⟨rfl,fun _ h => nomatch h⟩
 | _,_,.cons (a:=p) (b:=q) r t => by
  have ih:=TR.look (k:=k) t
  by_cases e:p.1 = k
  ·have e':q.1 = k:=r.1.symm.trans e
   have l1:∀ rest:Tab,dlook (p::rest) k = some p.2:=fun rest => by unfold dlook; rw [List.find?_cons_of_pos (by simpa using e)]; rfl
   rw [valV_pos e',l1]
   exact ⟨rfl,fun d h => ⟨_,rfl,by cases h; exact r.2⟩⟩
  ·have e':¬ q.1 = k:=fun z => e (r.1.trans z)
   have l1:∀ rest:Tab,dlook (p::rest) k = dlook rest k:=fun rest => by unfold dlook; rw [List.find?_cons_of_neg (by simpa using e)]
   rw [valV_neg e',l1]
   exact ih
theorem TR.any {K:PySem.W.Frag} {H:Hp} {k:List Key}:∀ {kvs:Tab} {ks:List (List Key×V)},TR K H kvs ks→(kvs.any fun kv => decide (kv.1 = k)) = ks.any fun kv => decide (kv.1 = k)
 | _,_,.nil => rfl
 | _,_,.cons r t => by rw [List.any_cons,List.any_cons,TR.any t,r.1]
theorem TR.repl {K:PySem.W.Frag} {H:Hp} {k:List Key} {d:D} {v:V} (rd:Rep K H d v):∀ {kvs:Tab} {ks:List (List Key×V)},TR K H kvs ks→TR K H (kvs.map fun kv => if kv.1 = k then (kv.1,d) else kv) (ks.map fun kv => if kv.1 = k then (kv.1,v) else kv)
 | _,_,.nil => .nil
 | _,_,.cons (a:=p) (b:=q) r t => by
  refine .cons ?_ (TR.repl rd t)
  dsimp only
  by_cases e:p.1 = k
  ·rw [if_pos e,if_pos (r.1.symm.trans e)]; exact ⟨r.1,rd⟩
  ·rw [if_neg e,if_neg (fun z => e (r.1.trans z))]; exact r
theorem TR.put {K:PySem.W.Frag} {H:Hp} {k:List Key} {d:D} {v:V} {kvs:Tab} {ks:List (List Key×V)} (r:TR K H kvs ks) (rd:Rep K H d v):TR K H (dput kvs k d) (putK ks k v):=by
 unfold dput putK
 rw [← TR.any r]
 split
 ·exact TR.repl rd r
 ·exact Paired.snoc r ⟨rfl,rd⟩
theorem TR.mono {K:PySem.W.Frag} {H H':Hp} (t:TK H H') {kvs:Tab} {ks:List (List Key×V)} (r:TR K H kvs ks):TR K H' kvs ks:=Paired.mapP r fun _ _ z => ⟨z.1,z.2.mono t⟩
theorem HR.setD {K:PySem.W.Frag} {H:Hp} {H3:Hp3} (h:HR K H3 H) {p:Addr} {ks:List (List Key×V)} {kvs:Tab} (t:TK H (upd H p (.dT ks))) (r:TR K (upd H p (.dT ks)) kvs ks):HR K (upd3 H3 p (.dic kvs)) (upd H p (.dT ks)):=h.set (o3:=.dic kvs) t ⟨ks,upd_same,r⟩
noncomputable def r3inD (neg:Bool):R3:=fun x y H Q => match x,y with
 | .tup ds,.ref a => (match keysOf ds,H a with
  | some k,some (.dic kvs) => Q (.bl (if neg then !(dlook kvs k).isSome else (dlook kvs k).isSome)) H
  | _,_ => False)
 | _,_ => False
noncomputable def r3inX (neg:Bool):R3:=fun x y H Q => r3in neg x y H Q∨r3inD neg x y H Q
section
variable {X:Cx}
theorem op3_inX (hu:X.A.units + 64 < cLine):OpR X (compareOp .In) (lift2 X.K (r3inX false)):=by
 intro pins s σ H x y v u Q I rx ry h
 obtain ⟨dx,dy,H3,Q3,hr,rdx,rdy,t,k⟩:=h
 rcases t with t | t
 ·exact op3_in hu pins s σ H x y v u Q I rx ry ⟨dx,dy,H3,Q3,hr,rdx,rdy,t,k⟩
 ·cases rdx with
  | tup ha ra =>
   cases rdy with
   | ref a =>
    (delta r3inD at t; dsimp only at t)
    split at t
    ·rename_i ks kvs e1 e2
     obtain ⟨vs,gd,rd⟩:=hr a _ e2
     cases ry
     have ex:=keys_rep ra e1
     subst ex
     refine d_in (by omega) I (DGet.t gd ha) rx fun s' I' => ⟨.bl _,H,I',rfl,?_⟩
     rw [(TR.look (k:=ks) rd).1]
     exact k _ _ _ _ TK.refl hr (.bl _) t
    ·exact t.elim
   | _ => exact t.elim
  | _ => exact t.elim
theorem op3_notInX (hu:X.A.units + 64 < cLine):OpR X (compareOp .NotIn) (lift2 X.K (r3inX true)):=by
 intro pins s σ H x y v u Q I rx ry h
 obtain ⟨dx,dy,H3,Q3,hr,rdx,rdy,t,k⟩:=h
 rcases t with t | t
 ·exact op3_notIn hu pins s σ H x y v u Q I rx ry ⟨dx,dy,H3,Q3,hr,rdx,rdy,t,k⟩
 ·cases rdx with
  | tup ha ra =>
   cases rdy with
   | ref a =>
    (delta r3inD at t; dsimp only at t)
    split at t
    ·rename_i ks kvs e1 e2
     obtain ⟨vs,gd,rd⟩:=hr a _ e2
     cases ry
     have ex:=keys_rep ra e1
     subst ex
     refine d_notIn (by omega) I (DGet.t gd ha) rx fun s' I' => ⟨.bl _,H,I',rfl,?_⟩
     rw [(TR.look (k:=ks) rd).1]
     exact k _ _ _ _ TK.refl hr (.bl _) t
    ·exact t.elim
   | _ => exact t.elim
  | _ => exact t.elim
noncomputable def dpk (v x y:D) (σ:St3) (H:Hp3) (R:St3→Hp3→Prop):Prop:=match x,y with
 | .ref a,.tup ds => (match keysOf ds,H a with
  | some k,some (.dic kvs) => kvs.length < 1000∧R σ (upd3 H a (.dic (dput kvs k v)))
  | _,_ => False)
 | _,_ => False
noncomputable def dp3 (td ty tv:TE3):TS3:=fun D0 σ H => tv σ H fun v H1 => td σ H1 fun x H2 => ty σ H2 fun y H3 => dpk v x y σ H3 D0.nx
theorem s3_dput {o i value:Expr} {td ty tv:TE3} {pos pos':Pos} (hu:X.A.units + 64 < cLine) (ho:PE3 X o td) (hi:PE3 X i ty) (hv:PE3 X value tv) (hs:swapsWith value (some (.Subscript o i pos')) pos.line X.env = pure false:=by rfl) :
  PS3 X (.Assign [.Subscript o i pos'] value pos) (dp3 td ty tv) :=
 ps_imp (ps_dput (by omega) ho hi hv hs) fun D0 σ H zz => zz.ex fun σ3 H3 D3 sr hr t k => ⟨σ3,H3,_,sr,hr,t,fun dv v H3a Ha tka hra rv qa => ⟨σ3,H3a,_,sr.mono tka,hra,qa,fun dx x H3b Hb tkb hrb rx qb => ⟨σ3,H3b,_,(sr.mono tka).mono tkb,hrb,qb,fun dy y H3c Hc tkc hrc ry qc => by
  cases rx with
  | ref a =>
   cases ry with
   | tup hb rb =>
    (delta dpk at qc; dsimp only at qc)
    split at qc
    ·rename_i ks kvs e1 e2
     obtain ⟨vs,gd,rd⟩:=hrc a _ e2
     have ex:=keys_rep rb e1
     subst ex
     obtain ⟨hl,qc⟩:=qc
     refine ⟨a,_,rfl,DPut.t gd hb (by rw [← Paired.length rd]; exact small1000 (Nat.le_of_lt hl)),?_⟩
     have tt:=TK.dT (o:=.dT (putK vs ks v)) gd
     exact k.nx _ _ _ _ ((tka.trans (tkb.trans tkc)).trans tt) ((((sr.mono tka).mono tkb).mono tkc).mono tt) (hrc.setD tt (TR.put (TR.mono tt rd) (((rv.mono tkb).mono tkc).mono tt))) qc
    ·exact qc.elim
   | _ => exact qc.elim
  | _ => exact qc.elim⟩⟩⟩
noncomputable def dn3:TE3:=fun _ H Q => ∀ p,H p = none→Q (.ref p) (upd3 H p (.dic []))
theorem p3_dnew {pos:Pos}:PE3 X (.Dict [] [] pos) dn3:=pe_imp pe_dnewT fun _ _ _ ⟨_,_,_,_,hr,t,k⟩ => fun p n => k _ _ _ _ (TK.fresh n) (hr.setD (TK.fresh n) .nil) (.ref p) (t p (hr.fresh n))
theorem d_dictSet {pins:List (Addr×Obj)} {σ:St} {H:Hp} {s:Shared} {a b:Addr} {kvs:List (List Key×V)} {k:List Key} {v:V} {r:Value} {A:Around} {E:Value→Shared→Prop} {Q:Unit→Shared→Prop} (hu:A.units < cLine) (I:Inv X pins σ H s) (e:H a = some (.dT kvs)) (eb:H b = some (.tup (k.map kV)))
  (l:kvs.length < sizeLine) (rv:RelV v r) (h:∀ s',Inv X pins σ (upd H a (.dT (putK kvs k v))) s'→Q () s'):wpAny (model X.prog X.w) A (dictSet a (.ref b) r) Q E s:=by
 obtain ⟨z,hd,xs,rel,dd⟩:=dt_of I.hok e
 have hz:xs.length≤sizeLine:=by rw [← Paired.length rel]; exact z
 have hl:(putK kvs k v).length≤sizeLine:=Nat.le_trans (length_putK kvs k v) l
 refine wpAny_dictSet_heap (knd:=tupleKind (mixKind X.prog X.w)) (hsz:=hz) hu (key_of I.hok eb) dd fun h' dd' hs => h _ ?_
 obtain ⟨q,es,ep,hq,h2,h3,h4,_,h5⟩:=dd'
 exact d_write I (by rw [e]; exact True.intro) hs ⟨q,hq⟩ ⟨hl,hd,_,(rel.put k eb rv).keeps fun c ys ec => by rw [upd_ne (ne_of ec e (fun z => nomatch z))]; exact ec,q,es,ep,hq,h2,h3,h4,h5⟩
noncomputable def ddk (p:Addr) (x y:D) (H:Hp3) (Q:VK3):Prop:=match x with
 | .tup ds => H p = some (.dic [])∧(match keysOf ds with
  | some k => Q (.ref p) (upd3 H p (.dic [(k,y)]))
  | none => False)
 | _ => False
noncomputable def dd3 (tk tv:TE3):TE3:=fun σ H Q => ∀ p,H p = none→tk σ (upd3 H p (.dic [])) fun x H1 => tv σ H1 fun y H2 => ddk p x y H2 Q
theorem p3_disp1 {ke ve:Expr} {tk tv:TE3} {pos:Pos} (hu:X.A.units < cLine) (hk:PE3 X ke tk) (hv:PE3 X ve tv):PE3 X (.Dict [some ke] [ve] pos) (dd3 tk tv):=by
 intro pins s σ H Q I h
 obtain ⟨σ3,H3,Q3,sr,hr,t,k⟩:=h
 have hn:=I.hok.fresh (Nat.le_refl s.heap.objs.size)
 have I1:=I.laid (a:=s.heap.objs.size) (o:=.dT []) (h':=s.heap.push { cls:=.type "dict",data:=.dict #[] }) (t':=s.toks) (fun _ _ q => Heap.get?_push_of_some _ q) (Nat.le_refl _) (dt_empty s.heap I.big)
 have pp:PPs X pos [some ke] [ve] [(liftE X.K tk,liftE X.K tv)]:=pps_cons hk hv pps_nil
 have tk0:TK H (upd H s.heap.objs.size (.dT [])):=TK.fresh hn
 refine wpAny_Dict_any rfl rfl (by simp) (by simp) (thn (pp pins _ σ _ (fun ps H2 => ∃ dx dy x y H32,ps = [(x,y)]∧TK H H2∧HR X.K H32 H2∧Rep X.K H2 dx x∧Rep X.K H2 dy y∧ddk s.heap.objs.size dx dy H32 Q3) I1 ?_) fun ws s2 hq => ?_)
 ·exact ⟨σ3,_,_,sr.mono tk0,hr.setD tk0 .nil,t _ (hr.fresh hn),fun dx x H3a Ha tka hra rx qa => ⟨σ3,H3a,_,(sr.mono tk0).mono tka,hra,qa,fun dy y H3b Hb tkb hrb ry qb => ⟨dx,dy,x,y,H3b,rfl,(tk0.trans tka).trans tkb,hrb,rx.mono tkb,ry,qb⟩⟩⟩
 ·obtain ⟨ps,H2,I2,rel,dx,dy,x,y,H32,rfl,tk2,hr2,rx,ry,q⟩:=hq
  cases rel with
  | cons r1 r2 =>
   cases r2
   rename_i w1
   obtain ⟨u1,u2⟩:=w1
   obtain ⟨r1,r2⟩:=r1
   unfold storeAll
   rw [List.forIn_cons]
   cases rx with
   | tup hb rb =>
    (delta ddk at q; dsimp only at q)
    obtain ⟨q0,q⟩:=q
    split at q
    ·rename_i ks e1
     have ex:=keys_rep rb e1
     subst ex
     obtain ⟨vs,gd,rd⟩:=hr2 _ _ q0
     cases rd
     cases r1
     refine wpAny_bind (wpAny_bind (d_dictSet hu I2 gd hb (by rw [sizeLine_eq]; decide) r2 fun s' I' => wpAny_pure ?_))
     show wpAny _ _ (forIn [] PUnit.unit _) _ _ s'
     rw [List.forIn_nil]
     have tt:=TK.dT (o:=.dT (putK [] ks y)) gd
     exact wpAny_pure ⟨.ref _,_,I',rfl,k _ _ _ _ (tk2.trans tt) (hr2.setD tt (.cons ⟨rfl,ry.mono tt⟩ .nil)) (.ref _) q⟩
    ·exact q.elim
   | _ => exact q.elim
end
section
variable {prog:Program} {w:World} {A:Around} {E:Value→Shared→Prop} {s:Shared}
theorem list_no_keys:typeLookup (.type "list") "keys" = pure none:=am_miss_of_fast (by kernel_rfl)
theorem keys_miss {a:Addr} {o:Obj} {xs:Array Value} {k:Nat} {Q:Option Value→Shared→Prop} (hx:s.heap.get? a = some o) (hc:o.cls = .type "list") (hdat:o.data = .seq xs k) (hd:o.dict = none) (hA:A.handled = none)
  (h:∀ h' tk,(∀ b ob,s.heap.get? b = some ob→h'.get? b = some ob)→Q none { s with heap:=h',toks:=tk }):wpAny (model prog w) A (getAttr? (.ref a) "keys") Q E s:=by
 obtain ⟨c,dct,dat,sl⟩:=o
 simp only at hc hdat hd; subst hc hdat hd
 obtain ⟨hp,g,d,tk,os⟩:=s
 have hT:∀ tk',(⟨hp,g,d,tk',os⟩:Shared).TypeIs (.ref a) "list":=fun _ => ⟨_,hx,rfl⟩
 have f1:=sub_AttributeError; have f3:=F.slot_list_getattribute.lookup; have f4:=F.slot_list_getattribute.bind (.ref a); have f5:=am_list_getattr_none
 unfold getAttr? getAttrBy? getAttrBy
 repeat (any_goals (first | assumption | exact hT _ | ((with_reducible show wpAny _ _ (call (Value.builtin "list.__getattribute__") _ _) _ _ _); refine call_meets F.slot_list_getattribute (hT _) am_entry_list_getattribute (F.args_list_getattribute_2 _ _) (meets_getattribute_miss_list a xs k sl "keys" _ list_no_keys (by decide) (by decide)) ⟨hx,hA,fun h' tk' e hx' => ?_⟩) | wp_step))
 obtain ⟨t',u',he⟩:=id hx'.there
 show wpAny _ _ (getattributeRaised _ _ _ _ _ _ _) _ _ _
 unfold getattributeRaised
 repeat (any_goals (first | assumption | wp_step))
 all_goals exact h _ _ hx'.keeps
theorem entry_dloop:entryFor table "dict.update.loop" = some Builtin.«dict.update.loop»:=entryFor_of_tree (by kernel_rfl)
theorem plain_dloop:plainId "dict.update.loop" = true:=by decide +kernel
end
noncomputable def PairsIn (H:Hp):List V→List (List Key×V)→Prop:=Paired fun v p => ∃ t b,v = .ref t∧H t = some (.tup [.ref b,p.2])∧H b = some (.tup (p.1.map kV))
theorem PairsIn.mono {H H':Hp} (t:∀ b xs,H b = some (.tup xs)→H' b = some (.tup xs)) {vs:List V} {ps:List (List Key×V)} (h:PairsIn H vs ps):PairsIn H' vs ps:=Paired.mapP h fun _ _ ⟨a,b,e,h1,h2⟩ => ⟨a,b,e,t _ _ h1,t _ _ h2⟩
theorem Paired.drop1 {α β:Type} {R:α→β→Prop}:∀ {as:List α} {bs:List β} {i:Nat} {a:α},Paired R as bs→as[i]? = some a→∃ b,bs.drop i = b::bs.drop (i + 1)∧R a b
 | _,_,_,_,.nil,e => by simp at e
 | _,_,0,_,.cons r _,e => by simp at e; subst e; exact ⟨_,rfl,r⟩
 | _,_,i + 1,a,.cons _ t,e => by
  obtain ⟨b,h1,h2⟩:=Paired.drop1 (i:=i) (a:=a) t (by simpa using e)
  exact ⟨b,by simpa using h1,h2⟩
section
variable {X:Cx} {pins:List (Addr×Obj)} {σ:St}
theorem dict_loop {A:Around} {R:Result→Shared→Prop} {it a d:Addr} {vs:List V} {ps:List (List Key×V)} (hA:X.A = A.in1) (hc:X.calm = true) (hu:A.units + 2 < cLine):∀ (k i:Nat) (tk:Tok) (s:Shared) (H:Hp) (kvs:List (List Key×V)),vs.length - i = k→i≤vs.length →
  Inv X pins σ H s→s.heap.IsListIter it a i→FpOk X pins H it→H a = some (.lst vs)→H d = some (.dT kvs)→kvs.length + (vs.length - i)≤2000→PairsIn H vs ps →
  (∀ s' kvs',kvs' = (ps.drop i).foldl (fun acc kv => putK acc kv.1 kv.2) kvs→Inv X pins σ (upd H d (.dT kvs')) s'→R (.ok (.ret .none)) s') →
  codeAny (model X.prog X.w) A (.builtin "dict.update.loop" ⟨[.ref d,.ref it,.int (i:Int) tk,.none],[]⟩) R s:=by
 intro k
 induction k with
 | zero =>
  intro i tk s H kvs hk hi I st fi ha hd hl hp hR
  refine codeAny_builtin entry_dloop ?_
  rw [Around.under_plainId plain_dloop _]
  show wpAny _ A.in1 (pyNext (.ref it) >>= _) _ _ s
  obtain ⟨its,rv,p,hz⟩:=I.list (SqL.of ha)
  have hvl:=rv.length
  have hpl:=Paired.length hp
  obtain ⟨f0,f1,f2,f3,f4,f5⟩:=fi
  have hh:A.in1.handled = none:=by rw [← hA]; exact I.ok.hd hc
  refine wpAny_bind (wpAny_pyNext_list_end hh st p.isList (by simp; grind) fun h' eb => ?_)
  have I1:Inv X pins σ H { s with heap:=h' }:=I.turned (t':=s.toks) (fun b o hb e => eb b o hb e) f0 f1 f3 f4 f5
  refine wpAny_bind (m:=Builtin.Dict.addKeywords d []) (wpAny_pure (wpAny_pure (hR _ kvs ?_ ?_)))
  ·rw [List.drop_eq_nil_of_le (by grind)]; rfl
  ·have:upd H d (.dT kvs) = H:=by
    funext b
    unfold upd
    split
    ·rename_i e; rw [e,hd]
    ·rfl
   rw [this]; exact I1
 | succ k ih =>
  intro i tk s H kvs hk hi I st fi ha hd hl hp hR
  refine codeAny_builtin entry_dloop ?_
  rw [Around.under_plainId plain_dloop _]
  show wpAny _ A.in1 (pyNext (.ref it) >>= _) _ _ s
  obtain ⟨its,rv,p,hz⟩:=I.list (SqL.of ha)
  have hlt:i < vs.length:=by grind
  obtain ⟨pr,hdr,t,b,ev,ht,hb⟩:=Paired.drop1 hp (List.getElem?_eq_getElem hlt)
  obtain ⟨u,hu1,ru⟩:=rv.get (List.getElem?_eq_getElem hlt)
  rw [ev] at ru
  cases ru
  obtain ⟨f0,f1,f2,f3,f4,f5⟩:=fi
  refine wpAny_bind (wpAny_pyNext_list_item st p.isList (x:=.ref t) (by simpa using hu1) fun h' st' sb => ?_)
  have I1:Inv X pins σ H { s with heap:=h' }:=I.turned (t':=s.toks) (fun b o hb e => (sb.2 b hb).trans e) f0 f1 f3 f4 f5
  obtain ⟨pit,rp,⟨ot,et,ct,nt,dt⟩,_⟩:=I1.tuple (SqT.of (K:=X.K) ht)
  obtain ⟨u1,u2,rfl,r1,r2⟩:=vals2 rp
  cases r1
  dsimp only
  refine wpAny_bind (wpAny_holding (wpAny_bind (wpAny_tryCatch ?_)))
  unfold Builtin.Dict.pairItems
  refine wpAny_bind (wpAny_typeOf (T := "tuple") ⟨ot,et,ct⟩ ?_)
  rw [if_pos (by decide)]
  refine wpAny_bind (wpAny_seqItems et dt (wpAny_pure ?_))
  have hud:A.in1.units < cLine:=by show A.units + 1 < cLine; grind
  show wpAny _ A.in1 (holding _ (dictSet d (.ref b) u2)) _ _ _
  obtain ⟨oi,ei,ci,di⟩:=id st'
  have Ip:Inv X (pins++[(it,oi)]) σ H { s with heap:=h' }:=I1.pins_of fun q hq => by
   rcases List.mem_append.mp hq with hq | hq
   ·exact I1.pin q (List.mem_append_right _ hq)
   ·rw [List.mem_singleton.mp hq]
    exact ⟨ei,f0,f1,f2,fun v z => by rw [di] at z; cases z⟩
  refine wpAny_holding (d_dictSet hud Ip hd hb (by rw [sizeLine_eq]; grind) r2 fun s2 I2 => ?_)
  have nd:∀ c xs,H c = some (.tup xs)→upd H d (.dT (putK kvs pr.1 pr.2)) c = some (.tup xs):=fun c xs e => by rw [upd_ne (ne_of e hd (fun z => nomatch z))]; exact e
  have pi:=I2.pin (it,oi) (by simp)
  have st2:s2.heap.IsListIter it a (i + 1):=⟨oi,pi.1,ci,di⟩
  have I3:Inv X pins σ (upd H d (.dT (putK kvs pr.1 pr.2))) s2:=I2.pins_of fun q hq => I2.pin q (by simp [hq])
  have hlp:=length_putK kvs pr.1 pr.2
  refine wpAny_pure ⟨plainId_quiet plain_dloop _,?_⟩
  refine ih (i + 1) 0 s2 _ _ (by grind) hlt I3 st2 ⟨pi.2.1,f1,f2,f3,f4,f5⟩ (by rw [upd_ne (ne_of ha hd (fun z => nomatch z))]; exact ha) upd_same (by grind) (hp.mono nd) fun s' kvs' ek I' => hR s' kvs' ?_ ?_
  ·rw [ek,hdr]; rfl
  ·rw [upd_upd] at I'; exact I'
theorem dict_of {s:Shared} {H:Hp} {a:Addr} {vs:List V} {ps:List (List Key×V)} {Q:Value→Shared→Prop} (hc:X.calm = true) (hu:X.A.units + 64 < cLine) (I:Inv X pins σ H s) (ha:H a = some (.lst vs)) (hp:PairsIn H vs ps) (hl:vs.length≤1000)
  (h:∀ d s',H d = none→Inv X pins σ (upd H d (.dT (ps.foldl (fun acc kv => putK acc kv.1 kv.2) []))) s'→Q (.ref d) s'):wpAny (model X.prog X.w) X.A (call (.type "dict") [.ref a]) Q X.xe s:=by
 refine callType_codes (Q₁:=fun obj s₁ => obj = .ref s.heap.objs.size∧s₁ = { s with heap:=s.heap.push { cls:=.type "dict",data:=.dict #[] } }) F.kt_called_dict (F.kt_typeCall_dict_1 _) F.entry_dict_init (kt_code_dict_new _ ⟨rfl,rfl⟩) fun obj s₁ hq => ?_
 obtain ⟨rfl,rfl⟩:=hq
 have nd:H s.heap.objs.size = none:=I.hok.fresh (Nat.le_refl _)
 have I1:=I.laid (a:=s.heap.objs.size) (o:=.dT []) (h':=s.heap.push { cls:=.type "dict",data:=.dict #[] }) (t':=s.toks) (fun _ _ q => Heap.get?_push_of_some _ q) (Nat.le_refl _) (dt_empty s.heap I.big)
 have ha1:upd H s.heap.objs.size (.dT []) a = some (.lst vs):=by rw [upd_ne (ne_of_none ha nd)]; exact ha
 have hT:({ s with heap:=s.heap.push { cls:=.type "dict",data:=.dict #[] } }:Shared).TypeIs (.ref s.heap.objs.size) "dict":=⟨_,Heap.get?_push_size _ rfl,rfl⟩
 obtain ⟨its,rv,⟨o,n,eo,co,dk,do'⟩,_⟩:=I1.list (SqL.of ha1)
 have hh:X.A.in1.in1.handled = none:=I.ok.hd hc
 refine ⟨hT,F.args_dict_init_2 _ _,?_⟩
 unfold Builtin.«dict.__init__» Builtin.Dict.selfAndRest
 refine wpAny_bind (wpAny_bind (wpAny_notOrdered_dict hT ?_))
 show wpAny _ _ (pure (s.heap.objs.size,[Value.ref a])) _ _ _
 refine wpAny_pure ?_
 show wpAny _ _ (Builtin.Dict.updateFrom "dict.__init__" s.heap.objs.size (.ref a) [] .none) _ _ _
 unfold Builtin.Dict.updateFrom
 refine wpAny_bind (wpAny_typeOf (T := "list") ⟨o,eo,co⟩ ?_)
 rw [if_pos (by decide)]
 refine wpAny_bind (keys_miss eo co do' dk hh fun h' tk kp => ?_)
 have I2:=(Inv.in2 I1).kept (t':=tk) kp
 obtain ⟨its2,rv2,p2,_⟩:=I2.list (SqL.of ha1)
 rw [if_pos (by rfl)]
 refine wpAny_bind (wpAny_rule ?_)
 refine wpAny_bind (wpAny_pyIter_list p2.isList ?_)
 have hn:=I2.hok.fresh (Nat.le_refl _)
 have I3:=I2.kept (t':=tk) (h':=h'.push { cls:=.type "list_iterator",data:=.fields #[.ref a,.int 0 0] }) (fun b ob q => Heap.get?_push_of_some _ q)
 refine wpAny_pure ⟨plainId_quiet plain_dloop _,?_⟩
 have hlp:vs.length - 0 = vs.length:=rfl
 refine dict_loop (X:=Cx.in2 X) (it:=h'.objs.size) (a:=a) (vs:=vs) (ps:=ps) rfl hc (show X.A.units + 1 + 2 < cLine by grind) vs.length 0 0 _ _ [] rfl (Nat.zero_le _) I3 ⟨_,Heap.get?_push_size _ rfl,rfl,rfl⟩ (I2.fpOk (Nat.le_refl _) hn) ha1 upd_same (by simp; grind) (hp.mono fun b xs e => by rw [upd_ne (ne_of_none e nd)]; exact e) fun s' kvs' ek I' => ⟨rfl,h _ s' nd ?_⟩
 rw [upd_upd,ek] at I'
 exact Inv.out2 I.ok I'
end
noncomputable def prsOf:List D→Option Tab
 | [] => some []
 | .tup [.tup ks,y]::ds => (match keysOf ks,prsOf ds with
  | some k,some r => some ((k,y)::r)
  | _,_ => none)
 | _::_ => none
noncomputable def dfold (kvs more:Tab):Tab:=more.foldl (fun acc kv => dput acc kv.1 kv.2) kvs
theorem prs_rep {K:PySem.W.Frag} {H:Hp}:∀ {ds:List D} {vs:List V} {tb:Tab},RepL K H ds vs→prsOf ds = some tb→∃ ps,PairsIn H vs ps∧TR K H tb ps
 | _,_,_,.nil,h => by simp only [prsOf,Option.some.injEq] at h; subst h; exact ⟨[],.nil,.nil⟩
 | d::_,_,_,.cons r t,h => by
  unfold prsOf at h
  split at h
  ·rename_i e; cases e
  ·rename_i e
   cases e
   split at h
   ·rename_i k r' e1 e2
    cases h
    obtain ⟨ps,h1,h2⟩:=prs_rep t e2
    cases r with
    | tup ha ra =>
     cases ra with
     | cons q1 q2 =>
      cases q2 with
      | cons q2 q3 =>
       cases q3
       cases q1 with
       | tup hb rb =>
        have ex:=keys_rep rb e1
        subst ex
        exact ⟨(k,_)::ps,.cons ⟨_,_,rfl,ha,hb⟩ h1,.cons ⟨rfl,q2⟩ h2⟩
   ·cases h
  ·cases h
theorem TR.fold {K:PySem.W.Frag} {H:Hp}:∀ {more:Tab} {ms:List (List Key×V)} {kvs:Tab} {ks:List (List Key×V)},TR K H more ms→TR K H kvs ks→TR K H (dfold kvs more) (ms.foldl (fun acc kv => putK acc kv.1 kv.2) ks)
 | _,_,_,_,.nil,q => q
 | _,_,_,_,.cons (a:=p) (b:=m) r t,q => by
  have e:=TR.put (k:=p.1) q r.2
  have:=TR.fold t e
  unfold dfold at this ⊢
  rw [List.foldl_cons,List.foldl_cons,← r.1]
  exact this
noncomputable def r3dict:List D→Hp3→VK3→Prop:=fun ds H Q => match ds with
 | [.ref a] => (match H a with
  | some (.lst xs) => (match prsOf xs with
   | some tb => xs.length≤1000∧∀ p,H p = none→Q (.ref p) (upd3 H p (.dic (dfold [] tb)))
   | none => False)
  | _ => False)
 | _ => False
theorem cb3_dict {X:Cx} (hc:X.calm = true) (hu:X.A.units + 64 < cLine):CallR X (.type "dict") (liftC X.K r3dict):=by
 intro pins s σ H xs us Q I rs h
 obtain ⟨ds,H3,Q3,hr,rd,t,k⟩:=h
 cases rd with
 | nil => exact t.elim
 | cons r1 r2 =>
  cases r2 with
  | cons _ _ => cases r1 <;> exact t.elim
  | nil =>
   cases r1 with
   | ref a =>
    (delta r3dict at t; dsimp only at t)
    split at t
    ·rename_i xs ha
     split at t
     ·rename_i tb et
      obtain ⟨vs,ga,ra⟩:=hr a _ ha
      obtain ⟨u,rfl,ru⟩:=vals1 rs
      cases ru
      obtain ⟨ps,h1,h2⟩:=prs_rep ra et
      refine dict_of hc hu I ga h1 (by rw [← ra.length]; exact t.1) fun d s' nd I' => ⟨.ref d,_,I',rfl,?_⟩
      exact k _ _ _ _ (TK.fresh nd) (hr.setD (TK.fresh nd) (TR.mono (TK.fresh nd) (TR.fold h2 .nil))) (.ref d) (t.2 d (hr.fresh nd))
     ·exact t.elim
    ·exact t.elim
   | _ => exact t.elim
theorem p3_globE {X:Cx} {x:Str} {i:Int} {pos:Pos} (hg:Gl X x) (hm:∃ tk,X.mg x = some (.int i tk)) (hd:(x == ("__debug__" : Str)) = false:=by decide):PE3 X (.Name x pos) (c3 (.int i)):=by
 obtain ⟨tk,hm⟩:=hm
 exact p3_globI hg hm hd
end L3
namespace L3
open PySem L2
noncomputable def kP (c:Pt):List Key:=[Sum.inl c.1,Sum.inl c.2]
theorem kP_inj {a b:Pt} (h:kP a = kP b):a = b:=by
 unfold kP at h
 simp only [List.cons.injEq,Sum.inl.injEq,and_true] at h
 exact Prod.ext h.1 h.2
noncomputable def tabP (ps:List Pt):Tab:=ps.map fun c => (kP c,D.bl true)
noncomputable def addN (ps:List Pt) (c:Pt):List Pt:=if c∈ps then ps else ps++[c]
theorem dlook_tab (c:Pt):∀ ps:List Pt,(dlook (tabP ps) (kP c)).isSome = decide (c∈ps)
 | [] => rfl
 | p::ps => by
  unfold tabP dlook
  rw [List.map_cons]
  by_cases e:p = c
  ·subst e
   rw [List.find?_cons_of_pos (by simp)]
   simp
  ·have e':¬ kP p = kP c:=fun z => e (kP_inj z)
   rw [List.find?_cons_of_neg (by simpa using e')]
   have ih:=dlook_tab c ps
   unfold tabP dlook at ih
   rw [ih]
   have e2:¬ c = p:=fun z => e z.symm
   simp [e2]
theorem any_tab (c:Pt) (ps:List Pt):((tabP ps).any fun kv => decide (kv.1 = kP c)) = decide (c∈ps):=by
 induction ps with
 | nil => rfl
 | cons p ps ih =>
  have e0:tabP (p::ps) = (kP p,D.bl true)::tabP ps:=rfl
  rw [e0,List.any_cons,ih]
  by_cases e:p = c
  ·subst e; simp
  ·have e':¬ kP p = kP c:=fun z => e (kP_inj z)
   have e2:¬ c = p:=fun z => e z.symm
   simp [e',e2]
theorem dput_tab (ps:List Pt) (c:Pt):dput (tabP ps) (kP c) (.bl true) = tabP (addN ps c):=by
 unfold dput addN
 rw [any_tab]
 by_cases h:c∈ps
 ·rw [if_pos (decide_eq_true h),if_pos h]
  unfold tabP
  rw [List.map_map]
  refine List.map_congr_left fun p _ => ?_
  show (if kP p = kP c then (kP p,D.bl true) else (kP p,D.bl true)) = _
  split <;> rfl
 ·rw [if_neg (by simpa using h),if_neg h]
  unfold tabP
  rw [List.map_append]; rfl
theorem dfold_tab:∀ (ps acc:List Pt),dfold (tabP acc) (tabP ps) = tabP (ps.foldl addN acc)
 | [],_ => rfl
 | p::ps,acc => by
  have e0:tabP (p::ps) = (kP p,D.bl true)::tabP ps:=rfl
  unfold dfold
  rw [e0,List.foldl_cons,dput_tab,List.foldl_cons]
  exact dfold_tab ps _
theorem mem_addN {ps:List Pt} {c x:Pt}:x∈addN ps c↔x∈ps∨x = c:=by
 unfold addN
 split
 ·rename_i h
  constructor
  ·exact .inl
  ·rintro (h1 | rfl)
   ·exact h1
   ·exact h
 ·simp
theorem mem_addNs {x:Pt}:∀ {ps acc:List Pt},x∈ps.foldl addN acc↔x∈acc∨x∈ps
 | [],acc => by simp
 | p::ps,acc => by
  rw [List.foldl_cons,mem_addNs,mem_addN,List.mem_cons]
  constructor
  ·rintro ((h | h) | h)
   ·exact .inl h
   ·exact .inr (.inl h)
   ·exact .inr (.inr h)
  ·rintro (h | h | h)
   ·exact .inl (.inl h)
   ·exact .inl (.inr h)
   ·exact .inr h
theorem addNs_len:∀ (ps acc:List Pt),(ps.foldl addN acc).length≤acc.length + ps.length
 | [],acc => by simp
 | p::ps,acc => by
  rw [List.foldl_cons]
  have h1:=addNs_len ps (addN acc p)
  have h2:(addN acc p).length≤acc.length + 1:=by unfold addN; split <;> simp
  rw [List.length_cons]; grind
theorem prs_tab:∀ ps:List Pt,prsOf (ps.map fun c => D.tup [prP c,.bl true]) = some (tabP ps)
 | [] => rfl
 | p::ps => by
  rw [List.map_cons]
  have e:keysOf [D.int p.1,.int p.2] = some (kP p):=rfl
  unfold prP
  simp only [prsOf,e]
  have ih:=prs_tab ps
  unfold prP at ih
  rw [ih]; rfl
section
variable {σ:St3} {H:Hp3} {Q:VK3} {D0:Ends3} {a p:Addr} {x y:D} {ta tb te:TE3} {p1 p2:Int} {ps:List Pt}
theorem g_ninX (h:seqH H y = some (ps.map prP)) (q:Q (.bl (!decide ((p1,p2)∈ps))) H):r3inX true (.tup [.int p1,.int p2]) y H Q:=.inl (g_ninP h q)
theorem g_inD (h:H a = some (.dic (tabP ps))) (q:Q (.bl (decide ((p1,p2)∈ps))) H):r3inX false (.tup [.int p1,.int p2]) (.ref a) H Q:=by
 refine .inr ?_
 have e:keysOf [D.int p1,.int p2] = some (kP (p1,p2)):=rfl
 (delta r3inD; simp only [e,h,dlook_tab])
 exact q
theorem g_ninD (h:H a = some (.dic (tabP ps))) (q:Q (.bl (!decide ((p1,p2)∈ps))) H):r3inX true (.tup [.int p1,.int p2]) (.ref a) H Q:=by
 refine .inr ?_
 have e:keysOf [D.int p1,.int p2] = some (kP (p1,p2)):=rfl
 (delta r3inD; simp only [e,h,dlook_tab])
 exact q
theorem g_dp (h:te σ H fun v H1 => ta σ H1 fun x H2 => tb σ H2 fun y H3 => dpk v x y σ H3 D0.nx):dp3 ta tb te D0 σ H:=h
theorem g_dpk {R:St3→Hp3→Prop} (ha:H a = some (.dic (tabP ps))) (hl:ps.length < 1000) (q:R σ (upd3 H a (.dic (tabP (addN ps (p1,p2)))))):dpk (.bl true) (.ref a) (.tup [.int p1,.int p2]) σ H R:=by
 have e:keysOf [D.int p1,.int p2] = some (kP (p1,p2)):=rfl
 (delta dpk; simp only [e,ha,dput_tab])
 exact ⟨by unfold tabP; rw [List.length_map]; exact hl,q⟩
theorem g_dn (h:∀ p,H p = none→Q (.ref p) (upd3 H p (.dic []))):dn3 σ H Q:=h
theorem g_dd (h:∀ p,H p = none→ta σ (upd3 H p (.dic [])) fun x H1 => tb σ H1 fun y H2 => ddk p x y H2 Q):dd3 ta tb σ H Q:=h
theorem g_ddk (h:H p = some (.dic [])) (q:Q (.ref p) (upd3 H p (.dic (tabP [(p1,p2)])))):ddk p (.tup [.int p1,.int p2]) (.bl true) H Q:=by
 have e:keysOf [D.int p1,.int p2] = some (kP (p1,p2)):=rfl
 (delta ddk; simp only [e]); exact ⟨h,q⟩
theorem g_dict (ha:H a = some (.lst (ps.map fun c => D.tup [prP c,.bl true]))) (hl:ps.length≤1000) (q:∀ p,H p = none→Q (.ref p) (upd3 H p (.dic (tabP (ps.foldl addN []))))):r3dict [.ref a] H Q:=by
 have e:dfold [] (tabP ps) = tabP (ps.foldl addN []):=dfold_tab ps []
 (delta r3dict; simp only [ha,prs_tab,e])
 exact ⟨by rw [List.length_map]; exact hl,q⟩
end
end L3
namespace L3
open PySem PySem.Spec PyProof.Rows L2
noncomputable def lets (z:Str):List D:=z.cps.toList.map fun c => D.str ⟨#[c]⟩
noncomputable def strsOf:List D→Option (List Str)
 | [] => some []
 | .str b::ds => (strsOf ds).map (b::·)
 | _::_ => none
theorem strsOf_map (bs:List Str):strsOf (bs.map D.str) = some bs:=by
 induction bs with
 | nil => rfl
 | cons b bs ih => rw [List.map_cons,strsOf,ih]; rfl
theorem strsOf_inv:∀ {ds:List D} {bs:List Str},strsOf ds = some bs→ds = bs.map D.str
 | [],bs,h => by cases h; rfl
 | d::ds,bs,h => by
  cases d with
  | str b =>
   rw [strsOf,Option.map_eq_some_iff] at h
   obtain ⟨cs,hc,rfl⟩:=h
   rw [strsOf_inv hc]; rfl
  | _ => cases h
noncomputable def joinZ (z:Str) (ys:List Str):Str:=⟨(ys.drop 1).foldl (fun acc p => acc++z.cps++p.cps) (ys.headD ⟨#[]⟩).cps⟩
noncomputable def r3join:D→List D→Hp3→VK3→Prop:=fun x xs H Q => match x,xs with
 | .str z,[.ref a] => (match H a with
  | some (.lst ds) => (match strsOf ds with
   | some ys => (ys.map fun y => y.cps.size).sum + ys.length * z.cps.size≤16777216∧Q (.str (joinZ z ys)) H
   | none => False)
  | _ => False)
 | _,_ => False
noncomputable def mz3 (r:D→List D→Hp3→VK3→Prop) (to:TE3) (t:TA3):TE3:=fun σ H Q => to σ H fun x H1 => (match x with
 | .str _ => t σ H1 fun xs H2 => r x xs H2 Q
 | _ => False)
noncomputable def mzk (r:D→List D→Hp3→VK3→Prop) (t:TA3) (σ:St3) (x:D) (H1:Hp3) (Q:VK3):Prop:=match x with
 | .str _ => t σ H1 fun xs H2 => r x xs H2 Q
 | _ => False
theorem g_mz {r:D→List D→Hp3→VK3→Prop} {to:TE3} {t:TA3} {σ:St3} {H:Hp3} {Q:VK3} (h:to σ H fun x H1 => mzk r t σ x H1 Q):mz3 r to t σ H Q:=h
theorem g_mzk {r:D→List D→Hp3→VK3→Prop} {t:TA3} {σ:St3} {z:Str} {H:Hp3} {Q:VK3} (h:t σ H fun xs H2 => r (.str z) xs H2 Q):mzk r t σ (.str z) H Q:=h
theorem g_join {z:Str} {ys:List Str} {a:Addr} {H:Hp3} {Q:VK3} (ha:H a = some (.lst (ys.map D.str))) (hl:(ys.map fun y => y.cps.size).sum + ys.length * z.cps.size≤16777216) (q:Q (.str (joinZ z ys)) H):r3join (.str z) [.ref a] H Q:=by
 (delta r3join; simp only [ha,strsOf_map]); exact ⟨hl,q⟩
noncomputable def cutZ (z:Str) (lo hi:Option Int):Str:=⟨(cut3 z.cps.toList lo hi).toArray⟩
noncomputable def r3slZ:RSl:=fun x lo hi H Q => match x with
 | .str z => z.length≤sizeLine∧Q (.str (cutZ z lo hi)) H
 | _ => False
theorem g_slZ {z:Str} {lo hi:Option Int} {H:Hp3} {Q:VK3} (hl:z.length≤sizeLine) (q:Q (.str (cutZ z lo hi)) H):r3slZ (.str z) lo hi H Q:=⟨hl,q⟩
end L3
namespace L3
open PySem PySem.Spec PyProof.Rows PySem.Calls L2
end L3
namespace L3
open PySem PySem.Spec PyProof.Rows L2
end L3
namespace L3
open PySem PySem.Spec PyProof.Rows L2
section
variable {X:Cx}
theorem RepL.strs_inv {K:PySem.W.Frag} {H:Hp} {bs:List Str}:∀ {vs:List V},RepL K H (bs.map D.str) vs→vs = bs.map V.str:=by
 induction bs with
 | nil => intro vs h; cases h; rfl
 | cons b bs ih =>
  intro vs h
  cases h with
  | cons r t =>
   cases r
   rw [ih t]; rfl
theorem strs_of:∀ {ys:List Str} {us:List Value},Vals (ys.map V.str) us→StrsAre us ys
 | [],_,.nil => .nil
 | y::ys,_,.cons r t => by
  obtain ⟨k,rfl⟩:=r
  exact .cons y k (strs_of t)
theorem mt_joinZ:MtR X "str.join" (fun x xs H Q => ∃ (z:Str) (a:Addr) (ys:List Str),x = .str z∧xs = [.ref a]∧SqL X.K H a (ys.map V.str)∧(ys.map fun y => y.cps.size).sum + ys.length * z.cps.size≤16777216∧Q (.str (joinZ z ys)) H):=by
 intro pins s σ H x xs v us Q I rx rs h
 obtain ⟨z,a,ys,rfl,rfl,hq,hl,q⟩:=h
 obtain ⟨t,rfl⟩:=rx
 obtain ⟨u,rfl,ru⟩:=vals1 rs
 cases ru
 obtain ⟨its,rv,pl,_⟩:=I.list hq
 refine join_list pl.isList (ys:=ys) (by simpa using strs_of rv) hl fun t' k => ?_
 exact ⟨.str (joinZ z ys),H,I.kept (t':=k) fun _ _ e => e,⟨t',rfl⟩,q⟩
theorem mt3_join:MtR X "str.join" (liftM X.K r3join):=by
 intro pins s σ H x xs v us Q I rx rs t
 obtain ⟨d,ds,H3,Q3,hr,rd,rds,t,k⟩:=t
 cases rd with
 | str z =>
  cases rds with
  | nil => exact t.elim
  | cons r1 r2 =>
   cases r2 with
   | cons _ _ => cases r1 <;> exact t.elim
   | nil =>
    cases r1 with
    | ref a =>
     (delta r3join at t; dsimp only at t)
     split at t
     ·rename_i ds ha
      split at t
      ·rename_i ys e
       obtain ⟨vs,ga,ra⟩:=hr a _ ha
       have w:=strsOf_inv e
       subst w
       have w:=ra.strs_inv
       subst w
       exact mt_joinZ pins s σ H _ _ v us Q I rx rs ⟨z,a,ys,rfl,rfl,SqL.of ga,t.1,k _ _ _ _ TK.refl hr (.str _) t.2⟩
      ·exact t.elim
     ·exact t.elim
    | _ => exact t.elim
 | _ => exact t.elim
theorem p3_zm {o e:Expr} {es:List Expr} {to:TE3} {t:TA3} {name:Str} {apos cpos:Pos} {id:String} {r:D→List D→Hp3→VK3→Prop} (slot:Slot "str" name id) (hty:typeOf (.builtin id) = pure (.type "method_descriptor"))
  (hm:MtR X id (liftM X.K r)) (ho:PE3 X o to) (ha:PA3 X (e::es) t) (hbase:attributeBase o name X.env (eval o X.env) = eval o X.env:=by rfl)
  (hfew:((backTo cpos (starEach (e::es) X.env)).all (fun x => !x.1) && (backToKw cpos (keywordEach [] X.env)).all (fun x => x.1.isSome) && decide ((e::es).length + ([]:List Keyword).length + (if ([]:List Keyword).isEmpty then 0 else 1) < 30)) = true:=by rfl)
  (hline:(apos.endLine == cpos.line) = true:=by rfl) (hs:starEach (e::es) X.env = (false,eval e X.env)::starEach es X.env:=by rfl) (hplain:(backTo cpos (starEach es X.env)).any (·.1) = false:=by rfl) :
  PE3 X (.Call (.Attribute o name apos) (e::es) [] cpos) (mz3 r to t) :=
 pe_imp (pe_bm PySem.F.plainAttrs_str slot hty hm ho ha hbase hfew hline hs hplain) fun _ _ _ zz => zz.ex fun σ3 H3 Q3 sr hr t k => ⟨σ3,H3,_,sr,hr,t,fun x v H3a Ha tka hra rx qa => by
  cases rx with
  | str z =>
   exact ⟨rfl,σ3,H3a,_,sr.mono tka,hra,qa,fun ds vs H3b Hb tkb hrb rs qb => ⟨.str z,ds,H3b,Q3,hrb,.str z,rs,qb,(k.mono tka).mono tkb⟩⟩
  | _ => exact qa.elim⟩
end
end L3
namespace L3
open PySem PySem.Spec PyProof.Rows L2
section
variable {X:Cx}
theorem clip_ix (v:Option Int) (d n:Nat):(match v with | none => (d:Int) | some i => max 0 (min (if i < 0 then i + (n:Int) else i) (n:Int))) = ((HT.sIx n d v:Nat):Int):=by
 cases v with
 | none => rfl
 | some i =>
  unfold HT.sIx
  dsimp only
  split <;> grind
theorem picked_cut (lo hi:Option Int) (n:Nat):Builtin.Str.strSliceIndices lo hi 1 n = (List.range (HT.sIx n n hi - HT.sIx n 0 lo)).map (HT.sIx n 0 lo + ·):=by
 have e1:=clip_ix lo 0 n
 have e2:=clip_ix hi n n
 rw [← sliceRange_one,← e1,← e2]
 cases lo <;> cases hi <;> rfl
theorem ix_le (v:Option Int) (n:Nat):HT.sIx n n v≤n:=by
 cases v with
 | none => exact Nat.le_refl n
 | some i =>
  unfold HT.sIx
  dsimp only
  split <;> grind
theorem slice_cut (z:Str) (lo hi:Option Int):Txt.slice z lo hi = cutZ z lo hi:=by
 have hl:z.cps.toList.length = z.length:=Array.length_toList
 have hh:=ix_le hi z.length
 unfold Txt.slice cutZ cut3
 rw [picked_cut,pick_run,hl]
 split
 ·rename_i c
  rw [Bool.and_eq_true] at c
  have c2:=c.2
  rw [beq_iff_eq] at c2
  have c3:HT.sIx z.length z.length hi - HT.sIx z.length 0 lo = z.length:=by simpa using c2
  obtain ⟨a⟩:=z
  congr 1
  apply Array.ext'
  rw [c3]
  by_cases h0:a.size = 0
  ·have e:a = #[]:=Array.eq_empty_of_size_eq_zero h0
   subst e
   simp
  ·have hlo:HT.sIx (Str.length ⟨a⟩) 0 lo = 0:=by
    have h1:Str.length ⟨a⟩ = a.size:=rfl
    grind
   rw [hlo,List.drop_zero,List.take_of_length_le (by rw [hl]; exact Nat.le_refl _)]
 ·rfl
theorem sl_text:SlR X (fun x lo hi H Q => ∃ z,x = .str z∧z.length≤sizeLine∧Q (.str (cutZ z lo hi)) H):=by
 intro pins s σ H x v vl vu lo hi sl Q I rx hs pl pu h
 obtain ⟨z,rfl,hz,q⟩:=h
 obtain ⟨t,rfl⟩:=rx
 have fin:∀ t' k,EP X pins σ Q (.str (Txt.slice z lo hi) t') { s with toks:=k }:=fun t' k => by
  rw [slice_cut]
  exact ⟨.str (cutZ z lo hi),H,I.kept (t':=k) fun _ _ e => e,⟨t',rfl⟩,q⟩
 refine ⟨"str",_,F.slot_str_getitem.lookup,typeIs_str _ _ _,?_⟩
 cases pl with
 | none =>
  cases pu with
  | none => exact wpAny_getItem_str_slice (l:=none) (u:=none) (st:=none) hs rfl (post_val_or_str ⟨Nat.le_trans (Txt.slice_le z _ _) hz,fin⟩)
  | int j u => exact wpAny_getItem_str_slice (l:=none) (u:=some (j,u)) (st:=none) hs rfl (post_val_or_str ⟨Nat.le_trans (Txt.slice_le z _ _) hz,fin⟩)
 | int i w =>
  cases pu with
  | none => exact wpAny_getItem_str_slice (l:=some (i,w)) (u:=none) (st:=none) hs rfl (post_val_or_str ⟨Nat.le_trans (Txt.slice_le z _ _) hz,fin⟩)
  | int j u => exact wpAny_getItem_str_slice (l:=some (i,w)) (u:=some (j,u)) (st:=none) hs rfl (post_val_or_str ⟨Nat.le_trans (Txt.slice_le z _ _) hz,fin⟩)
theorem sl3_text:SlR X (liftSl X.K r3slZ):=by
 intro pins s σ H x v vl vu lo hi sl Q I rx hs pl pu h
 obtain ⟨d,H3,Q3,hr,rd,t,k⟩:=h
 cases rd with
 | str z => exact sl_text pins s σ H _ v vl vu lo hi sl Q I rx hs pl pu ⟨z,rfl,t.1,k _ _ _ _ TK.refl hr (.str _) t.2⟩
 | _ => exact t.elim
end
end L3
namespace L3
open PySem L2
noncomputable def Bt (n:Nat) (i:Int):Prop:=i.natAbs < 2 ^ n
section
variable {m n:Nat} {i j:Int}
theorem Bt.mono (h:Bt m i) (l:m≤n):Bt n i:=Nat.lt_of_lt_of_le h (Nat.pow_le_pow_right (by decide) l)
theorem Bt.of_le (h:Bt m j) (l:i.natAbs≤j.natAbs):Bt m i:=Nat.lt_of_le_of_lt l h
theorem Bt.add (h:Bt m i) (g:Bt n j):Bt (max m n + 1) (i + j):=by
 have h':=Bt.mono h (Nat.le_max_left m n)
 have g':=Bt.mono g (Nat.le_max_right m n)
 show _ < _
 rw [Nat.pow_succ,Nat.mul_two]
 exact Nat.lt_of_le_of_lt (Int.natAbs_add_le i j) (Nat.add_lt_add h' g')
theorem Bt.neg (h:Bt m i):Bt m (-i):=by unfold Bt at *; rw [Int.natAbs_neg]; exact h
theorem Bt.sub (h:Bt m i) (g:Bt n j):Bt (max m n + 1) (i - j):=by rw [Int.sub_eq_add_neg]; exact h.add g.neg
theorem Bt.mul (h:Bt m i) (g:Bt n j):Bt (m + n) (i * j):=by
 unfold Bt at *
 rw [Int.natAbs_mul,Nat.pow_add]
 exact Nat.mul_lt_mul'' h g
theorem Bt.div (h:Bt m i):Bt m (i / j):=Bt.of_le h (Int.natAbs_ediv_le_natAbs i j)
theorem Bt.lit (h:i.natAbs < 2 ^ n):Bt n i:=h
end
noncomputable def CMulW (i j:Int):Prop:=CMul i j∨∃ m n,Bt m i∧Bt n j∧m + n≤134217728
theorem CMulW.of {m n:Nat} {i j:Int} (h:Bt m i) (g:Bt n j) (l:m + n≤134217728):CMulW i j:=.inr ⟨m,n,h,g,l⟩
noncomputable def CDivW (_ j:Int):Prop:=0 < j∧Bt 8999 j
noncomputable def zipD (ds es:List D):List D:=List.zipWith (fun x y => D.tup [x,y]) ds es
section
variable {σ:St3} {H:Hp3} {a b:Addr} {ds es:List D}
end
end L3
namespace L3
open PySem PySem.Spec PyProof.Rows L2
end L3
namespace L3
open PySem PySem.Spec PyProof.Rows L2
section
variable {X:Cx} {pins:List (Addr×Obj)} {σ:St} {H:Hp} {s:Shared} {h':Heap}
theorem turnedNew {t':Nat} {ch:List Addr} {T:Addr} {o:HO} (I:L2.Inv X pins σ H s) (k:∀ b u,b∉ch→s.heap.get? b = some u→h'.get? b = some u)
  (hf:∀ b∈ch,FpOk X pins H b) (hp:s.heap.objs.size≤T) (new:ObjOk X.prog X.w (upd H T o) h' T o):L2.Inv X pins σ (upd H T o) { s with heap:=h',toks:=t' }:=by
 have hn:H T = none:=I.hok.fresh hp
 refine I.step (g':=s.gens) (d':=s.drawn) (ch:=ch) (fun b hb => ?_) (fun b u _ _ hc e _ => k b u hc e) (fun b u _ _ hc e _ => ⟨u.slots,k b u hc e⟩)
  (fun b u _ e n => by rw [upd_ne (Nat.ne_of_lt (Nat.lt_of_lt_of_le (Heap.lt_size e) hp))]; exact n) (fun b u hc e => ⟨u,k b u hc e⟩)
  (fun b xs q => by rw [upd_ne (ne_of_none q hn)]; exact q) (fun b u xs q => by rw [upd_ne (ne_of_none q hn)]; exact q) (fun b ps q => ⟨#[],by rw [upd_ne (ne_of_none q hn),q]; simp⟩) (fun m hm => ?_) (fun b u e => ?_) I.bare
 ·obtain ⟨f0,f1,f2,f3,f4,f5⟩:=hf b hb
  exact ⟨f3,f1,f4,f5⟩
 ·obtain ⟨u,es,ep,hu,r⟩:=hm
  exact ⟨u,es,ep,k _ u (fun z => (hf _ z).2.1 rfl) hu,r⟩
 ·by_cases hb:b = T
  ·subst hb; rw [upd_same] at e; cases e; exact new
  ·rw [upd_ne hb] at e
   refine (I.hok b u e).stay (fun c v hc q => k c v (fun z => ?_) q) (fun c q => by rw [upd_ne (ne_of_none q hn)]; exact q) fun c xs q => by rw [upd_ne (ne_of_none q hn)]; exact q
   have f0:=(hf c z).1
   rcases hc with rfl | hc
   ·rw [f0] at e; cases e
   ·rw [f0] at hc; cases hc
theorem turnedL {t':Nat} {ch:List Addr} (I:L2.Inv X pins σ H s) (k:∀ b u,b∉ch→s.heap.get? b = some u→h'.get? b = some u)
  (hf:∀ b∈ch,FpOk X pins H b):L2.Inv X pins σ H { s with heap:=h',toks:=t' }:=by
 refine I.step (g':=s.gens) (d':=s.drawn) (ch:=ch) (fun b hb => ?_) (fun b u _ _ hc e _ => k b u hc e) (fun b u _ _ hc e _ => ⟨u.slots,k b u hc e⟩)
  (fun b u _ e n => n) (fun b u hc e => ⟨u,k b u hc e⟩)
  (fun b xs q => q) (fun b u xs q => q) (fun b ps q => ⟨#[],by rw [q]; simp⟩) (fun m hm => ?_) (fun b u e => ?_) I.bare
 ·obtain ⟨f0,f1,f2,f3,f4,f5⟩:=hf b hb
  exact ⟨f3,f1,f4,f5⟩
 ·obtain ⟨u,es,ep,hu,r⟩:=hm
  exact ⟨u,es,ep,k _ u (fun z => (hf _ z).2.1 rfl) hu,r⟩
 ·refine (I.hok b u e).stay (fun c v hc q => k c v (fun z => ?_) q) (fun c q => q) fun c xs q => q
  have f0:=(hf c z).1
  rcases hc with rfl | hc
  ·rw [f0] at e; cases e
  ·rw [f0] at hc; cases hc
end
end L3
namespace L3
open PySem PySem.Spec PyProof.Rows L2
section
variable {X:Cx}
theorem boot_reversed:bootBuiltins "reversed" = some (.type "reversed"):=by rfl
end
end L3
namespace L3
open PySem PySem.Spec PyProof.Rows L2
end L3
namespace L3
open PySem PySem.Spec PyProof.Rows L2
end L3
namespace L3
open PySem PySem.Spec PyProof.Rows L2
end L3
namespace L3
open PySem PySem.Spec PyProof.Rows L2
end L3
namespace L3
open PySem PySem.Spec PyProof.Rows L2
theorem en_get {ds:List D} {i:Nat} {d:D} (h:(zipD (rng 0 ds.length) ds)[i]? = some d):∃ x,ds[i]? = some x∧d = .tup [.int i,x]:=by
 unfold zipD at h
 rw [List.getElem?_zipWith] at h
 cases hx:ds[i]? with
 | none => rw [hx] at h; cases hr:(rng 0 ds.length)[i]? <;> rw [hr] at h <;> cases h
 | some x =>
  have hi:=(List.getElem?_eq_some_iff.mp hx).1
  rw [hx,rng_get hi] at h
  refine ⟨x,rfl,?_⟩
  simp only [Int.zero_add] at h
  exact (Option.some.inj h).symm
theorem en_len (ds:List D):(zipD (rng 0 ds.length) ds).length = ds.length:=by unfold zipD; rw [List.length_zipWith,rng_len,Nat.min_self]
structure XN where
 c:Str
 fs:List (Str×D):=[]
noncomputable instance:Coe Str XN:=⟨fun c => ⟨c,[]⟩⟩
noncomputable abbrev EK3:=XN→Hp3→Prop
noncomputable abbrev SpE:=List D→Hp3→VK3→EK3→Prop
noncomputable def cbE (sp:SpE) (t:TA3):EK3→TE3:=fun E σ H Q => t σ H fun ds H1 => sp ds H1 Q E
noncomputable def rz3 (E:EK3) (c:Str) (te:TE3):TS3:=fun _ σ H => te σ H fun _ H1 => ∃ H2,Sub3 H2 H1∧E ⟨c,[]⟩ H2
noncomputable def rf3 (E:EK3) (c f:Str) (te:TE3):TS3:=fun _ σ H => te σ H fun d H1 => ∃ H2,Sub3 H2 H1∧E ⟨c,[(f,d)]⟩ H2
section
variable {H:Hp3} {Q:VK3} {σ:St3} {t:TA3} {sp:SpE} {E:EK3} {c:Str} {te:TE3}
theorem g_cbE (h:t σ H fun ds H1 => sp ds H1 Q E):cbE sp t E σ H Q:=h
theorem g_rz {D:Ends3} (h:te σ H fun _ H1 => ∃ H2,Sub3 H2 H1∧E ⟨c,[]⟩ H2):rz3 E c te D σ H:=h
theorem g_rf {D:Ends3} {f:Str} (h:te σ H fun d H1 => ∃ H2,Sub3 H2 H1∧E ⟨c,[(f,d)]⟩ H2):rf3 E c f te D σ H:=h
end
noncomputable def isxk (tbl:List (Str×Bool)) (x:D) (H:Hp3) (Q:VK3):Prop:=match x with
 | .ref a => (match H a with
  | some (.exc c _) => (match tbl.lookup c with
   | some b => Q (.bl b) H
   | none => False)
  | _ => False)
 | _ => False
noncomputable def isx3 (tbl:List (Str×Bool)) (ta:TE3):TE3:=fun σ H Q => ta σ H fun x H1 => isxk tbl x H1 Q
noncomputable def sxS (i:Nat) (t:EK3→TE3):EK3→TS3:=fun E D σ H => t E σ H fun v H1 => D.nx (σ.set i (some v)) H1
noncomputable def gone (i:Nat) (D:Ends3):Ends3:={ nx:=fun σ' H' => D.nx (σ'.set i none) H',rt:=D.rt,bk:=fun σ' H' => D.bk (σ'.set i none) H',ct:=fun σ' H' => D.ct (σ'.set i none) H' }
noncomputable def trA3 (t:EK3→TS3) (cs:List Str) (i:Nat) (th:TS3):TS3:=fun D σ H => t (fun x H1 => x.c∈cs∧∀ a,H1 a = none→th (gone i D) (σ.set i (some (.ref a))) (upd3 H1 a (.exc x.c x.fs))) D σ H
section
variable {H:Hp3} {Q:VK3} {σ:St3} {a:Addr} {c:Str} {b:Bool} {tbl:List (Str×Bool)} {ta:TE3}
theorem g_isx3 (h:ta σ H fun x H1 => isxk tbl x H1 Q):isx3 tbl ta σ H Q:=h
theorem g_isxk (h:H a = some (.exc c fs)) (hl:tbl.lookup c = some b) (q:Q (.bl b) H):isxk tbl (.ref a) H Q:=by
 (delta isxk; simp only [h,hl]); exact q
theorem g_trA {D:Ends3} {t:EK3→TS3} {cs:List Str} {i:Nat} {th:TS3} (h:t (fun x H1 => x.c∈cs∧∀ a,H1 a = none→th (gone i D) (σ.set i (some (.ref a))) (upd3 H1 a (.exc x.c x.fs))) D σ H):trA3 t cs i th D σ H:=h
theorem g_gone {D:Ends3} {i:Nat} (h:D.nx (σ.set i none) H):(gone i D).nx σ H:=h
theorem g_sxS {D:Ends3} {E:EK3} {i:Nat} {t:EK3→TE3} (h:t E σ H fun v H1 => D.nx (σ.set i (some v)) H1):sxS i t E D σ H:=h
end
noncomputable abbrev FsR (K:PySem.W.Frag) (H:Hp) (fs:List (Str×D)) (xs:List (Str×V)):Prop:=Paired (fun (p:Str×D) (q:Str×V) => p.1 = q.1∧Rep K H p.2 q.2) fs xs
section
variable {K:PySem.W.Frag} {H:Hp}
theorem FsR.look {f:Str} {d:D}:∀ {fs:List (Str×D)} {xs:List (Str×V)},FsR K H fs xs→fs.lookup f = some d→∃ v,xs.lookup f = some v∧Rep K H d v:=by
 intro fs xs h l
 induction h with
 | nil => cases l
 | @cons p p' _ _ e t ih =>
  obtain ⟨g,d'⟩:=p
  obtain ⟨g',x⟩:=p'
  obtain ⟨e,q⟩:=e
  have e':g = g':=e
  subst e'
  rw [List.lookup_cons] at l ⊢
  cases hb:f == g with
  | true => rw [hb] at l; cases l; exact ⟨x,rfl,q⟩
  | false => rw [hb] at l; exact ih l
end
noncomputable def XAv (h:Heap) (a:Addr) (C:Value) (dd:Option Addr) (T:Addr) (fl:Value):Prop :=
 ∃ oe vs oT ts,h.get? a = some oe∧(oe.cls = C∧oe.dict = dd)∧oe.data = .fields vs∧vs[1]? = some (.ref T)∧T≠a∧h.get? T = some oT∧oT.data = .fields ts∧ts[3]? = some fl
noncomputable abbrev XAt (h:Heap) (a:Addr) (C:Value) (dd:Option Addr) (T:Addr):Prop:=XAv h a C dd T .none
noncomputable def CXE (P:Program) (w:World):CXT:=fun outer H s E e s' => ∃ a T C dd H',e = .ref a∧s'.os = s.os∧AllBare s'.gens∧Un (frs outer) [] H H' s.heap s'.heap∧HOk P w H' s'.heap ∧
 s.heap.get? a = none∧s.heap.get? T = none∧H' a = none∧H' T = none∧XAt s'.heap a (.ref C) dd T∧E (.ref C) dd H'
theorem hok_there {P:Program} {w:World} {H:Hp} {h:Heap} {a:Addr} {o:HO} (x:HOk P w H h) (e:H a = some o):∃ u,h.get? a = some u:=by
 have y:=x a o e
 cases o with
 | lst xs => obtain ⟨_,_,_,_,e⟩:=y; exact ⟨_,e⟩
 | tup xs => obtain ⟨_,_,_,_,e,_⟩:=y; exact ⟨_,e⟩
 | dK kvs => obtain ⟨_,_,_,_,_,_,_,e,_⟩:=y; exact ⟨_,e⟩
 | dT kvs => obtain ⟨_,_,_,_,_,_,_,e,_⟩:=y; exact ⟨_,e⟩
 | set S n => obtain ⟨_,_,_,_,e,_⟩:=y; exact ⟨_,e⟩
 | ins C dx fs => obtain ⟨_,_,_,e,_⟩:=y; exact ⟨_,e⟩
 | own z => obtain ⟨_,e⟩:=y; exact ⟨_,e⟩
 | xd fs => obtain ⟨_,⟨_,_,_,e,_⟩,_⟩:=y; exact ⟨_,e⟩
 | rng lo hi => obtain ⟨_,_,_,e⟩:=y; exact ⟨_,e⟩
 | frz ob u => obtain ⟨e,_⟩:=y; exact ⟨_,e⟩
 | tbl ps => exact ⟨_,y⟩
 | met f z => exact ⟨_,y⟩
 | ext φ => obtain ⟨_,e,_⟩:=y; exact e
theorem hok_none {P:Program} {w:World} {H:Hp} {h:Heap} {a:Addr} (x:HOk P w H h) (e:h.get? a = none):H a = none:=by
 cases q:H a with
 | none => rfl
 | some o => obtain ⟨u,z⟩:=hok_there x q; rw [e] at z; cases z
structure Lft (fs:List Addr) (a T:Addr) (h h':Heap):Prop where
 keep:∀ b o,b≠a→b≠T→b∉fs→h.get? b = some o→h'.get? b = some o
 slot:∀ b o,b∈fs→h.get? b = some o→∃ sl,h'.get? b = some { o with slots:=sl }
section
variable {M:Model} {A:Around} {E:Value→Shared→Prop} {s:Shared} {env:Env} {outer:List Env} {L a T t:Addr} {C:Value} {dd:Option Addr} {fl:Value} {base:Heap} {Q:Unit→Shared→Prop}
theorem set_one {oe:Obj} {f:Array Value→Array Value} {vs:Array Value} (hd:oe.data = .fields vs):(Obj.mapFields f oe).cls = oe.cls∧(Obj.mapFields f oe).dict = oe.dict∧(Obj.mapFields f oe).data = .fields (f vs):=by
 obtain ⟨c,d,x,sl⟩:=oe
 cases hd
 exact ⟨rfl,rfl,rfl⟩
theorem note_new {oe:Obj} {vs:Array Value} {head:Value} {nx:Bool} (hfr:A.frames = some (env::outer)) (hf:env.frame = some L) (hl:s.heap.FunFrames base (env::outer)) (he:s.heap.get? a = some oe) (hd:oe.data = .fields vs) (hz:1 < vs.size)
  (h:∀ h' T',Lft (frs (env::outer)) a a s.heap h'→XAv h' a oe.cls oe.dict T' (rawInt L)→s.heap.get? T' = none→Q () { s with heap:=h' }) :
  wpAny M A (do let x ← frameOf env; let pl ← entryPlaceOf L nx; let y ← EntryCells.newEntry head x .none (rawInt L) .none pl; setField (.ref a) 1 y) Q E s:=by
 have naf:a∉frs (env::outer):=fun hm => by
  obtain ⟨_,o,ho,hnf⟩:=hl.mem hm
  rw [he] at ho; cases ho; exact hnf vs hd
 refine wpAny_bind (wpAny_frameOf_fun hfr hl hf fun g1 sl1 => wpAny_bind (wpAny_entryPlaceOf fun pl hpl => ?_))
 unfold EntryCells.newEntry newFields
 refine wpAny_bind (wpAny_newObj_type ?_ (hpl.sizeOk5 _ _ _ _ _))
 have e1:g1.get? a = some oe:=(sl1.2.1 a naf).trans he
 generalize hts:([head,.ref L,.none,rawInt L,.none]++(if pl.isEmpty then List.replicate 6 Value.none else pl)).toArray = ts
 have h3:ts[3]? = some (rawInt L):=by rw [← hts]; rfl
 have e2:=Heap.get?_push_of_some (h:=g1) { cls:=.type "traceback",dict:=none,data:=.fields ts } e1
 refine wpAny_setField e2 hd hz (h _ g1.objs.size ⟨fun b o n1 _ n3 q => ?_,fun b o hb q => ?_⟩ ?_ ?_)
 ·refine (Heap.get?_update_other _ _ (Ne.symm n1)).trans (Heap.get?_push_of_some _ ((sl1.2.1 b n3).trans q))
 ·obtain ⟨sl,z⟩:=sl1.2.2 b o q
  exact ⟨sl,(Heap.get?_update_other _ _ fun w => naf (by rw [w]; exact hb)).trans (Heap.get?_push_of_some _ z)⟩
 ·obtain ⟨c1,c2,c3⟩:=set_one (f:=(·.setIfInBounds 1 (Value.ref g1.objs.size))) hd
  have nT:a≠g1.objs.size:=Nat.ne_of_lt (Heap.lt_size e1)
  refine ⟨_,_,_,ts,Heap.get?_update_self _ e2 (Obj.isFreed_of_fields c3),⟨c1,c2⟩,c3,by simp [hz],Ne.symm nT,(Heap.get?_update_other _ _ nT).trans (Heap.get?_push_size g1 rfl),rfl,h3⟩
 ·cases q:s.heap.get? g1.objs.size with
  | none => rfl
  | some o =>
   obtain ⟨sl,z⟩:=sl1.2.2 _ o q
   exact absurd (Heap.lt_size z) (Nat.lt_irrefl _)
theorem xav_set {v:Value} {h:Heap} (x:XAv h a C dd T fl):XAv (h.update T (Obj.mapFields (·.setIfInBounds 3 v))) a C dd T v:=by
 obtain ⟨oe,vs,oT,ts,he,hc,hd,h1,hTa,hT,hdT,h3⟩:=x
 have z3:=(Array.getElem?_eq_some_iff.mp h3).1
 obtain ⟨_,_,c3⟩:=set_one (f:=(·.setIfInBounds 3 v)) hdT
 exact ⟨oe,vs,_,_,(Heap.get?_update_other _ _ hTa).trans he,hc,hd,h1,hTa,Heap.get?_update_self _ hT (Obj.isFreed_of_fields c3),c3,by simp [z3]⟩
theorem xav_nfr {h:Heap} (x:XAv h a C dd T fl) (hl:h.FunFrames base (env::outer)):∀ b∈frs (env::outer),b≠T:=fun b hb z => by
 obtain ⟨oe,vs,oT,ts,he,hc,hd,h1,hTa,hT,hdT,h3⟩:=x
 obtain ⟨_,o',ho',hnf⟩:=hl.mem hb
 rw [z,hT] at ho'; cases ho'
 exact hnf _ hdT
theorem lft_set {h:Heap} {v:Value} (x:XAv h a C dd T fl) (hl:h.FunFrames base (env::outer)):Lft (frs (env::outer)) a T h (h.update T (Obj.mapFields (·.setIfInBounds 3 v))) :=
 ⟨fun b o _ n _ q => (Heap.get?_update_other _ _ (Ne.symm n)).trans q,fun b o hb q => ⟨o.slots,(Heap.get?_update_other _ _ (Ne.symm (xav_nfr x hl b hb))).trans q⟩⟩
theorem land_on (x:XAv s.heap a C dd T fl) (h:XAt (s.heap.update T (Obj.mapFields (·.setIfInBounds 3 .none))) a C dd T→Q () { s with heap:=s.heap.update T (Obj.mapFields (·.setIfInBounds 3 .none)) }):wpAny M A (setFlight (.ref a) none) Q E s:=by
 have x':=xav_set (v:=.none) x
 obtain ⟨oe,vs,oT,ts,he,hc,hd,h1,hTa,hT,hdT,h3⟩:=x
 exact wpAny_setFlight_none he hd h1 hT hdT (Array.getElem?_eq_some_iff.mp h3).1 (h x')
theorem note_av (hfr:A.frames = some (env::outer)) (hf:env.frame = some L) (hl:s.heap.FunFrames base (env::outer)) (x:XAv s.heap a C dd T fl)
  (h:∀ h' T' fl',Lft (frs (env::outer)) a T s.heap h'→XAv h' a C dd T' fl'→(s.heap.get? T' = none∨T' = T)→Q () { s with heap:=h' }):wpAny M A (noteFrame (.ref a) env) Q E s:=by
 have x':=xav_set (v:=.none) x
 have lf:=lft_set (v:=.none) x hl
 have nfr:=xav_nfr x hl
 obtain ⟨oe,vs,oT,ts,he,hc,hd,h1,hTa,hT,hdT,h3⟩:=id x
 have z3:=(Array.getElem?_eq_some_iff.mp h3).1
 unfold noteFrame
 simp only [hf]
 refine wpAny_bind (wpAny_field he hd h1 ?_)
 rw [if_pos (by simp)]
 refine wpAny_bind (wpAny_field hT hdT h3 ?_)
 by_cases hL:(fl == rawInt L) = true
 ·rw [if_pos hL]
  exact wpAny_pure (h s.heap T fl ⟨fun b o _ _ _ q => q,fun b o _ q => ⟨o.slots,q⟩⟩ x (.inr rfl))
 ·rw [if_neg hL]
  refine wpAny_bind (wpAny_setField hT hdT z3 ?_)
  have ot:∀ b,b≠T→(s.heap.update T (Obj.mapFields (·.setIfInBounds 3 Value.none))).get? b = s.heap.get? b:=fun b n => Heap.get?_update_other _ _ (Ne.symm n)
  have hl1:Heap.FunFrames (s.heap.update T (Obj.mapFields (·.setIfInBounds 3 Value.none))) base (env::outer):=hl.of_keeps fun b o hb hnf => ⟨o,(ot b fun z => by rw [z,hT] at hb; cases hb; exact hnf _ hdT).trans hb,rfl⟩
  obtain ⟨oe1,vs1,_,_,he1,hc1,hd1,h11,_,hT1,_⟩:=x'
  refine note_new (s:={ s with heap:=s.heap.update T (Obj.mapFields (·.setIfInBounds 3 Value.none)) }) hfr hf hl1 he1 hd1 (Array.getElem?_eq_some_iff.mp h11).1 fun h' T' l2 x2 n2 => ?_
  rw [hc1.1,hc1.2] at x2
  refine h h' T' _ ⟨fun b o n1 n2 n3 q => l2.keep b o n1 n1 n3 (lf.keep b o n1 n2 n3 q),fun b o hb q => l2.slot b o hb ((ot b (nfr b hb)).trans q)⟩ x2 ?_
  by_cases z:T' = T
  ·exact .inr z
  ·exact .inl ((ot T' z).symm.trans n2)
theorem note_land (hfr:A.frames = some (env::outer)) (hf:env.frame = some L) (hl:s.heap.FunFrames base (env::outer)) (x:XAv s.heap a C dd T fl)
  (h:∀ h' T',Lft (frs (env::outer)) a T s.heap h'→XAt h' a C dd T'→(s.heap.get? T' = none∨T' = T)→Q () { s with heap:=h' }):wpAny M A (noteFrame (.ref a) env) (fun _ s2 => wpAny M A (setFlight (.ref a) none) Q E s2) E s:=by
 refine note_av hfr hf hl x fun h1 T1 fl1 l1 x1 n1 => land_on (s:={ s with heap:=h1 }) x1 fun x2 => h _ T1 ?_ x2 n1
 have tf:∀ b∈frs (env::outer),b≠T1:=fun b hb z => by
  obtain ⟨_,o',ho',hnf⟩:=hl.mem hb
  obtain ⟨sl,q⟩:=l1.slot b o' hb ho'
  obtain ⟨_,_,oT,ts,_,_,_,_,_,hT,hdT,_⟩:=x1
  rw [z,hT] at q; cases q
  exact hnf _ hdT
 refine ⟨fun b o m1 m2 m3 q => ?_,fun b o hb q => ?_⟩
 ·refine (Heap.get?_update_other _ _ (Ne.symm fun z => ?_)).trans (l1.keep b o m1 m2 m3 q)
  rcases n1 with n1 | n1
  ·rw [z,n1] at q; cases q
  ·exact m2 (z.trans n1)
 ·obtain ⟨sl,z⟩:=l1.slot b o hb q
  exact ⟨sl,(Heap.get?_update_other _ _ (Ne.symm (tf b hb))).trans z⟩
theorem leave_first {sl:Array (Option Value)} (hfr:A.frames = some (env::outer)) (hf:env.frame = some L) (hl:s.heap.FunFrames base (env::outer)) (he:s.heap.get? a = some { cls:=C,dict:=dd,data:=.fields #[.ref t,.none,.none,.none,.bool false,.none],slots:=sl })
  (h:∀ h' T',Lft (frs (env::outer)) a a s.heap h'→XAt h' a C dd T'→s.heap.get? T' = none→Q () { s with heap:=h' }):wpAny M A (leaving env (.ref a)) Q E s:=by
 unfold leaving noteFrame
 simp only [hf]
 refine wpAny_bind (wpAny_bind (wpAny_field he rfl (x:=.none) rfl ?_))
 rw [if_neg (by decide)]
 refine note_new hfr hf hl he rfl (by show 1 < 6; decide) fun h1 T1 l1 x1 n1 => land_on (s:={ s with heap:=h1 }) x1 fun x2 => h _ T1 ⟨fun b o m1 m2 m3 q => ?_,fun b o hb q => ?_⟩ x2 n1
 ·refine (Heap.get?_update_other _ _ (Ne.symm fun z => ?_)).trans (l1.keep b o m1 m2 m3 q)
  rw [z,n1] at q; cases q
 ·obtain ⟨sl,z⟩:=l1.slot b o hb q
  exact ⟨sl,(Heap.get?_update_other _ _ fun y => by rw [← y,n1] at q; cases q).trans z⟩
end
theorem cxe_of {X:Cx} {pins:List (Addr×Obj)} {σ:St} {H:Hp} {s:Shared} {h':Heap} {a T T' C:Addr} {dd:Option Addr} {E:XK} (I:L2.Inv X pins σ H s) (hex:X.ex = []) (hst:X.stack = X.env::X.outer) (hfrm:X.env.frame = some X.env.locals)
  (na:X.s₀.heap.get? a = none) (nT:X.s₀.heap.get? T' = none) (n0:X.s₀.heap.get? T = none) (ua:H a = none) (uT:H T' = none) (u0:H T = none)
  (k:Lft (frs (X.env::X.outer)) a T s.heap h')
  (x:XAt h' a (.ref C) dd T') (hE:E (.ref C) dd H):CXE X.prog X.w X.outer X.H₀ X.s₀ E (.ref a) { s with heap:=h' }:=by
 have k1:=k.keep
 have k2:=k.slot
 have fr1:∀ b,b∈frs (X.env::X.outer)→b = X.env.locals∨b∈X.fs:=fun b hb => by
  unfold frs at hb; rw [List.filterMap_cons,hfrm] at hb
  exact List.mem_cons.mp hb
 have fr2:∀ b,b∈X.fs→b∈frs (X.env::X.outer):=fun b hb => by
  unfold frs; rw [List.filterMap_cons,hfrm]; exact List.mem_cons_of_mem _ hb
 have neL:∀ b o,X.s₀.heap.get? b = some o→b≠X.env.locals:=fun b o e => Nat.ne_of_lt (Nat.lt_of_lt_of_le (Heap.lt_size e) I.ok.above)
 have nea:∀ b o,X.s₀.heap.get? b = some o→b≠a∧b≠T:=fun b o e => ⟨fun z => (by rw [z,na] at e; cases e),fun z => (by rw [z,n0] at e; cases e)⟩
 have nex:∀ b:Addr,b∉X.ex:=fun b hb => by rw [hex] at hb; cases hb
 have stf:∀ b∈frs (X.env::X.outer),H b = none:=fun b hb => I.stkFree b (by rw [hst]; exact hb)
 refine ⟨a,T',C,dd,H,rfl,I.os,I.bare,⟨fun b o e n hb _ => ?_,fun b o e n hb _ => ?_,fun b o e n _ => I.base.free b o e n (nex b),fun b o e _ => ?_,I.base.tups,I.base.frzs,I.base.tbls⟩,fun b u e => ?_,na,nT,ua,uT,x,hE⟩
 ·refine k1 b o (nea b o e).1 (nea b o e).2 (fun z => ?_) (I.base.keep b o e n hb (nex b))
  rcases fr1 b z with z | z
  ·exact neL b o e z
  ·exact hb z
 ·obtain ⟨sl,e1⟩:=I.base.slot b o e n hb (nex b)
  obtain ⟨sl',e2⟩:=k2 b _ (fr2 b hb) e1
  exact ⟨sl',e2⟩
 ·obtain ⟨o',e1⟩:=I.base.there b o e (nex b)
  by_cases hb:b∈frs (X.env::X.outer)
  ·obtain ⟨sl,e2⟩:=k2 b o' hb e1
   exact ⟨_,e2⟩
  ·exact ⟨o',k1 b o' (nea b o e).1 (nea b o e).2 hb e1⟩
 ·refine (I.hok b u e).stay (fun c v hc q => k1 c v ?_ ?_ ?_ q) (fun _ q => q) fun _ _ q => q
  ·rintro rfl
   rcases hc with rfl | hc
   ·rw [ua] at e; cases e
   ·rw [ua] at hc; cases hc
  ·rintro rfl
   rcases hc with rfl | hc
   ·rw [u0] at e; cases e
   ·rw [u0] at hc; cases hc
  ·intro hm
   have:=stf c hm
   rcases hc with rfl | hc
   ·rw [this] at e; cases e
   ·rw [this] at hc; cases hc
noncomputable def Rises (X:Cx) (E:XK):Prop:=∀ (pins:List (Addr×Obj)) (σ:St) (H H1:Hp) (s s1:Shared) (e C t:Addr) (dd:Option Addr) (sl:Array (Option Value)),L2.Inv X pins σ H1 s1→s1.heap.get? e = none→L2.Inv X pins σ H s→H e = none →
 s.heap.get? e = some { cls:=.ref C,dict:=dd,data:=.fields #[.ref t,.none,.none,.none,.bool false,.none],slots:=sl }→E (.ref C) dd H→X.xe (.ref e) s
section
variable {P:Program} {w:World} {K:PySem.W.Frag} {mg:Str→Option Value} {base:Heap} {N:List Str} {qual:Str} {scope:Scope} {f:Addr} {cd:Value} {A:Around} {outer:List Env} {s0:Shared} {H0:Hp} {E:XK}
theorem rises_def:Rises (cxOf (CXE P w) P w K mg base N qual scope f cd A outer s0 H0 E) E:=by
 intro pins σ H H1 s s1 e C t dd sl I1 ne1 I ue he hE
 have ne:s0.heap.get? e = none:=by
  cases z:s0.heap.get? e with
  | none => rfl
  | some o => obtain ⟨o',r⟩:=I1.base.there e o z (fun z => nomatch z); rw [ne1] at r; cases r
 have up:∀ b o,s0.heap.get? b = some o→∃ o',s.heap.get? b = some o':=fun b o q => I.base.there b o q (fun z => nomatch z)
 have dn:∀ b,s.heap.get? b = none→s0.heap.get? b = none:=fun b q => by
  cases z:s0.heap.get? b with
  | none => rfl
  | some o => obtain ⟨o',r⟩:=up b o z; rw [q] at r; cases r
 refine leave_first I.ok.frames rfl I.stack he fun h'' T' k x nT => ?_
 exact cxe_of (T:=e) I rfl rfl rfl ne (dn _ nT) ne ue (hok_none I.hok nT) ue k x hE
theorem passes_def:Passes (CXE P w) (cxOf (CXE P w) P w K mg base N qual scope f cd A outer s0 H0 E) E:=by
 rintro pins σ H s e s' I ⟨a,T,C,dd,H',rfl,os,bare,un,hok,na,nT,ua,uT,x,hE⟩
 have I':L2.Inv (cxOf (CXE P w) P w K mg base N qual scope f cd A outer s0 H0 E) pins σ H' s':=I.call' os un hok bare fun b z => nomatch z
 have up:∀ b o,s0.heap.get? b = some o→∃ o',s.heap.get? b = some o':=fun b o q => I.base.there b o q (fun z => nomatch z)
 have dn:∀ b,s.heap.get? b = none→s0.heap.get? b = none:=fun b q => by
  cases z:s0.heap.get? b with
  | none => rfl
  | some o => obtain ⟨o',r⟩:=up b o z; rw [q] at r; cases r
 have up':∀ b o,s0.heap.get? b = some o→∃ o',s'.heap.get? b = some o':=fun b o q => I'.base.there b o q (fun z => nomatch z)
 show wpAny _ _ (leaving _ (.ref a)) _ _ _
 unfold leaving
 refine wpAny_bind (note_land (s:=s') I'.ok.frames rfl I'.stack x fun h'' T' k x' nT' => ?_)
 have nT2:s0.heap.get? T' = none∧H' T' = none:=by
  rcases nT' with z | z
  ·refine ⟨?_,hok_none hok z⟩
   cases q:s0.heap.get? T' with
   | none => rfl
   | some o => obtain ⟨o',r⟩:=up' _ o q; rw [z] at r; cases r
  ·subst z; exact ⟨dn _ nT,uT⟩
 exact cxe_of (T:=T) I' rfl rfl rfl (dn a na) nT2.1 (dn T nT) ua nT2.2 uT k x' hE
end
theorem un_more {fs:List Addr} {H H':Hp} {h h1 h2:Heap} {a T:Addr} (u:Un fs [] H H' h h1) (na:h.get? a = none) (nT:h.get? T = none)
  (k:Lft fs a T h1 h2):Un fs [] H H' h h2:=by
 obtain ⟨k1,k2⟩:=k
 have ne:∀ b o,h.get? b = some o→b≠a∧b≠T:=fun b o e => ⟨fun z => (by rw [z,na] at e; cases e),fun z => (by rw [z,nT] at e; cases e)⟩
 refine ⟨fun b o e n hb hx => k1 b o (ne b o e).1 (ne b o e).2 hb (u.keep b o e n hb hx),fun b o e n hb hx => ?_,u.free,fun b o e hx => ?_,u.tups,u.frzs,u.tbls⟩
 ·obtain ⟨sl,e1⟩:=u.slot b o e n hb hx
  obtain ⟨sl',e2⟩:=k2 b _ hb e1
  exact ⟨sl',e2⟩
 ·obtain ⟨o',e1⟩:=u.there b o e hx
  by_cases hb:b∈fs
  ·obtain ⟨sl,e2⟩:=k2 b o' hb e1
   exact ⟨_,e2⟩
  ·exact ⟨o',k1 b o' (ne b o e).1 (ne b o e).2 hb e1⟩
theorem hok_more {P:Program} {w:World} {fs:List Addr} {H:Hp} {h1 h2:Heap} {a T:Addr} (x:HOk P w H h1) (ua:H a = none) (uT:H T = none) (uf:∀ b∈fs,H b = none)
  (k:Lft fs a T h1 h2):HOk P w H h2:=fun b u e => by
 have nn:∀ c,H c = none→c = b∨H c = some (.own b)→False:=fun c z hc => by
  rcases hc with rfl | hc
  ·rw [z] at e; cases e
  ·rw [z] at hc; cases hc
 exact (x b u e).stay (fun c v hc q => k.keep c v (fun z => nn c (by rw [z]; exact ua) hc) (fun z => nn c (by rw [z]; exact uT) hc) (fun z => nn c (uf c z) hc) q) (fun _ q => q) fun _ _ q => q
noncomputable def PEX (X:Cx) (e:Expr) (t:XK→TE):Prop:=∀ (pins:List (Addr×Obj)) (s:Shared) (σ:St) (H:Hp) (Q:VK) (E:XK),L2.Inv X pins σ H s→t E σ H Q →
 wpAny (model X.prog X.w) X.A (eval e X.env) (EP X pins σ Q) (fun x s' => ∃ H1 s1,L2.Inv X pins σ H1 s1∧CXE X.prog X.w X.stack H1 s1 E x s') s
noncomputable def KX (K:PySem.W.Frag) (H:Hp) (E3:EK3) (E:XK):Prop:=∀ x C dd H3' H',TK H H'→HR K H3' H'→PySem.W.nsIn K mainGlobals x.c = some (some (.ref C))→XF K H' dd x.fs→E3 x H3'→E (.ref C) dd H'
theorem KX.mono {K:PySem.W.Frag} {H H1:Hp} {E3:EK3} {E:XK} (k:KX K H E3 E) (t:TK H H1):KX K H1 E3 E:=fun c C dd H3 H' t' => k c C dd H3 H' (t.trans t')
inductive liftEX (K:PySem.W.Frag) (t:EK3→TE3) (E:XK) (σ:St) (H:Hp) (Q:VK):Prop
 | mk (σ3:St3) (H3:Hp3) (Q3:VK3) (E3:EK3) (_:SR K H σ3 σ) (_:HR K H3 H) (_:t E3 σ3 H3 Q3) (_:KE K H Q3 Q) (_:KX K H E3 E)
noncomputable def PEX3 (X:Cx) (e:Expr) (t:EK3→TE3):Prop:=PEX X e (liftEX X.K t)
inductive liftFE (K:PySem.W.Frag) (sp:SpE) (vs:List V) (H:Hp) (Q:VK) (E:XK):Prop
 | mk (ds:List D) (H3:Hp3) (Q3:VK3) (E3:EK3) (_:HR K H3 H) (_:RepL K H ds vs) (_:sp ds H3 Q3 E3) (_:KE K H Q3 Q) (_:KX K H E3 E)
structure FnE (P:Program) (w:World) (K:PySem.W.Frag) (mg:Str→Option Value) (base:Heap) (k:Nat) (x:Str) (ps:List Str) (sp:SpE):Prop where
 ex:∃ f fd,FnOk P w K mg base (CXE P w) k f fd ps (liftFE K sp)∧mg x = some (.ref f)∧PySem.W.keepIn K (.ref f) = true∧Binds K fd ps []
section
variable {X:Cx} {k:Nat} {x c:Str} {f:Addr} {fd:FuncData} {ps:List Str} {sp:SpE} {p pos:Pos} {e:Expr} {es:List Expr} {t:TA3}
theorem run_fnE {sp:Sp} {pins:List (Addr×Obj)} {σ:St} {H:Hp} {s:Shared} {Q:VK} {E:XK} {us:List Value} {vs:List V} (F:FnOk X.prog X.w X.K X.mg X.base (CXE X.prog X.w) k f fd ps sp) (hr:Room k X.A) (hb:Binds X.K fd ps [])
  (I:L2.Inv X pins σ H s) (r:Vals vs us) (h:sp vs H Q E):wpAny (model X.prog X.w) X.A (call (.ref f) us) (EP X pins σ Q) (fun x s' => ∃ H1 s1,L2.Inv X pins σ H1 s1∧CXE X.prog X.w X.stack H1 s1 E x s') s:=by
 have hl:(us++[]).length = ps.length:=by rw [List.append_nil,← r.length]; exact F.len _ _ _ _ h
 have hb':=hb s us I.kIn hl
 rw [List.append_nil] at hb'
 refine wpAny_call (codeAny_mono (F.run X.A X.stack s H ⟨us,[]⟩ us vs Q E hr I.env0 hb' r h) fun r s' hq => ?_)
 cases r with
 | error e => exact ⟨H,s,I,hq⟩
 | ok fl =>
  cases fl with
  | ret u => exact I.after hq
  | next => exact False.elim hq
  | brk => exact False.elim hq
  | cont => exact False.elim hq
theorem p3_callE (F:FnE X.prog X.w X.K X.mg X.base k x ps sp) (hr:Room k X.A) (ha:PA3 X.nox (e::es) t)
  (hg:Gl X x:=by rfl) (hdb:(x == ("__debug__" : Str)) = false:=by decide) (he:starEach (e::es) X.env = (false,eval e X.env)::starEach es X.env:=by rfl) (hpl:(backTo pos (starEach es X.env)).any (·.1) = false:=by rfl) :
  PEX3 X (.Call (.Name x p) (e::es) [] pos) (cbE sp t):=by
 obtain ⟨f,fd,F,hm,hk,hb⟩:=F.ex
 intro pins s σ H Q E I ⟨σ3,H3,Q3,E3,sr,hr3,q,kk,kx⟩
 refine wpAny_Call_Name_kw (ld_glob I hg hm ?_ hdb)
 refine PySem.W.callWith_K (h₀:=X.base) I.ok.mod.kin hk (wpAny_mono (ha pos pins s σ H (fun vs H1 => liftFE X.K sp vs H1 Q E) (I.wish _) ⟨σ3,H3,_,sr,hr3,q,fun ds vs H3a Ha tka hra rs qa => ⟨ds,H3a,Q3,E3,hra,rs,qa,kk.mono tka,kx.mono tka⟩⟩) (fun us s1 ⟨vs,H1,I1,r,q1⟩ => ⟨I1.unwish.kIn,?_⟩) fun _ _ z => False.elim z) he hpl
 exact run_fnE F hr hb I1.unwish r q1
theorem pe_of_x {t:EK3→TE3} {E:XK} {E3:EK3} (h:PEX3 X e t) (hp:Passes (CXE X.prog X.w) X E) (kx:KX X.K X.H₀ E3 E):PE3 X e (t E3):=fun pins s σ H Q I zz => zz.ex fun σ3 H3 Q3 sr hr3 q kk =>
 wpAny_mono (h pins s σ H Q E I ⟨σ3,H3,Q3,E3,sr,hr3,q,kk,kx.mono ⟨I.base.tups,I.base.frzs⟩⟩) (fun _ _ z => z) fun x s' ⟨H1,s1,I1,z⟩ => hp pins σ H1 s1 x s' I1 z
end
noncomputable def ExcOk (K:PySem.W.Frag) (c:Str):Prop:=∃ C,PySem.W.nsIn K mainGlobals c = some (some (.ref C))∧PySem.W.excIn K C [.type "ValueError",.type "Exception",.type "BaseException",.type "object"] "ValueError.__new__" = true
theorem mod_top {K:PySem.W.Frag} {mg:Str→Option Value} {h:Heap} (M:Mod K mg h) (p:Program):∃ l mb,PySem.W.TopRead p l mg mb h:=by
 obtain ⟨mb,h1,h2⟩:=M.blt
 obtain ⟨o,es,ep,_,_,hk,hf⟩:=M.glob
 refine ⟨es.toList.map DictEntry.name,mb,M.glob,h1,M.nolimit,h2,fun x _ hx _ _ _ => ?_⟩
 rw [← hf x]
 refine Option.map_eq_none_iff.mpr (Array.find?_eq_none.mpr fun e he hs => hx (List.mem_map.mpr ⟨e,Array.mem_toList_iff.mpr he,?_⟩))
 obtain ⟨n,t,k⟩:=hk e he
 rw [k] at hs
 unfold DictEntry.name
 rw [k]
 exact beq_iff_eq.mp hs
theorem rises_made {X:Cx} {E:XK} {pins:List (Addr×Obj)} {σ:St} {H:Hp} {s:Shared} {h':Heap} {e C:Addr} {args:List Value} (hr:Rises X E) (I:L2.Inv X pins σ H s) (hx:Heap.MadeExcOf s.heap h' e (.ref C) args) (hE:E (.ref C) none H):X.xe (.ref e) { s with heap:=h' }:=by
 obtain ⟨t,he,_⟩:=hx.there
 have I':L2.Inv X pins σ H { s with heap:=h' }:=I.kept (t':=s.toks) hx.keeps
 exact hr pins σ H H _ s e C t none _ I hx.new I' (hok_none I.hok hx.new) he hE
section
variable {X:Cx} {c:Str} {e:Expr} {te:TE3} {np cpos pos:Pos} {E:XK} {E3:EK3}
theorem s3_raise (hr:Rises X E) (kx:KX X.K X.H₀ E3 E) (hk:ExcOk X.K c) (hc:X.calm = true) (he:PE3 X e te) (hg:Gl X c:=by rfl) (hdb:(c == ("__debug__" : Str)) = false:=by decide)
  (hs:starEach [e] X.env = (false,eval e X.env)::starEach [] X.env:=by rfl):PS3 X (.Raise (some (.Call (.Name c np) [e] [] cpos)) none pos) (rz3 E3 c te):=by
 obtain ⟨C,hC,hx⟩:=hk
 intro pins s σ H D I ⟨σ3,H3,D3,sr,hr3,q,kk⟩
 have hm:=PySem.W.mg_of I.mod.kin I.mod.glob hC
 obtain ⟨bm,N,nm,qn,bs,hd,sn,sub,ab,col,dd,k0,k1,k2,k3,k5,mN,hCo,hN,hni,T⟩:=((mod_top I.mod X.prog).elim fun _ t => t.elim fun _ T => (PySem.W.own_of_in I.mod.kin T hC hx).obj)
 have FB:=PySem.F.excBase_ValueError
 refine wpAny_Raise_call_subT (C:=C) (nm:=nm) (q:=qn) (N:=N) (bs:=bs) (bm:=bm) (hdct:=hd) (sn:=sn) (sub:=sub) (ab:=ab) (col:=col) (dd:=dd) (k0:=k0) (k1:=k1) (k2:=k2) (k3:=k3) (k5:=k5)
  FB (mN:=mN) (T.hasType FB.hasBase) (I.ok.hd hc) (by rw [hs]; rfl) hni (ld_glob I hg hm ⟨rfl,?_⟩ hdb)
 have ha:PA3 X [e] (cons3 te nil3):=a3_cons he a3_nil hs
 have h1:=ha cpos pins s σ H (fun vs H1 => vs.length≤1∧E (.ref C) none H1) I ⟨σ3,H3,fun ds H3' => (match ds with | [_] => ∃ H2,Sub3 H2 H3'∧E3 ⟨c,[]⟩ H2 | _ => False),sr,hr3,q,fun ds vs H3a Ha tka hra rs qa => by
  cases rs with
  | nil => exact qa.elim
  | cons r1 r2 =>
   cases r2 with
   | cons _ _ => exact qa.elim
   | nil =>
    obtain ⟨H2,sb,q2⟩:=qa
    exact ⟨Nat.le_refl _,kx ⟨c,[]⟩ C none H2 Ha (TK.trans ⟨I.base.tups,I.base.frzs⟩ tka) (hra.sub sb) hC (.inl rfl) q2⟩⟩
 rw [hs] at h1 ⊢
 refine Calls.evalArgs_plain (wpAny_mono h1 (fun vs s2 ⟨ws,H1,I1,r,l1,hE⟩ => ⟨rfl,?_,I1.bk _ _ hCo,hN.keeps I1.bk,T.keeps I1.bk,fun h' x hx => rises_made hr I1 hx hE⟩) fun _ _ y => y)
 have:=r.length
 show vs.length≤sizeLine
 rw [← this]; exact Nat.le_trans l1 (by decide)
end
section
variable {X:Cx} {st:Stmt} {sts:List Stmt} {e:Expr} {t:TS3} {te:TE3} {tt:TT3}
theorem s3_nox (h:PS3 X.nox st t):PS3 X st t:=fun pins s σ H D I hw => wpAny_mono (h pins s σ H D (I.wish _) hw) (fun _ _ q => q.unwish) fun _ _ z => False.elim z
theorem t3_nox (h:PT3 X.nox e tt):PT3 X e tt:=PT.nox h
end
theorem fnE3 {P:Program} {w:World} {K:PySem.W.Frag} {mg:Str→Option Value} {base:Heap} {x qual:Str} {st:Stmt} {f:Addr} {fd:FuncData} {N ps:List Str} {k:Nat} {sp:SpE} {t:EK3→TS3} (F:Fun K x qual st f fd) (S:FnScope N ps (defScope st))
  (len:∀ ds H Q E,sp ds H Q E→ds.length = ps.length)
  (hbody:∀ (cdv:Value) (A:Around) (outer:List Env) (s:Shared) (H:Hp) (E:XK) (E3:EK3),Room k (A.deeper (envOfC qual (defScope st) s.heap.objs.size f cdv))→KX K H E3 E →
   PSs3 (cxOf (CXE P w) P w K mg base N qual (defScope st) f cdv A outer s H E) (defBody st) (t E3))
  (rd:∀ ds H3 Q3 E3,sp ds H3 Q3 E3→t E3 (fin3 Q3) (start3 N ds) H3):FnOk P w K mg base (CXE P w) (k + 1) f fd ps (liftFE K sp):=by
 obtain ⟨oc,od,kV,doc,pm,an,cdv,ct,osl,rfl,lk,hcd⟩:=F.ex
 refine fn_of lk hcd S (fun vs H Q E h => ?_) fun A outer s H vs Q E hr h => ?_
 ·obtain ⟨ds,H3,Q3,E3,_,rs,q,_⟩:=h
  rw [← rs.length]
  exact len ds H3 Q3 E3 q
 ·obtain ⟨ds,H3,Q3,E3,hr3,rs,q,kk,kx⟩:=h
  refine ⟨_,hbody cdv A outer s H E E3 hr kx,start3 N ds,H3,_,sr_start rs,hr3,rd ds H3 Q3 E3 q,⟨fun σ3 σ H3' H' tk sr hr' z => ?_,fun d v H3' H' tk hr' rd z => ?_,fun _ _ _ _ _ _ _ z => z.elim,fun _ _ _ _ _ _ _ z => z.elim⟩⟩
  ·obtain ⟨H'',sub,q'⟩:=z
   exact kk _ _ _ _ tk (hr'.sub sub) .non q'
  ·obtain ⟨H'',sub,q'⟩:=z
   exact kk _ _ _ _ tk (hr'.sub sub) rd q'
theorem fnE3' {P:Program} {w:World} {K:PySem.W.Frag} {mg:Str→Option Value} {base:Heap} {x qual:Str} {st:Stmt} {f:Addr} {fd:FuncData} {N ps:List Str} {k:Nat} {sp:SpE} {t:EK3→TS3} (F:Fun K x qual st f fd) (S:FnScope N ps (defScope st))
  (hm:mg x = some (.ref f)) (hb:Binds K fd ps []) (len:∀ ds H Q E,sp ds H Q E→ds.length = ps.length)
  (hbody:∀ (cdv:Value) (A:Around) (outer:List Env) (s:Shared) (H:Hp) (E:XK) (E3:EK3),Room k (A.deeper (envOfC qual (defScope st) s.heap.objs.size f cdv))→KX K H E3 E →
   PSs3 (cxOf (CXE P w) P w K mg base N qual (defScope st) f cdv A outer s H E) (defBody st) (t E3))
  (rd:∀ ds H3 Q3 E3,sp ds H3 Q3 E3→t E3 (fin3 Q3) (start3 N ds) H3):FnE P w K mg base (k + 1) x ps sp:=⟨f,fd,fnE3 F S len hbody rd,hm,F.kp,hb⟩
noncomputable def SubX (K:PySem.W.Frag) (c cx:Str):Prop:=∃ C Cx,PySem.W.nsIn K mainGlobals c = some (some (.ref C))∧PySem.W.nsIn K mainGlobals cx = some (some (.ref Cx))∧PySem.W.mroIn K C (.ref Cx) = some true∧PySem.W.mroIn K Cx (.type "BaseException") = some true∧PySem.W.typeIn K (.ref Cx) = some (.type "type")
theorem exc_matches {K:PySem.W.Frag} {M:Model} {A:Around} {E:Value→Shared→Prop} {s:Shared} {a C Cx:Addr} {o:Obj} {Q:Bool→Shared→Prop} (X:K.In s.heap) (he:s.heap.get? a = some o) (hc:o.cls = .ref C) (h1:PySem.W.mroIn K C (.ref Cx) = some true)
  (h2:PySem.W.mroIn K Cx (.type "BaseException") = some true) (h3:PySem.W.typeIn K (.ref Cx) = some (.type "type")) (hq:Q true s):wpAny M A (excMatches (.ref a) (.ref Cx)) Q E s:=by
 have L1:=PySem.W.looks_mroIn (M:=M) X h1
 have L2':=PySem.W.looks_mroIn (M:=M) X h2
 have L3':PySem.W.Looks M s.heap (typeOf (.ref Cx)) (.type "type"):=PySem.W.looks_typeIn X h3
 have L4:PySem.W.Looks M s.heap (typeOf (.ref a)) (.ref C):=hc▸(PySem.W.Looks.ld he).andThen .now
 have f:=tc_notTuple
 have L5:PySem.W.Looks M s.heap (isType (.ref Cx)) true:=by
  unfold PySem.W.mroIn PySem.W.clsIn at h2
  obtain ⟨cd,ho,_⟩:=Option.bind_eq_some_iff.mp h2
  split at ho
  ·rename_i c' d' cd' sl' ho'
   intro A' Q' E' s' k q
   unfold isType loadHead
   exact wpAny_bind (wpAny_loadPart (k _ _ (X _ _ ho')) (wpAny_pure q))
  ·cases ho
 unfold excMatches isInstance isExcClass
 refine wpAny_bind (wpAny_bind (L3'.here ?_))
 rw [f]
 refine wpAny_pure ?_
 simp only [Bool.false_eq_true,if_false]
 refine wpAny_bind (wpAny_pure ?_)
 simp only [List.forIn_cons,List.forIn_nil]
 refine wpAny_bind (wpAny_bind (wpAny_bind (wpAny_bind (L5.here ?_))))
 simp only [if_true]
 refine L2'.here ?_
 simp only [Bool.not_true,Bool.false_eq_true,if_false]
 refine wpAny_pure ?_
 refine wpAny_pure ?_
 refine wpAny_bind (L4.here ?_)
 refine wpAny_bind (wpAny_bind (wpAny_bind (L1.here ?_)))
 simp only [if_true]
 refine wpAny_pure ?_
 refine wpAny_pure ?_
 exact wpAny_pure hq
noncomputable abbrev inSuite (X:Cx) (A':Around):Cx:={ X with A:=A',calm:=false,xe:=fun _ _ => False }
section
variable {X:Cx} {A':Around} {pins:List (Addr×Obj)} {σ:St} {H:Hp} {s:Shared}
theorem inv_mark (I:L2.Inv X pins σ H s) (hA:A'.frames = X.A.frames):L2.Inv (inSuite X A') pins σ H s :=
 ⟨⟨I.ok.mod,I.ok.kind,I.ok.glob,I.ok.blt,I.ok.above,I.ok.inj,I.ok.has,I.ok.cab,(fun z => by cases z),hA.trans I.ok.frames,I.ok.stk,I.ok.exf,I.ok.bs,I.ok.bsz,I.ok.noex,I.ok.exfs,I.ok.funs,I.ok.frf⟩,I.os,I.bare,I.base,I.loc,I.cell,I.free,I.freeC,I.pin,I.hok,I.len⟩
theorem inv_unmark (ok:X.Ok) (I:L2.Inv (inSuite X A') pins σ H s):L2.Inv X pins σ H s:=⟨ok,I.os,I.bare,I.base,I.loc,I.cell,I.free,I.freeC,I.pin,I.hok,I.len⟩
theorem sp_unmark (ok:X.Ok) {D:Ends} {f:Flow} {s':Shared} (h:SP (inSuite X A') pins D f s'):SP X pins D f s':=by
 cases f with
 | next => obtain ⟨σ',H',I,q⟩:=h; exact ⟨σ',H',inv_unmark ok I,q⟩
 | brk => obtain ⟨σ',H',I,q⟩:=h; exact ⟨σ',H',inv_unmark ok I,q⟩
 | cont => obtain ⟨σ',H',I,q⟩:=h; exact ⟨σ',H',inv_unmark ok I,q⟩
 | ret u => obtain ⟨v,σ',H',I,r,q⟩:=h; exact ⟨v,σ',H',inv_unmark ok I,r,q⟩
end
theorem subs_nil {K:PySem.W.Frag} {cx:Str}:∀ c∈([]:List Str),SubX K c cx:=fun _ h => absurd h (by simp)
theorem subs_cons {K:PySem.W.Frag} {c cx:Str} {cs:List Str} (h:SubX K c cx) (r:∀ d∈cs,SubX K d cx):∀ d∈c::cs,SubX K d cx:=fun d hd => by
 rcases List.mem_cons.mp hd with rfl | hd
 ·exact h
 ·exact r d hd
end L3
namespace L3
open PySem PySem.Spec PyProof.Rows L2
section
variable {X:Cx} {tg:Expr}
theorem boot_enum:bootBuiltins "enumerate" = some (.type "enumerate"):=by rfl
end
end L3
namespace L3
open PySem PySem.Spec PyProof.Rows L2 PySem.Calls Builtin Builtin.ObjectAttr Builtin.Getset_descriptor
structure XCls (K:PySem.W.Frag) (C:Addr):Prop where
 ga:PySem.W.findIn K (.ref C) "__getattribute__" = some (some (.builtin "BaseException.__getattribute__"))
 gh:PySem.W.findIn K (.ref C) "__getattr__" = some none
 cl:PySem.W.findIn K (.ref C) "__class__" = some (some (.builtin "object.__class__"))
 gs:PySem.W.specialIn K (.builtin "object.__class__") "__get__" = some (some (.builtin "getset_descriptor.__get__"))
 tk:PySem.W.takesIn K (.builtin "object.__class__") = some true
 mo:PySem.W.mroIn K C (.type "object") = some true
 mb:PySem.W.mroIn K C (.type "BaseException") = some true
noncomputable def ExcAt (a C:Addr) (h:Heap):Prop:=∃ o vs,h.get? a = some o∧o.cls = .ref C∧o.data = .fields vs
section
variable {prog:Program} {w:World} {A:Around} {E:Value→Shared→Prop} {s:Shared} {K:PySem.W.Frag} {a C:Addr}
theorem xc_type {M:Model} {h:Heap} (p:ExcAt a C h):PySem.W.Looks M h (typeOf (.ref a)) (.ref C):=by
 obtain ⟨o,vs,h1,h2,_⟩:=p
 exact h2▸(PySem.W.Looks.ld h1).andThen .now
theorem xc_find {M:Model} {h:Heap} (X:K.In h) (c:XCls K C):PySem.W.Looks M h (find (.ref a) (.ref C) "__class__") (.bind (.builtin "getset_descriptor.__get__") (.builtin "object.__class__")):=by
 have L1:=PySem.W.looks_findIn (M:=M) X c.cl
 have L2':PySem.W.Looks M h (getOf (some (.builtin "object.__class__"))) (some (.builtin "getset_descriptor.__get__")):=PySem.W.looks_specialIn X c.gs
 have L3':=PySem.W.looks_takesIn (M:=M) X c.tk
 refine L1.andThen (L2'.andThen ?_)
 exact (show PySem.W.Looks M h (dataDescriptor? (some (.builtin "object.__class__")) (some (.builtin "getset_descriptor.__get__"))) (some (.builtin "getset_descriptor.__get__",.builtin "object.__class__")) from L3'.andThen .now).andThen (PySem.W.Looks.tag .now)
theorem xc_get {tp:Value} {R:Result→Shared→Prop} (X:K.In s.heap) (c:XCls K C) (p:ExcAt a C s.heap) (h:R (.ok (.ret (.ref C))) s) :
  codeAny (model prog w) A (.call (.builtin "getset_descriptor.__get__") ⟨[.builtin "object.__class__",.ref a,tp],[]⟩) R s:=by
 obtain ⟨hh,g,dr,t,os⟩:=s
 have L0:=xc_type (M:=model prog w) p
 have L1:=PySem.W.looks_mroIn (M:=model prog w) X c.mo
 refine codeAny_call_builtin PySem.W.KF.slot_gs.plain PySem.W.KF.entry_gs (PySem.W.KF.slot_gs.check _ _ _ _ _ _ _ _ PySem.W.KF.type_class (PySem.W.KF.args_gs _ _ _) ?_)
 unfold Builtin.«getset_descriptor.__get__» descrGet
 rw [PySem.W.dga_obj]
 refine wpAny_bind (wpAny_pure ?_)
 unfold descrGetter descrCheckInstance descrNameAndClass isInstance
 simp only [PySem.W.KF.owner_class]
 repeat lk
 refine ⟨Code.quiet_builtin _ (by decide +kernel),codeAny_builtin PySem.W.KF.entry_class ?_⟩
 unfold Builtin.«object.__class__» shownTypeOf
 repeat lk
 exact h
theorem xc_check {nameV:Value} {Q:Unit→Shared→Prop} (X:K.In s.heap) (c:XCls K C) (p:ExcAt a C s.heap) (hq:Q () s):wpAny (model prog w) A (checkBuiltinCall "BaseException.__getattribute__" ⟨[.ref a,nameV],[]⟩) Q E s:=by
 have hk:builtinKind "BaseException.__getattribute__" = some .slot:=by decide +kernel
 have hsplit:splitId "BaseException.__getattribute__" = some ("BaseException", "__getattribute__"):=by decide +kernel
 have ha:=F.args_bexc_ga (.ref a) nameV
 obtain ⟨hh,g,dr,t,os⟩:=s
 have L0:=xc_type (M:=model prog w) p
 have L1:=PySem.W.looks_mroIn (M:=model prog w) X c.mb
 simp only [checkBuiltinCall,hk,hsplit]
 refine wpAny_bind ?_
 unfold isInstance
 refine wpAny_bind (L0.at (L1.at ?_))
 repeat (first | assumption | wp_step)
theorem xc_entry {tk:Tok} {Q:Fin→Shared→Prop} (X:K.In s.heap) (c:XCls K C) (p:ExcAt a C s.heap) (h:Q (.done (.ret (.ref C))) s) :
  wpAny (model prog w) A (Builtin.«object.__getattribute__» ⟨[.ref a,.str "__class__" tk],[]⟩) Q E s:=by
 obtain ⟨hh,g,dr,t,os⟩:=s
 have L0:=xc_type (M:=model prog w) p
 have L1:=xc_find (a:=a) (M:=model prog w) X c
 refine wpAny_bind (wpAny_pure (wpAny_bind (wpAny_pure (wpAny_bind (L0.at (wpAny_bind (L1.at ?_)))))))
 show wpAny _ _ (bindTo _ _ _ _) _ _ _
 unfold bindTo
 repeat (any_goals (first | assumption | wp_step))
 refine xc_get X c p ?_
 repeat (any_goals (first | assumption | wp_step))
theorem xc_class {Q:Option Value→Shared→Prop} (X:K.In s.heap) (c:XCls K C) (p:ExcAt a C s.heap) (h:Q (some (.ref C)) { s with toks:=s.toks + 1 }):wpAny (model prog w) A (getAttr? (.ref a) "__class__") Q E s:=by
 obtain ⟨hh,g,d,t,os⟩:=s
 have L0:=xc_type (M:=model prog w) p
 have L1:=PySem.W.looks_findIn (M:=model prog w) X c.ga
 have L2':=PySem.W.looks_findIn (M:=model prog w) X c.gh
 have f3:=F.attr_ValueError.ga.bind (.ref a)
 unfold getAttr? getAttrBy? getAttrBy
 refine wpAny_bind (wpAny_mkText (wpAny_bind (wpAny_attempt (wpAny_holding (wpAny_bind (L0.at (wpAny_bind (L1.at ?_))))))))
 show wpAny _ _ (getAttrByItsOwn _ _ _ _ _ _) _ _ _
 unfold getAttrByItsOwn
 refine wpAny_bind ?_
 show wpAny _ _ (typeLookup _ _) _ _ _
 refine L2'.at ?_
 refine wpAny_bind (wpAny_attempt (wpAny_holding ?_))
 show wpAny _ _ (boundAndCalled _ _ _) _ _ _
 unfold boundAndCalled
 rw [f3]
 refine wpAny_bind (wpAny_pure ?_)
 refine wpAny_call (codeAny_call_builtin F.attr_ValueError.ga.plain F.entry_bexc_ga (xc_check (s:=⟨hh,g,d,t + 1,os⟩) X c p (xc_entry (s:=⟨hh,g,d,t + 1,os⟩) X c p ?_)))
 exact PySem.W.handed_on rfl (wpAny_pure h)
theorem kitx_exc (c:XCls K C):PySem.W.KitX K (.ref a) (.ref C) (ExcAt a C) where
 ty:=fun _ _ _ p => xc_type p
 it:=fun M h X _ => by
  have h2:=c.mb
  unfold PySem.W.mroIn PySem.W.clsIn at h2
  obtain ⟨cd,ho,_⟩:=Option.bind_eq_some_iff.mp h2
  split at ho
  ·rename_i c' d' cd' sl' ho'
   intro A' Q' E' s' k q
   unfold isType loadHead
   exact wpAny_bind (wpAny_loadPart (k _ _ (X _ _ ho')) (wpAny_pure q))
  ·cases ho
 ne:=fun h tp dd its n sl X htp => by
  have h2:=c.mb
  unfold PySem.W.mroIn PySem.W.clsIn at h2
  obtain ⟨cd,ho,_⟩:=Option.bind_eq_some_iff.mp h2
  refine Bool.eq_false_iff.mpr fun q => ?_
  have e:C = tp:=Value.ref.inj (beq_iff_eq.mp q)
  subst e
  split at ho
  ·rename_i c' d' cd' sl' ho'
   have z:=(X _ _ ho').symm.trans htp
   cases z
  ·cases ho
 ca:=fun X p k => xc_class X c p k
end
end L3
namespace L3
open PySem PySem.Spec PyProof.Rows L2
noncomputable def IsX (K:PySem.W.Frag) (c cx:Str) (b:Bool):Prop:=∃ C Cx,PySem.W.nsIn K mainGlobals c = some (some (.ref C))∧PySem.W.nsIn K mainGlobals cx = some (some (.ref Cx))∧XCls K C∧PySem.W.kitOne K (.ref C) (.ref Cx) = some b
noncomputable def IsB (K:PySem.W.Frag) (c:Str) (T:String) (b:Bool):Prop:=∃ C,PySem.W.nsIn K mainGlobals c = some (some (.ref C))∧XCls K C∧PySem.W.kitOne K (.ref C) (.type T) = some b
theorem isx_nil {P:Str×Bool→Prop}:∀ p∈([]:List (Str×Bool)),P p:=fun _ h => absurd h (by simp)
theorem isx_cons {P:Str×Bool→Prop} {p:Str×Bool} {l:List (Str×Bool)} (h:P p) (r:∀ q∈l,P q):∀ q∈p::l,P q:=fun q hq => by
 rcases List.mem_cons.mp hq with rfl | hq
 ·exact h
 ·exact r q hq
theorem lookup_mem {c:Str} {b:Bool}:∀ {l:List (Str×Bool)},l.lookup c = some b→(c,b)∈l
 | [],h => by simp at h
 | (d,x)::l,h => by
  rw [List.lookup_cons] at h
  split at h
  ·rename_i q; cases h; rw [beq_iff_eq.mp q]; exact List.mem_cons_self
  ·exact List.mem_cons_of_mem _ (lookup_mem h)
section
variable {X:Cx} {e:Expr} {ta:TE3} {cx:Str} {tbl:List (Str×Bool)} {p np pos:Pos}
theorem isi_exc {pins:List (Addr×Obj)} {σ:St} {H:Hp} {s:Shared} {Q:VK} {a C:Addr} {dd:Option Addr} {cv:Value} {b:Bool} (I:L2.Inv X pins σ H s) (x:XCls X.K C) (ha:H a = some (excO a C dd)) (k:PySem.W.kitOne X.K (.ref C) cv = some b) (q:Q (.bl b) H) :
  wpAny (model X.prog X.w) X.A (call (.builtin "isinstance") [.ref a,cv]) (EP X pins σ Q) X.xe s:=by
 have y:ExcAt a C s.heap:=let ⟨o,vs,h1,h2,h3,_⟩:=(I.hok a _ ha).1; ⟨o,vs,h1,h2,h3⟩
 exact PySem.W.kia_one (kitx_exc x) I.kIn y k (fun z => nomatch z) fun tk => ⟨.bl b,H,I.tok tk,rfl,q⟩
theorem p3_isx (h:∀ q∈tbl,IsX X.K q.1 cx q.2) (hm:X.mg "isinstance" = none) (ha:PE3 X e ta) (hgc:Gl X cx:=by rfl) (hdc:(cx == ("__debug__" : Str)) = false:=by decide) (hg:Gl X "isinstance":=by rfl)
  (hv:bootBuiltins "isinstance" = some (.builtin "isinstance"):=by rfl)
  (he:starEach [e,.Name cx np] X.env = (false,eval e X.env)::starEach [.Name cx np] X.env:=by rfl) (he2:starEach [.Name cx np] X.env = (false,eval (.Name cx np) X.env)::starEach [] X.env:=by rfl) (hpl:(backTo pos (starEach [.Name cx np] X.env)).any (·.1) = false:=by rfl) :
  PE3 X (.Call (.Name "isinstance" p) [e,.Name cx np] [] pos) (isx3 tbl ta):=by
 intro pins s σ H Q I ⟨σ3,H3,Q3,sr,hr3,q,kk⟩
 refine wpAny_Call_Name_kw (ld_blt I hg hm hv ?_)
 refine PyProof.Rows.callWith_builtin1 ?_ he hpl
 rw [he]
 show wpAny _ _ (spliced ((false,eval e X.env)::backTo pos (starEach [.Name cx np] X.env))) _ _ s
 refine Calls.spliced_cons (thn (ha pins s σ H (fun v H1 => ∃ a c b C Cx,v = .ref a∧PySem.W.nsIn X.K mainGlobals cx = some (some (.ref Cx))∧XCls X.K C∧(∃ dd,H1 a = some (excO a C dd))∧PySem.W.kitOne X.K (.ref C) (.ref Cx) = some b∧(c,b)∈tbl∧Q (.bl b) H1) I ⟨σ3,H3,_,sr,hr3,q,fun d v H3a Ha tka hra rx qa => ?_⟩) fun u s1 ⟨v,H1,I1,r1,q1⟩ => ?_)
 ·cases rx with
  | ref a =>
   (delta isxk at qa; dsimp only at qa)
   split at qa
   ·rename_i c _ hc
    split at qa
    ·rename_i b hb
     obtain ⟨C,Cx,h1,h2,h3,h4⟩:=h _ (lookup_mem hb)
     obtain ⟨C',dd,h5,h6,_⟩:=hra a _ hc
     have eC:C' = C:=by rw [h1] at h5; cases h5; rfl
     subst eC
     exact ⟨a,c,b,C',Cx,rfl,h2,h3,⟨dd,h6⟩,h4,lookup_mem hb,kk _ _ _ _ tka hra (.bl b) qa⟩
    ·exact qa.elim
   ·exact qa.elim
  | _ => exact qa.elim
 ·obtain ⟨a,c,b,C,Cx,rfl,h2,h3,⟨dd,h6⟩,h4,_,hq⟩:=q1
  obtain rfl:u = Value.ref a:=r1
  rw [he2]
  have hmx:=PySem.W.mg_of I1.mod.kin I1.mod.glob h2
  refine Calls.spliced_cons (ld_glob I1 hgc hmx ?_ hdc)
  refine wpAny_pure ?_
  exact isi_exc I1 h3 h6 h4 hq
theorem p3_isb {T:String} (h:∀ q∈tbl,IsB X.K q.1 T q.2) (hm:X.mg "isinstance" = none) (ha:PE3 X e ta) (hmc:X.mg cx = none) (hvc:bootBuiltins cx = some (.type T)) (hgc:Gl X cx:=by rfl) (hnc:cx ≠ "__name__":=by decide) (hdc:(cx == ("__debug__" : Str)) = false:=by decide) (hg:Gl X "isinstance":=by rfl)
  (hv:bootBuiltins "isinstance" = some (.builtin "isinstance"):=by rfl)
  (he:starEach [e,.Name cx np] X.env = (false,eval e X.env)::starEach [.Name cx np] X.env:=by rfl) (he2:starEach [.Name cx np] X.env = (false,eval (.Name cx np) X.env)::starEach [] X.env:=by rfl) (hpl:(backTo pos (starEach [.Name cx np] X.env)).any (·.1) = false:=by rfl) :
  PE3 X (.Call (.Name "isinstance" p) [e,.Name cx np] [] pos) (isx3 tbl ta):=by
 intro pins s σ H Q I ⟨σ3,H3,Q3,sr,hr3,q,kk⟩
 refine wpAny_Call_Name_kw (ld_blt I hg hm hv ?_)
 refine PyProof.Rows.callWith_builtin1 ?_ he hpl
 rw [he]
 show wpAny _ _ (spliced ((false,eval e X.env)::backTo pos (starEach [.Name cx np] X.env))) _ _ s
 refine Calls.spliced_cons (thn (ha pins s σ H (fun v H1 => ∃ a c b C,v = .ref a∧XCls X.K C∧(∃ dd,H1 a = some (excO a C dd))∧PySem.W.kitOne X.K (.ref C) (.type T) = some b∧(c,b)∈tbl∧Q (.bl b) H1) I ⟨σ3,H3,_,sr,hr3,q,fun d v H3a Ha tka hra rx qa => ?_⟩) fun u s1 ⟨v,H1,I1,r1,q1⟩ => ?_)
 ·cases rx with
  | ref a =>
   (delta isxk at qa; dsimp only at qa)
   split at qa
   ·rename_i c _ hc
    split at qa
    ·rename_i b hb
     obtain ⟨C,h1,h3,h4⟩:=h _ (lookup_mem hb)
     obtain ⟨C',dd,h5,h6,_⟩:=hra a _ hc
     have eC:C' = C:=by rw [h1] at h5; cases h5; rfl
     subst eC
     exact ⟨a,c,b,C',rfl,h3,⟨dd,h6⟩,h4,lookup_mem hb,kk _ _ _ _ tka hra (.bl b) qa⟩
    ·exact qa.elim
   ·exact qa.elim
  | _ => exact qa.elim
 ·obtain ⟨a,c,b,C,rfl,h3,⟨dd,h6⟩,h4,_,hq⟩:=q1
  obtain rfl:u = Value.ref a:=r1
  rw [he2]
  refine Calls.spliced_cons (ld_blt I1 hgc hmc hvc ?_ hnc hdc)
  refine wpAny_pure ?_
  exact isi_exc I1 h3 h6 h4 hq
end
noncomputable def PSX (X:Cx) (st:Stmt) (t:XK→TS):Prop:=∀ (pins:List (Addr×Obj)) (s:Shared) (σ:St) (H:Hp) (D:Ends) (E:XK),L2.Inv X pins σ H s→t E D σ H →
 wpAny (model X.prog X.w) X.A (exec st X.env) (SP X pins D) (fun x s' => ∃ H1 s1,L2.Inv X pins σ H1 s1∧CXE X.prog X.w X.stack H1 s1 E x s') s
inductive liftSX (K:PySem.W.Frag) (t:EK3→TS3) (E:XK) (D:Ends) (σ:St) (H:Hp):Prop
 | mk (σ3:St3) (H3:Hp3) (D3:Ends3) (E3:EK3) (_:SR K H σ3 σ) (_:HR K H3 H) (_:t E3 D3 σ3 H3) (_:KS K H D3 D) (_:KX K H E3 E)
noncomputable def PSX3 (X:Cx) (st:Stmt) (t:EK3→TS3):Prop:=PSX X st (liftSX X.K t)
section
variable {X:Cx} {pins:List (Addr×Obj)} {σ:St} {H:Hp} {s:Shared}
theorem SR.setN {K:PySem.W.Frag} {H:Hp} {σ3:St3} {σ:St} (s:SR K H σ3 σ) (i:Nat):SR K H (σ3.set i none) (σ.set i none):=by
 refine ⟨by simp [s.len],fun j e h => ?_⟩
 by_cases hj:j = i
 ·subst hj
  by_cases hl:j < σ3.length
  ·rw [List.getElem?_set_self hl] at h; cases h
  ·rw [List.getElem?_eq_none (by simpa using hl)] at h; cases h
 ·rw [List.getElem?_set_ne (Ne.symm hj)] at h
  obtain ⟨u,h1,h2⟩:=s.get j e h
  exact ⟨u,by rw [List.getElem?_set_ne (Ne.symm hj)]; exact h1,h2⟩
theorem inv_forget {M:Model} {A:Around} {E:Value→Shared→Prop} {i:Nat} {x:Str} {pos:Pos} {Q:Unit→Shared→Prop} (I:L2.Inv X pins σ H s) (hN:X.N.Nodup) (hi:X.N[i]? = some x) (hx:X.env.kindOf x = some .local)
  (h:∀ s',L2.Inv X pins (σ.set i none) H s'→Q () s'):wpAny M A (do bindName X.env x .none; unbindBehindTheSuite X.env x pos) Q E s:=by
 obtain ⟨m,hn,hl⟩:=id I.loc
 have hcls:(X.env.scope.kind == .class || (X.env.scope.kind == .module && X.env.locals != X.env.globals)) = false:=by rw [I.ok.kind]; rfl
 have hiσ:i < σ.length:=by rw [I.len]; exact (List.getElem?_eq_some_iff.mp hi).1
 have cne:=I.cne
 refine wpAny_nameGoes_keeps hx hn hcls fun h' v hn' hs => ?_
 obtain ⟨oL,_,_,hoL,_⟩:=id hn
 have ne:∀ b o,X.s₀.heap.get? b = some o→b≠X.env.locals:=fun b o e => Nat.ne_of_lt (Nat.lt_of_lt_of_le (Heap.lt_size e) I.ok.above)
 refine h _ ⟨I.ok,I.os,I.bare,⟨fun b o e n hb hx => (hs.2 b (ne b o e)).trans (I.base.keep b o e n hb hx),fun b o e n hb hx => ?_,I.base.free,fun b o e hx => ?_,I.base.tups,I.base.frzs,I.base.tbls⟩,⟨_,hn',fun j y v' e1 e2 e3 => ?_⟩,fun y c e => ?_,I.free,I.freeC,fun p hp => ?_,fun b ob e => ?_,by simpa using I.len⟩
 ·obtain ⟨sl,e1⟩:=I.base.slot b o e n hb hx
  exact ⟨sl,(hs.2 b (ne b o e)).trans e1⟩
 ·obtain ⟨o',e1⟩:=I.base.there b o e hx
  exact ⟨o',(hs.2 b (ne b o e)).trans e1⟩
 ·by_cases hj:j = i
  ·subst hj
   rw [List.getElem?_set_self hiσ] at e2
   cases e2
  ·rw [List.getElem?_set_ne (Ne.symm hj)] at e2
   obtain ⟨u',r',q⟩:=hl j y v' e1 e2 e3
   refine ⟨u',r',?_⟩
   rcases q with ⟨k,e⟩ | ⟨k,c,e,z⟩
   ·refine .inl ⟨k,?_⟩
    have:y≠x:=fun e => hj (nodup_ix hN e1 (e▸hi))
    simp [this,e]
   ·exact .inr ⟨k,c,e,z.sameBut hs (cne y c e)⟩
 ·obtain ⟨w',z⟩:=I.cell y c e
  exact ⟨w',z.sameBut hs (cne y c e)⟩
 ·obtain ⟨e,n,ne,nf,d⟩:=I.pin p hp
  exact ⟨(hs.2 p.1 ne).trans e,n,ne,nf,d⟩
 ·refine (I.hok b ob e).stay (fun c w' hc q => (hs.2 c ?_).trans q) (fun _ q => q) fun _ _ q => q
  rintro rfl
  rcases hc with rfl | hc
  ·rw [I.free] at e; cases e
  ·rw [I.free] at hc; cases hc
theorem un_exc {fs:List Addr} {H H':Hp} {h h2:Heap} {a:Addr} {o:HO} (u:Un fs [] H H' h h2) (na:h.get? a = none) (ua:H a = none):Un fs [] H (upd H' a o) h h2:=by
 have ne:∀ b o,h.get? b = some o→b≠a:=fun b o e z => by rw [z,na] at e; cases e
 refine ⟨u.keep,u.slot,fun b o' e n hx => ?_,u.there,fun b xs e => ?_,fun b o' v e => ?_,fun b ps e => ?_⟩
 ·rw [upd_ne (ne b o' e)]; exact u.free b o' e n hx
 ·rw [upd_ne (ne_of_none e ua)]; exact u.tups b xs e
 ·rw [upd_ne (ne_of_none e ua)]; exact u.frzs b o' v e
 ·rw [upd_ne (ne_of_none e ua)]; exact u.tbls b ps e
theorem hok_exc {P:Program} {w:World} {H:Hp} {h:Heap} {a C T:Addr} {dd:Option Addr} (x:HOk P w H h) (ua:H a = none) (y:XAt h a (.ref C) dd T):HOk P w (upd H a (excO a C dd)) h:=fun b u e => by
 by_cases hb:b = a
 ·subst hb; rw [upd_same] at e; cases e
  obtain ⟨oe,vs,_,_,he,hc,hd,_⟩:=y
  refine ⟨⟨oe,vs,he,hc.1,hd,hc.2⟩,⟨oe,he⟩,fun h1 h2 ⟨o,vs,z1,z2,z3⟩ k => ⟨o,vs,k o z1,z2,z3⟩⟩
 ·rw [upd_ne hb] at e
  exact (x b u e).stay (fun c v _ q => q) (fun c q => by rw [upd_ne (ne_of_none q ua)]; exact q) fun c xs q => by rw [upd_ne (ne_of_none q ua)]; exact q
end
section
variable {X:Cx} {e:Expr} {t:EK3→TE3} {pos:Pos}
theorem sx_set (i:Nat) {x:Str} {pos':Pos} (hN:X.N.Nodup) (h:PEX3 X e t) (hi:X.N[i]? = some x:=by rfl) (hx:Loc X.env.scope x:=by first | exact Or.inl rfl | exact Or.inr rfl) (hs:swapsWith e (some (.Name x pos')) pos.line X.env = pure false:=by rfl)
  (hf:X.fn x = true∨X.env.scope.names.lookup x = some .local:=by first | exact .inl rfl | exact .inr rfl | assumption):PSX3 X (.Assign [.Name x pos'] e pos) (sxS i t):=by
 intro pins s σ H D E I ⟨σ3,H3,D3,E3,sr,hr3,q,kk,kx⟩
 refine wpAny_Assign_Name (wpAny_mono (h pins s σ H (fun v H1 => D.nx (σ.set i (some v)) H1) E I ⟨σ3,H3,fun v H1 => D3.nx (σ3.set i (some v)) H1,E3,sr,hr3,q,fun d v H3' H' tk hr rd z => kk.nx _ _ _ _ tk ((sr.mono tk).set i rd) hr z,kx⟩) (fun v s1 zz => ?_) fun _ _ z => z) hs
 obtain ⟨y,H1,I1,r1,q1⟩:=zz
 exact store_ok I1 hN hi hx r1 (fun s2 I2 => ⟨_,H1,I2,q1⟩) hf
end
theorem s3_tryA {X:Cx} {b1:Stmt} {t:EK3→TS3} {cs:List Str} {th:TS3} {cx n:Str} (i:Nat) {b0:Stmt} {suite:List Stmt} {np hp pos:Pos} (hN:X.N.Nodup) (he:PSX3 X b1 t) (hsub:∀ c∈cs,SubX X.K c cx)
  (hb:∀ A',PSs3 (inSuite X A') (b0::suite) th) (hi:X.N[i]? = some n:=by rfl) (hloc:X.env.scope.names.lookup n = some .local:=by rfl) (hst:X.stack = X.env::X.outer:=by rfl) (hfm:X.env.frame = some X.env.locals:=by rfl) (hg:Gl X cx:=by rfl) (hdb:(cx == ("__debug__" : Str)) = false:=by decide) :
  PS3 X (.Try [b1] [.ExceptHandler (some (.Name cx np)) (some n) (b0::suite) hp] [] [] pos) (trA3 t cs i th):=by
 intro pins s σ H D I ⟨σ3,H3,D3,sr,hr3,q,kk⟩
 have hkl:X.env.kindOf n = some .local:=hloc
 refine wpAny_Try_except ?_
 have hx:=he pins s σ H D (fun v dd H1 => ∃ c H3',c.c∈cs∧PySem.W.nsIn X.K mainGlobals c.c = some (some v)∧TK H H1∧HR X.K H3' H1∧XF X.K H1 dd c.fs∧∀ a,H3' a = none→th (gone i D3) (σ3.set i (some (.ref a))) (upd3 H3' a (.exc c.c c.fs))) I
  ⟨σ3,H3,D3,_,sr,hr3,q,kk,fun c C dd H3' H' tk hr hC xf z => ⟨c,H3',z.1,hC,tk,hr,xf,z.2⟩⟩
 refine wpAny_execs_cons (wpAny_mono hx (fun f s1 hf => ?_) (fun x s' ⟨H1,s1,I1,z⟩ => ?_))
 ·cases f with
  | next => exact wpAny_execs_nil (wpAny_execs_nil hf)
  | _ => exact hf
 obtain ⟨a,T,C,dd,H',rfl,os,bare,un,hok,na,nT,ua,uT,x,c,H3',hcs,hC,tk,hr',xf,qth⟩:=z
 have I':L2.Inv X pins σ H' s':=I1.call' os un hok bare (fun b z => by cases z)
 have hfr:X.A.frames = some (X.env::X.outer):=by rw [← hst]; exact I'.ok.frames
 have hl:s'.heap.FunFrames X.base (X.env::X.outer):=by rw [← hst]; exact I'.stack
 have stf:∀ b∈frs (X.env::X.outer),H' b = none:=fun b hb => I'.stkFree b (by rw [hst]; exact hb)
 rw [hst] at un
 have up:∀ b,s'.heap.get? b = none→s1.heap.get? b = none:=fun b q => by
  cases z:s1.heap.get? b with
  | none => rfl
  | some o => obtain ⟨o',r⟩:=un.there b o z (by simp); rw [q] at r; cases r
 refine note_land hfr hfm hl x fun h2 T2 k12 x2 nT2 => ?_
 have un2:=un_more un na nT k12
 have hok2:=hok_more hok ua uT stf k12
 have nT2':s1.heap.get? T2 = none∧H' T2 = none:=by
  rcases nT2 with z | z
  ·exact ⟨up _ z,hok_none hok z⟩
  ·subst z; exact ⟨nT,uT⟩
 have I2:L2.Inv X pins σ H' { s' with heap:=h2 }:=I1.call' (s':={ s' with heap:=h2 }) os (by rw [hst]; exact un2) hok2 bare (fun b z => by cases z)
 obtain ⟨C',Cx,hC',hCx,m1,m2,m3⟩:=hsub c.c hcs
 have eC:C' = C:=by rw [hC] at hC'; cases hC'; rfl
 subst eC
 refine wpAny_handleBy_cons (codeAny_handlers_test (Calls.Name_function_global I2.ok.kind hg (Calls.loadGlobal_global (by rw [I2.ok.glob]; exact I2.mod.glob.keeps I2.bk) (PySem.W.mg_of I2.mod.kin I2.mod.glob hCx) ?_) hdb)) (by intro q; cases q)
 have x2':=x2
 obtain ⟨oe,_,_,_,hoe,hcl,_⟩:=x2'
 refine exc_matches I2.kIn hoe hcl.1 m1 m2 m3 ?_
 have hl2:h2.FunFrames X.base (X.env::X.outer):=by have:=I2.stack; rwa [hst] at this
 refine codeAny_handlers_suite_as (land_on (s:={ s' with heap:=h2 }) x2 fun x3 => ?_)
 have k3:=lft_set (v:=.none) x2 hl2
 have un3:=un_more un2 na nT2'.1 k3
 have hok3:=hok_more hok2 ua nT2'.2 stf k3
 generalize h2.update T2 (Obj.mapFields (·.setIfInBounds 3 .none)) = h3 at x3 un3 hok3
 have I3:L2.Inv X pins σ (upd H' a (excO a C' dd)) { s' with heap:=h3 }:=I1.call' (s':={ s' with heap:=h3 }) os (by rw [hst]; exact un_exc un3 na (hok_none I1.hok na)) (hok_exc hok3 ua x3) bare (fun b z => by cases z)
 have tk2:TK H (upd H' a (excO a C' dd)):=tk.trans (TK.fresh ua)
 have n3:H3' a = none:=hr'.fresh ua
 have hr4:HR X.K (upd3 H3' a (.exc c.c c.fs)) (upd H' a (excO a C' dd)):=hr'.set (o3:=.exc c.c c.fs) (TK.fresh ua) ⟨C',dd,hC,upd_same,xf.mono (TK.fresh ua)⟩
 have hiσ:i < σ.length:=by rw [I.len]; exact (List.getElem?_eq_some_iff.mp hi).1
 refine store_ok I3 hN hi (.inl hloc) (v:=.ref a) rfl (fun s4 I4 => ?_) (.inr hloc)
 refine wpAny_mono (hb (X.A.mark (some (.ref a))) pins _ _ _ { nx:=fun σ' H' => D.nx (σ'.set i none) H',rt:=D.rt,bk:=fun σ' H' => D.bk (σ'.set i none) H',ct:=fun σ' H' => D.ct (σ'.set i none) H' } (inv_mark I4 rfl)
  ⟨σ3.set i (some (.ref a)),upd3 H3' a (.exc c.c c.fs),gone i D3,(sr.mono tk2).set i (.ref a),hr4,qth a n3,?_⟩) (fun f s5 hf => ?_) fun _ _ z => False.elim z
 ·exact ⟨fun σ3' σ' H3' H' tk' sr' hr' z => kk.nx _ _ _ _ (tk2.trans tk') (sr'.setN i) hr' z,kk.rt.mono tk2,fun σ3' σ' H3' H' tk' sr' hr' z => kk.bk _ _ _ _ (tk2.trans tk') (sr'.setN i) hr' z,fun σ3' σ' H3' H' tk' sr' hr' z => kk.ct _ _ _ _ (tk2.trans tk') (sr'.setN i) hr' z⟩
 ·have hf':=sp_unmark I3.ok hf
  cases f with
  | next => obtain ⟨σ',H'',I5,q5⟩:=hf'; exact inv_forget I5 hN hi hkl fun s6 I6 => ⟨_,H'',I6,q5⟩
  | brk => obtain ⟨σ',H'',I5,q5⟩:=hf'; exact inv_forget I5 hN hi hkl fun s6 I6 => ⟨_,H'',I6,q5⟩
  | cont => obtain ⟨σ',H'',I5,q5⟩:=hf'; exact inv_forget I5 hN hi hkl fun s6 I6 => ⟨_,H'',I6,q5⟩
  | ret u => obtain ⟨v,σ',H'',I5,r5,q5⟩:=hf'; exact inv_forget I5 hN hi hkl fun s6 I6 => ⟨v,_,H'',I6,r5,q5⟩
theorem vals_ints {us:List Value} {ns:List Int} (h:IntsAre us ns):Vals (ns.map V.int) us:=by
 induction h with
 | nil => exact .nil
 | cons n t _ ih => exact .cons ⟨t,rfl⟩ ih
end L3
namespace L3
end L3
namespace L3
open PySem PySem.Spec PySem.W PyProof.Rows
end L3
namespace L3
open PySem PySem.Spec PyProof.Rows L2
noncomputable def rk (f:Nat→List Int) (n i:Nat):Int:=(((List.range n).countP fun k => HT.lexLt (f k) (f i)):Nat)
noncomputable abbrev Gc:=(Int×Int×Int)×Pt
noncomputable def q5 (q:Gc):List Int:=[q.1.1,q.1.2.1,q.1.2.2,q.2.1,q.2.2]
section
variable {X:Cx}
noncomputable def TI (K:PySem.W.Frag) (H:Hp) (ns:List Int) (b:Addr):Prop:=∃ v,Rep K H (.tup (ns.map D.int)) v∧RelV v (.ref b)
end
end L3
namespace L3
end L3
namespace L3.ST
open PySem PySem.SetTable
noncomputable def blk (M:Nat) (x:Nat×Nat) (d:Option Nat):Probe:={ j:=x.1,more:=runEnd M x.1 - x.1,i:=x.1,perturb:=x.2,dummy:=d }
noncomputable def l0 (M i:Nat):Nat:=(i * 5 + 1) % (M + 1)
end L3.ST
namespace L3.ST
open PySem PySem.SetTable
end L3.ST
namespace L3.ST
open PySem PySem.SetTable
end L3.ST
namespace L3.ST
open PySem PySem.SetTable PySem.Spec PyProof.Rows
section
variable {prog:Program} {w:World} {A:Around} {E:Value→Shared→Prop} {s:Shared}
noncomputable def hsh (prog:Program) (w:World) (ks:List (List Int)) (i:Nat):Int:=tupleKeyHash (intKind prog w) (ks.getD i [])
end
end L3.ST
namespace L3
open PySem PySem.Spec PyProof.Rows L2
noncomputable def posOf (z:Str) (c:Nat):List Nat:=(List.range z.cps.size).filter fun i => z.cps[i]? == some c
noncomputable def r3count:D→List D→Hp3→VK3→Prop:=fun x xs H Q => match x,xs with
 | .str z,[.str y] => (match y.cps.toList with
  | [c] => Q (.int ((posOf z c).length:Nat)) H
  | _ => False)
 | _,_ => False
theorem g_count {z y:Str} {c:Nat} {H:Hp3} {Q:VK3} (hy:y.cps.toList = [c]) (q:Q (.int ((posOf z c).length:Nat)) H):r3count (.str z) [.str y] H Q:=by
 delta r3count
 dsimp only
 rw [hy]
 exact q
section
variable {X:Cx}
theorem p3_globS {x z:Str} {tk:Tok} {pos:Pos} (hg:Gl X x) (hm:X.mg x = some (.str z tk)) (hd:(x == ("__debug__" : Str)) = false:=by decide):PE3 X (.Name x pos) (c3 (.str z)) :=
 pe_imp (pe_glob (v:=.str z) hg hm ⟨_,rfl⟩ hd) fun _ _ _ ⟨_,_,_,_,hr,t,k⟩ => k _ _ _ _ TK.refl hr (.str z) t
theorem p3_globT {x z:Str} {pos:Pos} (hg:Gl X x) (hm:∃ tk,X.mg x = some (.str z tk)) (hd:(x == ("__debug__" : Str)) = false:=by decide):PE3 X (.Name x pos) (c3 (.str z)):=hm.elim fun _ h => p3_globS hg h hd
end
theorem occ_run {s sub:Str} {hi limit:Nat} (h1:sub.length = 1):∀ (l:List Nat) (st:Array Nat×Nat),l.Pairwise (· < ·)→(∀ i∈l,st.2≤i)→st.1.size + l.length≤limit →
  (forIn l st (StrLaws.occBody s sub hi limit)).run.1.toList = st.1.toList++l.filter fun i => decide (i + 1≤hi) && Builtin.Str.subAt s sub i
 | [],st,_,_,_ => by simp
 | a::l,st,hp,hf,hs => by
  rw [List.forIn_cons]
  unfold StrLaws.occBody
  rw [List.pairwise_cons] at hp
  rw [List.length_cons] at hs
  have ha:st.2≤a:=hf a List.mem_cons_self
  by_cases hc:(a + 1≤hi)∧Builtin.Str.subAt s sub a = true
  ·rw [if_pos ⟨⟨⟨by omega,ha⟩,by rw [h1]; exact hc.1⟩,hc.2⟩]
   have ih:=occ_run (s:=s) (hi:=hi) (limit:=limit) h1 l (st.1.push a,a + sub.length) hp.2 (fun i hi' => by rw [h1]; exact hp.1 i hi') (by simp only [Array.size_push]; omega)
   rw [List.filter_cons_of_pos (by simp [hc.1,hc.2])]
   simp only [Array.toList_push,List.append_assoc] at ih
   exact ih
  ·rw [if_neg fun h => hc ⟨by rw [← h1]; exact h.1.2,h.2⟩]
   have ih:=occ_run (s:=s) (hi:=hi) (limit:=limit) h1 l st hp.2 (fun i hi' => hf i (List.mem_cons_of_mem _ hi')) (by omega)
   rw [List.filter_cons_of_neg (by simpa using fun h => by simpa using fun h2 => hc ⟨h,h2⟩)]
   exact ih
theorem sub_one {z y:Str} {c i:Nat} (hy:y.cps.toList = [c]) (hi:i < z.cps.size):Builtin.Str.subAt z y i = (z.cps[i]? == some c):=by
 have e:y.cps = #[c]:=by apply Array.toList_inj.mp; rw [hy]
 unfold Builtin.Str.subAt
 rw [show y.length = 1 by show y.cps.size = 1; rw [e]; rfl,e]
 have e2:z.cps.extract i (i + 1) = #[z.cps[i]]:=by
  apply Array.toList_inj.mp
  rw [Array.toList_extract]
  simp [List.extract_eq_drop_take,List.take_one,hi]
 rw [e2,Array.getElem?_eq_getElem hi]
 simp
theorem occ_one {z y:Str} {c:Nat} (hy:y.cps.toList = [c]):Builtin.Str.occurrences z y 0 z.length (z.length + 1) = posOf z c:=by
 have h1:y.length = 1:=by
  show y.cps.size = 1
  rw [← Array.length_toList,hy]; rfl
 have hz:z.length = z.cps.size:=rfl
 rw [StrLaws.occ_eq,occ_run h1 _ _ List.pairwise_lt_range' (fun _ _ => Nat.zero_le _) (by simp)]
 unfold posOf
 rw [show z.length + 1 - 0 = z.cps.size + 1 from rfl,← List.range_eq_range',List.range_succ,List.filter_append]
 have e2:([z.cps.size].filter fun i => decide (i + 1≤z.length) && Builtin.Str.subAt z y i) = []:=by
  rw [List.filter_cons_of_neg (by rw [hz,Bool.and_eq_true,decide_eq_true_eq]; omega)]; rfl
 rw [e2]
 simp only [List.append_nil,List.nil_append]
 refine List.filter_congr fun i hi => ?_
 have hi':=List.mem_range.mp hi
 rw [sub_one hy hi',show decide (i + 1≤z.length) = true from decide_eq_true hi',Bool.true_and]
section
variable {X:Cx}
theorem mt3_count:MtR X "str.count" (liftM X.K r3count):=by
 intro pins s σ H x xs v us Q I rx rs t
 obtain ⟨d,ds,H3,Q3,hr,rd,rds,t,k⟩:=t
 cases rd with
 | str z =>
  cases rds with
  | nil => exact t.elim
  | cons r1 r2 =>
   cases r2 with
   | cons _ _ => cases r1 <;> exact t.elim
   | nil =>
    cases r1 with
    | str y =>
     delta r3count at t
     dsimp only at t
     split at t
     ·rename_i c hy
      obtain ⟨t1,rfl⟩:=rx
      obtain ⟨u,rfl,ru⟩:=vals1 rs
      obtain ⟨t2,rfl⟩:=ru
      refine SC.count ?_
      rw [show Txt.count z y = ((posOf z c).length:Nat) by unfold Txt.count; rw [occ_one hy]]
      exact ⟨.int ((posOf z c).length:Nat),H,I.tok _,⟨_,rfl⟩,k _ _ _ _ TK.refl hr (.int _) t⟩
     ·exact t.elim
    | _ => exact t.elim
 | _ => exact t.elim
end
noncomputable def splitL (c:Nat):List Nat→List (List Nat)
 | [] => [[]]
 | x::xs => if x = c then []::splitL c xs else (match splitL c xs with
  | [] => [[x]]
  | p::ps => (x::p)::ps)
noncomputable def splitZ (z:Str) (c:Nat):List Str:=(splitL c z.cps.toList).map fun l => ⟨l.toArray⟩
theorem splitL_ex (c:Nat) (xs:List Nat):∃ p ps,splitL c xs = p::ps:=by
 cases xs with
 | nil => exact ⟨_,_,rfl⟩
 | cons x xs =>
  unfold splitL
  split
  ·exact ⟨_,_,rfl⟩
  ·split <;> exact ⟨_,_,rfl⟩
theorem splitL_no {c:Nat}:∀ {xs:List Nat},c∉xs→splitL c xs = [xs]
 | [],_ => rfl
 | x::xs,h => by
  have h1:¬ x = c:=fun z => h (by rw [z]; exact List.mem_cons_self)
  unfold splitL
  rw [if_neg h1,splitL_no (fun z => h (List.mem_cons_of_mem _ z))]
theorem splitL_app {c:Nat}:∀ {xs ys:List Nat},c∉xs→splitL c (xs++c::ys) = xs::splitL c ys
 | [],ys,_ => by show splitL c (c::ys) = _; rw [splitL,if_pos rfl]
 | x::xs,ys,h => by
  have h1:¬ x = c:=fun z => h (by rw [z]; exact List.mem_cons_self)
  rw [List.cons_append,splitL,if_neg h1,splitL_app (fun z => h (List.mem_cons_of_mem _ z))]
theorem splitL_len (c:Nat):∀ xs:List Nat,(splitL c xs).length≤xs.length + 1
 | [] => Nat.le_refl _
 | x::xs => by
  have ih:=splitL_len c xs
  obtain ⟨p,ps,e⟩:=splitL_ex c xs
  unfold splitL
  split
  ·rw [List.length_cons,List.length_cons]; omega
  ·rw [e] at ih ⊢
   rw [List.length_cons] at ih ⊢
   rw [List.length_cons]; omega
noncomputable def r3split:D→List D→Hp3→VK3→Prop:=fun x xs H Q => match x,xs with
 | .str z,[.str y] => (match y.cps.toList with
  | [c] => (z.cps.size≤100000∧c < 256)∧∀ p,H p = none→Q (.ref p) (upd3 H p (.lst ((splitZ z c).map D.str)))
  | _ => False)
 | _,_ => False
theorem g_split {z y:Str} {c:Nat} {H:Hp3} {Q:VK3} (hy:y.cps.toList = [c]) (hl:z.cps.size≤100000) (hc:c < 256) (q:∀ p,H p = none→Q (.ref p) (upd3 H p (.lst ((splitZ z c).map D.str)))):r3split (.str z) [.str y] H Q:=by
 delta r3split
 dsimp only
 rw [hy]
 exact ⟨⟨hl,hc⟩,q⟩
noncomputable def pbL (l:List Nat):Nat→List Nat→List (List Nat)
 | st,[] => [l.drop st]
 | st,k::ks => (l.drop st).take (k - st)::pbL l (k + 1) ks
noncomputable def posL (c:Nat):Nat→List Nat→List Nat
 | _,[] => []
 | i,x::xs => if x = c then i::posL c (i + 1) xs else posL c (i + 1) xs
theorem pbL_split {c:Nat}:∀ (xs pre:List Nat) (st:Nat),st≤pre.length→∃ p ps,splitL c xs = p::ps∧pbL (pre++xs) st (posL c pre.length xs) = (pre.drop st++p)::ps
 | [],pre,st,h => ⟨[],[],rfl,by show [(pre++[]).drop st] = _; rw [List.append_nil,List.append_nil]⟩
 | x::xs,pre,st,h => by
  have el:(pre++[x]).length = pre.length + 1:=by rw [List.length_append]; rfl
  have ea:pre++x::xs = (pre++[x])++xs:=by rw [List.append_assoc]; rfl
  by_cases hx:x = c
  ·obtain ⟨p,ps,e1,e2⟩:=pbL_split (c:=c) xs (pre++[x]) (pre.length + 1) (by rw [el]; exact Nat.le_refl _)
   rw [el] at e2
   refine ⟨[],p::ps,by rw [splitL,if_pos hx,e1],?_⟩
   rw [posL,if_pos hx,pbL,ea,e2,← ea,List.drop_append_of_le_length h,List.take_left' (by rw [List.length_drop])]
   rw [show (pre++[x]).drop (pre.length + 1) = [] by rw [List.drop_eq_nil_of_le (by rw [el]; exact Nat.le_refl _)],List.append_nil,List.nil_append]
  ·obtain ⟨p,ps,e1,e2⟩:=pbL_split (c:=c) xs (pre++[x]) st (by rw [el]; omega)
   rw [el] at e2
   refine ⟨x::p,ps,by rw [splitL,if_neg hx,e1],?_⟩
   rw [posL,if_neg hx,ea,e2,List.drop_append_of_le_length h,List.append_assoc]; rfl
theorem posL_filter {c:Nat} (l:List Nat):∀ (xs pre:List Nat),l = pre++xs→posL c pre.length xs = (List.range' pre.length xs.length).filter fun i => l[i]? == some c
 | [],_,_ => rfl
 | x::xs,pre,h => by
  have el:(pre++[x]).length = pre.length + 1:=by rw [List.length_append]; rfl
  have ih:=posL_filter (c:=c) l xs (pre++[x]) (by rw [h,List.append_assoc]; rfl)
  rw [el] at ih
  have ex:l[pre.length]? = some x:=by rw [h]; simp
  rw [List.length_cons,List.range'_succ,posL]
  by_cases hx:x = c
  ·rw [if_pos hx,List.filter_cons_of_pos (by rw [ex,hx]; simp),ih]
  ·rw [if_neg hx,List.filter_cons_of_neg (by rw [ex]; simpa using hx),ih]
theorem posOf_L (z:Str) (c:Nat):posOf z c = posL c 0 z.cps.toList:=by
 have:=posL_filter (c:=c) z.cps.toList z.cps.toList [] rfl
 rw [List.length_nil] at this
 rw [this]
 unfold posOf
 rw [List.range_eq_range',Array.length_toList]
 exact List.filter_congr fun i _ => by rw [Array.getElem?_toList]
theorem zip_parts (z:Str):∀ (ks:List Nat) (st:Nat),((st::ks.map (· + 1)).zip (ks++[z.length])).map (fun (i,j) => Builtin.Str.strSub z i j) = (pbL z.cps.toList st ks).map fun l => (⟨l.toArray⟩:Str)
 | [],st => by
  have e:z.cps.extract st z.cps.size = (z.cps.toList.drop st).toArray:=by
   apply Array.toList_inj.mp
   rw [Array.toList_extract,List.extract_eq_drop_take,List.take_of_length_le (by rw [List.length_drop,Array.length_toList]; exact Nat.le_refl _)]
  show [Builtin.Str.strSub z st z.length] = [(⟨(z.cps.toList.drop st).toArray⟩:Str)]
  rw [← e]; rfl
 | k::ks,st => by
  have ih:=zip_parts z ks (k + 1)
  have e:z.cps.extract st k = ((z.cps.toList.drop st).take (k - st)).toArray:=by
   apply Array.toList_inj.mp
   rw [Array.toList_extract,List.extract_eq_drop_take]
  rw [pbL]
  show Builtin.Str.strSub z st k::_ = (⟨((z.cps.toList.drop st).take (k - st)).toArray⟩:Str)::(pbL z.cps.toList (k + 1) ks).map fun l => (⟨l.toArray⟩:Str)
  rw [← e,← ih]; rfl
theorem parts_split (z:Str) (c:Nat):Builtin.Str.partsBetween z (posOf z c) 1 = splitZ z c:=by
 have h:=zip_parts z (posOf z c) 0
 obtain ⟨p,ps,e1,e2⟩:=pbL_split (c:=c) z.cps.toList [] 0 (Nat.le_refl _)
 unfold splitZ
 rw [show Builtin.Str.partsBetween z (posOf z c) 1 = ((0::(posOf z c).map (· + 1)).zip (posOf z c++[z.length])).map (fun (i,j) => Builtin.Str.strSub z i j) from rfl,h,posOf_L,e1]
 rw [List.nil_append,List.length_nil] at e2
 rw [e2]; rfl
theorem strs_vals:∀ (ys:List Str) (tk:Nat),Vals (ys.map V.str) (strsFrom tk ys)
 | [],_ => .nil
 | _::ys,tk => .cons ⟨_,rfl⟩ (strs_vals ys (tk + 1))
theorem rep_strs {K:PySem.W.Frag} {H:Hp}:∀ ys:List Str,RepL K H (ys.map D.str) (ys.map V.str)
 | [] => .nil
 | y::ys => .cons (.str y) (rep_strs ys)
theorem kind_one {z y:Str} {c:Nat} (hy:y.cps.toList = [c]) (hc:c < 256):decide (Builtin.Str.strKind z < Builtin.Str.strKind y) = false:=by
 have e:y.cps = #[c]:=by apply Array.toList_inj.mp; rw [hy]
 have e1:Builtin.Str.strKind y = 1:=by
  unfold Builtin.Str.strKind
  rw [if_pos (by rw [e]; simp [hc])]
 rw [e1,decide_eq_false_iff_not]
 unfold Builtin.Str.strKind
 split
 ·omega
 ·split <;> omega
theorem splitZ_no {z:Str} {c:Nat} (h:posOf z c = []):splitZ z c = [z]:=by
 have hn:c∉z.cps.toList:=by
  intro hm
  obtain ⟨i,hi,e⟩:=List.getElem_of_mem hm
  have hi':i < z.cps.size:=by rw [← Array.length_toList]; exact hi
  have:i∈posOf z c:=List.mem_filter.mpr ⟨List.mem_range.mpr hi',by rw [← Array.getElem?_toList,List.getElem?_eq_getElem hi,e]; simp⟩
  rw [h] at this; cases this
 unfold splitZ
 rw [splitL_no hn]; rfl
section
variable {prog:Program} {w:World} {A:Around} {E:Value→Shared→Prop} {s:Shared}
theorem split_call {z y:Str} {t u:Tok} {c:Nat} {Q:Value→Shared→Prop} (hy:y.cps.toList = [c]) (hz:z.cps.size≤100000) (hc:c < 256)
  (h:∀ (vs:List Value) (tk:Nat),Vals ((splitZ z c).map V.str) vs→Q (.ref s.heap.objs.size) { s with toks:=tk,heap:=s.heap.push { cls:=.type "list",data:=.seq vs.toArray } }) :
  wpAny (model prog w) A (call (.builtin "str.split") [.str z t,.str y u]) Q E s:=by
 have hl:y.length = 1:=by
  show y.cps.size = 1
  rw [← Array.length_toList,hy]; rfl
 have hn:(splitZ z c).length≤sizeLine:=by
  have:=splitL_len c z.cps.toList
  unfold splitZ
  rw [List.length_map,sizeLine_eq]
  have hzl:z.cps.toList.length = z.cps.size:=Array.length_toList
  omega
 by_cases hp:posOf z c = []
 ·have hm:Meets (Builtin.«str.split» ⟨[.str z t,.str y u],[]⟩) (fun _ R s => R (.ok (.ret (.ref s.heap.objs.size))) { s with heap:=s.heap.push { cls:=.type "list",data:=.seq [Value.str z t].toArray } }):=by
   obtain ⟨raising,htree⟩:=split_sep_tree z y t u
   refine .of_wp fun prog w A R s h => ?_
   rw [htree,kind_one hy hc,hl,occ_one hy,hp]
   by_cases h0:(decide (z.length < 1) || false) = true
   ·rw [if_pos h0]
    exact wpAny_bind (wpAny_rule (wpAny_bind (wpAny_newList (wpAny_pure ⟨_,rfl,h⟩) (by show 1≤sizeLine; decide))))
   ·rw [if_neg h0,if_neg (by decide),if_pos (by decide)]
    exact wpAny_bind (wpAny_rule (wpAny_bind (wpAny_newList (wpAny_pure ⟨_,rfl,h⟩) (by show 1≤sizeLine; decide))))
  refine call_meets F.slot_str_split (typeIs_str _ _ _) F.entry_str_split (F.args_str_split_2 _ _) hm ?_
  refine h [.str z t] s.toks ?_
  rw [splitZ_no hp]
  exact .cons ⟨_,rfl⟩ .nil
 ·have hz1:¬ z.length < 1:=by
   intro hlt
   apply hp
   have:z.cps.size = 0:=by have:z.length = z.cps.size:=rfl; omega
   unfold posOf; rw [this]; rfl
  have e1:(decide (z.length < y.length) || decide (Builtin.Str.strKind z < Builtin.Str.strKind y)) = false:=by rw [kind_one hy hc,hl,decide_eq_false hz1]; rfl
  have e3:(Builtin.Str.occurrences z y 0 z.length (z.length + 1)).isEmpty = false:=by
   rw [occ_one hy]
   cases e:posOf z c with
   | nil => exact absurd e hp
   | cons _ _ => rfl
  have e4:Builtin.Str.partsBetween z (Builtin.Str.occurrences z y 0 z.length (z.length + 1)) y.length = splitZ z c:=by rw [occ_one hy,hl,parts_split]
  have hm:=meets_str_split_sep z y t u e1 (by rw [hl]; decide) e3 (by show z.cps.size≤sizeLine; rw [sizeLine_eq]; omega) (by rw [e4]; exact hn)
  rw [e4] at hm
  refine call_meets F.slot_str_split (typeIs_str _ _ _) F.entry_str_split (F.args_str_split_2 _ _) hm ?_
  exact h _ _ (strs_vals _ _)
end
section
variable {X:Cx}
theorem mt3_split:MtR X "str.split" (liftM X.K r3split):=by
 intro pins s σ H x xs v us Q I rx rs t
 obtain ⟨d,ds,H3,Q3,hr,rd,rds,t,k⟩:=t
 cases rd with
 | str z =>
  cases rds with
  | nil => exact t.elim
  | cons r1 r2 =>
   cases r2 with
   | cons _ _ => cases r1 <;> exact t.elim
   | nil =>
    cases r1 with
    | str y =>
     delta r3split at t
     dsimp only at t
     split at t
     ·rename_i c hy
      obtain ⟨⟨hz,hc⟩,t⟩:=t
      obtain ⟨t1,rfl⟩:=rx
      obtain ⟨u,rfl,ru⟩:=vals1 rs
      obtain ⟨t2,rfl⟩:=ru
      refine split_call hy hz hc fun vs tk hv => ?_
      have nH:H s.heap.objs.size = none:=I.hok.fresh (Nat.le_refl _)
      have hn:((splitZ z c).map V.str).length≤sizeLine:=by
       have:=splitL_len c z.cps.toList
       unfold splitZ
       rw [List.length_map,List.length_map,sizeLine_eq]
       have hzl:z.cps.toList.length = z.cps.size:=Array.length_toList
       omega
      refine ⟨.ref s.heap.objs.size,upd H s.heap.objs.size (.lst ((splitZ z c).map V.str)),I.laid (fun b u e => Heap.get?_push_of_some _ e) (Nat.le_refl _) ⟨hn,vs,_,hv,Heap.get?_push_size _ rfl⟩,rfl,?_⟩
      exact k _ _ _ _ (TK.fresh nH) (hr.setL (TK.fresh nH) (rep_strs _)) (.ref _) (t _ (hr.fresh nH))
     ·exact t.elim
    | _ => exact t.elim
 | _ => exact t.elim
end
noncomputable def ezk (x:D) (H:Hp3) (R:List D→(Hp3→Prop)→Hp3→Prop):Prop:=match x with
 | .str z => z.cps.all (· < 128) = true∧R (zipD (rng 0 (lets z).length) (lets z)) (fun _ => True) H
 | _ => False
noncomputable def iez (te:TE3):TI3:=fun σ H R => te σ H fun x H1 => ezk x H1 R
theorem g_iez {te:TE3} {σ:St3} {H:Hp3} {R:List D→(Hp3→Prop)→Hp3→Prop} (h:te σ H fun x H1 => ezk x H1 R):iez te σ H R:=h
theorem g_ezk {z:Str} {H:Hp3} {R:List D→(Hp3→Prop)→Hp3→Prop} (ha:z.cps.all (· < 128) = true) (q:R (zipD (rng 0 (lets z).length) (lets z)) (fun _ => True) H):ezk (.str z) H R:=⟨ha,q⟩
noncomputable def Itez (x:Str):It :=
 ⟨fun i _ => ∃ c,x.cps[i]? = some c,
   fun i H v H' => ∃ T c,v = .ref T∧H T = none∧H' = upd H T (.tup [.int i,.str ⟨#[c]⟩])∧x.cps[i]? = some c,
   fun i _ => x.cps.size≤i⟩
theorem turn_enumZ {x:Str} {t:Tok} {P:Program} {w:World} {K:PySem.W.Frag} {elts:List Expr} {kt:Nat} {pt:Pos} (e it:Addr) (hne:e≠it) :
  Turn P w K (.Tuple elts kt pt) (Itez x) [e,it] e (fun i h => i≤x.cps.size∧(∃ old,IsEnum h e it i old)∧h.IsStrIter it "str_ascii_iterator" x t i) where
 mem:=by simp
 obj:=by
  rintro i h ⟨_,⟨old,h1⟩,⟨o4,h4,c4,d4⟩⟩ c hc
  simp only [List.mem_cons,List.not_mem_nil,or_false] at hc
  rcases hc with rfl | rfl
  ·exact ⟨_,h1,fun v z => nomatch z⟩
  ·exact ⟨_,h4,fun v z => by rw [d4] at z; cases z⟩
 keep:=by
  rintro i h h' ⟨hi,⟨old,h1⟩,⟨o4,h4,r4⟩⟩ k
  exact ⟨hi,⟨old,k e (by simp) _ h1⟩,o4,k it (by simp) o4 h4,r4⟩
 item:=by
  intro X hP hw hK hc i pins s σ H E I hf st hg
  subst hP hw hK
  obtain ⟨c,hx⟩:=hg
  obtain ⟨_,⟨old,h1⟩,h4⟩:=st
  have hT:H s.heap.objs.size = none:=I.hok.fresh (Nat.le_refl _)
  have hlt:i < x.cps.size:=(Array.getElem?_eq_some_iff.mp hx).1
  refine wpAny_pyNext_enum_itemD (Draws.strAscii (prog:=X.prog) (w:=X.w) (A:=X.A.in1) (I.ok.hd hc) it x t) h1 h4 hlt hne (by simp [hne]) fun u h' tk p a1 a2 a3 a4 a5 => ?_
  obtain ⟨c',u',hc',rfl⟩:=p
  have ec:c' = c:=Option.some.inj (hc'.symm.trans hx)
  subst ec
  refine ⟨_,rfl,?_⟩
  refine wpAny_letOwnedTupleGo_enum (s:={ s with heap:=h',toks:=tk + 1 }) a1 fun h'' b1 b2 => ?_
  have lt:∀ {c o},s.heap.get? c = some o→s.heap.objs.size≠c:=fun q => Nat.ne_of_gt (Heap.lt_size q)
  have new:h''.get? s.heap.objs.size = some { cls:=.type "tuple",data:=.seq #[.int i tk,.str ⟨#[c']⟩ u'] }:=(b2.2 _ (lt h1)).trans a3
  have I1:L2.Inv X pins σ (upd H s.heap.objs.size (.tup [.int i,.str ⟨#[c']⟩])) { s with heap:=h'',toks:=tk + 1 }:=by
   refine turnedNew (ch:=[e,it]) I (fun c o hcn q => ?_) hf (Nat.le_refl _) ⟨?_,[.int i tk,.str ⟨#[c']⟩ u'],.cons ⟨_,rfl⟩ (.cons ⟨_,rfl⟩ .nil),⟨_,new,rfl,_,rfl,rfl⟩⟩
   ·have n1:c≠e:=fun w => hcn (by simp [w])
    exact (b2.2 c n1).trans (a5 c o n1 (fun w => hcn (by simp [w])) q)
   ·show 2≤sizeLine; decide
  refine ⟨.ref s.heap.objs.size,_,I1,rfl,⟨_,c',rfl,hT,rfl,hx⟩,⟨hlt,⟨_,b1⟩,?_⟩,fun d hcm => ?_⟩
  ·obtain ⟨o,q,r⟩:=a2
   exact ⟨o,(b2.2 it (Ne.symm hne)).trans q,r⟩
  have hcn:H d = none:=(hf d hcm).1
  have:d≠s.heap.objs.size:=by
   obtain ⟨o,q,_⟩:∃ o,s.heap.get? d = some o∧True:=by
    simp only [List.mem_cons,List.not_mem_nil,or_false] at hcm
    rcases hcm with rfl | rfl
    ·exact ⟨_,h1,trivial⟩
    ·obtain ⟨o,q,_⟩:=h4; exact ⟨o,q,trivial⟩
   exact (lt q).symm
  rw [upd_ne this]; exact hcn
 done:=by
  intro X hP hw hK hc i pins s σ H E I hf st hg
  subst hP hw hK
  obtain ⟨hi,⟨old,h1⟩,h4⟩:=st
  have e0:i = x.cps.size:=Nat.le_antisymm hi hg
  subst e0
  refine wpAny_pyNext_enum_endD (Draws.strAscii (prog:=X.prog) (w:=X.w) (A:=X.A.in1) (I.ok.hd hc) it x t) h1 h4 fun h' k => ⟨rfl,?_⟩
  exact turnedL (t':=s.toks) (ch:=[e,it]) I (fun c o hcn q => k c o (fun w => hcn (by simp [w])) q) hf
 self:=fun A i s Q E st h => by
  obtain ⟨old,h1⟩:=st.2.1
  exact wpAny_pyIter_enum h1 h
section
variable {X:Cx} {tg:Expr}
theorem ascii_it {x:Str} (ha:x.cps.all (· < 128) = true):strIterType x = "str_ascii_iterator":=by unfold strIterType; rw [if_pos ha]
noncomputable def jEnumZ (te:TA):L2.TI:=fun σ H R => te σ H fun vs H1 => ∃ z:Str,vs = [.str z]∧z.cps.all (· < 128) = true∧R (Itez z) H1
theorem pj_enumZ {a:Expr} {ta:TA} {p pos pt:Pos} {elts:List Expr} {kt:Nat} (hg:Gl X "enumerate") (hm:X.mg "enumerate" = none) (ha:PA X [a] ta) (hs:starEach [a] X.env = [(false,eval a X.env)]:=by rfl) :
  PI X (.Tuple elts kt pt) (.Call (.Name "enumerate" p) [a] [] pos) (jEnumZ ta):=by
 intro pins s σ H R I h
 refine Call_ (ld_blt I hg hm boot_enum (PyProof.Rows.callWith_type1 (thn (ha pos pins s σ H _ I h) fun us s1 ⟨vs,H1,I1,r1,z,e,hz,q⟩ => ?_) (by rw [hs]; rfl) (by rfl)))
 subst e
 obtain ⟨u,rfl,e1⟩:=vals1 r1
 obtain ⟨t,rfl⟩:=e1
 refine call_enumerate_str fun h' he hit hsz hk => ?_
 rw [ascii_it hz] at hit
 refine wpAny_pyIter_enum (s:={ s1 with heap:=h' }) he ?_
 have I2:L2.Inv X pins σ H1 { s1 with heap:=h',toks:=s1.toks }:=I1.kept (t':=s1.toks) hk
 refine ⟨_,_,_,_,H1,rfl,I2,turn_enumZ (t:=t) _ _ (Nat.ne_of_gt (Nat.lt_succ_self _)),⟨Nat.zero_le _,⟨_,he⟩,hit⟩,fun b hb => ?_,q⟩
 simp only [List.mem_cons,List.not_mem_nil,or_false] at hb
 have hge:s1.heap.objs.size≤b:=by rcases hb with rfl | rfl <;> grind
 exact I1.fpOk (b:=b) (H':=H1) hge (I1.hok.fresh hge)
theorem itOk_enumZ {K:PySem.W.Frag} {H:Hp} {z:Str}:ItOk K H (zipD (rng 0 (lets z).length) (lets z)) (fun _ => True) (Itez z):=fun H3 H' _ hr _ => by
 have hz:(lets z).length = z.cps.size:=by unfold lets; rw [List.length_map,Array.length_toList]
 refine ⟨fun i hi => ?_,?_⟩
 ·rw [en_len,hz] at hi
  refine ⟨⟨z.cps[i],by simp [hi]⟩,fun v H'' y => ?_⟩
  obtain ⟨T,c,rfl,hT,rfl,hc⟩:=y
  have hc2:(lets z)[i]? = some (.str ⟨#[c]⟩):=by unfold lets; rw [List.getElem?_map,Array.getElem?_toList,hc]; rfl
  refine ⟨TK.fresh hT,hr.tup hT,.tup [.int i,.str ⟨#[c]⟩],?_,.tup upd_same (.cons (.int i) (.cons (.str _) .nil))⟩
  unfold zipD
  rw [List.getElem?_zipWith,hc2,rng_get (by rw [hz]; exact hi)]
  simp only [Int.zero_add]
 ·rw [en_len,hz]; exact Nat.le_refl _
theorem i3_enumZ {a:Expr} {ta:TE3} {p pos pt:Pos} {elts:List Expr} {kt:Nat} (hm:X.mg "enumerate" = none) (ha:PE3 X a ta) (hg:Gl X "enumerate":=by rfl) (hs:starEach [a] X.env = [(false,eval a X.env)]:=by rfl)
  (hs1:starEach [a] X.env = (false,eval a X.env)::starEach [] X.env:=by rfl):PI3 X (.Tuple elts kt pt) (.Call (.Name "enumerate" p) [a] [] pos) (iez ta) :=
 pi_imp (pj_enumZ hg hm (a3_cons ha a3_nil hs1) hs) fun _ _ _ ⟨σ3,H3,R3,sr,hr,t,k⟩ => by
  refine ⟨σ3,H3,fun ds H1 => (match ds with | [x] => ezk x H1 R3 | _ => False),sr,hr,t,fun ds vs H3a Ha tka hra rs qa => ?_⟩
  cases rs with
  | nil => exact qa.elim
  | cons r1 r2 =>
   cases r2 with
   | cons _ _ => exact qa.elim
   | nil =>
    cases r1 with
    | str z => exact ⟨z,rfl,qa.1,k _ _ _ _ _ tka hra itOk_enumZ qa.2⟩
    | _ => exact qa.elim
end
noncomputable def erk (x:D) (H:Hp3) (R:List D→(Hp3→Prop)→Hp3→Prop):Prop:=∃ a ds,x = .ref a∧H a = some (.lst ds)∧R (zipD (rng 0 ds.reverse.length) ds.reverse) (fun H' => H' a = some (.lst ds)) H
noncomputable def ier (te:TE3):TI3:=fun σ H R => te σ H fun x H1 => erk x H1 R
theorem g_ier {te:TE3} {σ:St3} {H:Hp3} {R:List D→(Hp3→Prop)→Hp3→Prop} (h:te σ H fun x H1 => erk x H1 R):ier te σ H R:=h
theorem g_erk {H:Hp3} {a:Addr} {ds:List D} {R:List D→(Hp3→Prop)→Hp3→Prop} (h:H a = some (.lst ds)) (q:R (zipD (rng 0 ds.reverse.length) ds.reverse) (fun H' => H' a = some (.lst ds)) H):erk (.ref a) H R:=⟨a,ds,rfl,h,q⟩
section
variable {prog:Program} {w:World} {A:Around} {E:Value→Shared→Prop} {s:Shared}
theorem lri_item {it l:Addr} {i:Nat} {items:Array Value} {x:Value} {Q:Value→Shared→Prop} (hit:s.heap.IsRevIter it l (i:Int)) (hl:s.heap.IsList l items) (hx:items[i]? = some x)
  (hQ:∀ h',h'.IsRevIter it l ((i:Int) - 1)→Heap.SameBut it s.heap h'→Q x { s with heap:=h' }):wpAny (model prog w) A (Builtin.SmallTypes.nextOf (.ref it)) Q E s:=by
 obtain ⟨o,h1,h2,h3⟩:=id hit
 obtain ⟨l1,l2,_,l3,l4⟩:=hl
 unfold Builtin.SmallTypes.nextOf
 refine wpAny_bind (wpAny_callSpecial?_slot (name:=Str.ofString "__next__") hit.typeIs F.slot_lri_next
  (wpAny_call_entry F.slot_lri_next hit.typeIs F.entry_lri_next ?_ (F.args_lri_next_1 _)))
 unfold Builtin.«list_reverseiterator.__next__»
 refine wpAny_bind (wpAny_of_eq (a:=(Value.ref it,[])) rfl ?_)
 try dsimp only
 refine wpAny_bind (wpAny_field h1 h3 (x:=rawInt (i:Int)) rfl ?_)
 show wpAny _ _ (if (i:Int) < 0 then _ else _) _ _ s
 rw [if_neg (by grind)]
 show wpAny _ _ (field (.ref it) 0 >>= _) _ _ s
 refine wpAny_bind (wpAny_field h1 h3 (x:=.ref l) rfl ?_)
 show wpAny _ _ (seqItems? (.ref l) >>= _) _ _ s
 refine wpAny_bind (wpAny_seqItems l2 l4 ?_)
 simp only [Int.toNat_natCast,hx]
 refine wpAny_bind (wpAny_setField h1 h3 (by simp) ?_)
 first
 | refine wpAny_pure ⟨x,rfl,wpAny_pure (hQ _ ?_ (Heap.SameBut.update ..))⟩
 | refine wpAny_bind (wpAny_pure (wpAny_pure ⟨x,rfl,wpAny_pure (hQ _ ?_ (Heap.SameBut.update ..))⟩))
 exact ⟨_,Heap.get?_update_self _ h1 (Obj.isFreed_of_fields (Obj.data_mapFields h3 _)),(Obj.cls_mapFields ..).trans h2,by rw [Obj.data_mapFields h3]; simp⟩
theorem lri_end {it l:Addr} {Q:Value→Shared→Prop} (hh:A.handled = none) (hit:s.heap.IsRevIter it l (-1))
  (hE:∀ h' e,Heap.ExtBut it s.heap h'→(∃ o,h'.get? e = some o∧o.cls = .type "StopIteration")→E (.ref e) { s with heap:=h' }):wpAny (model prog w) A (Builtin.SmallTypes.nextOf (.ref it)) Q E s:=by
 obtain ⟨o,h1,h2,h3⟩:=id hit
 unfold Builtin.SmallTypes.nextOf
 refine wpAny_bind (wpAny_callSpecial?_slot (name:=Str.ofString "__next__") hit.typeIs F.slot_lri_next
  (wpAny_call_entry F.slot_lri_next hit.typeIs F.entry_lri_next ?_ (F.args_lri_next_1 _)))
 unfold Builtin.«list_reverseiterator.__next__»
 refine wpAny_bind (wpAny_of_eq (a:=(Value.ref it,[])) rfl ?_)
 try dsimp only
 refine wpAny_bind (wpAny_field h1 h3 (x:=rawInt (-1)) rfl ?_)
 show wpAny _ _ (if (-1:Int) < 0 then _ else _) _ _ s
 rw [if_pos (by decide)]
 refine wpAny_bind (wpAny_rule ?_)
 first
 | show wpAny _ _ (newExc (.type "StopIteration") [] >>= _) _ _ _
 | (refine wpAny_bind ?_; show wpAny _ _ (newExc (.type "StopIteration") [] >>= _) _ _ _)
 refine wpAny_bind ?_
 simp only [newExc,newTuple]
 refine wpAny_bind (wpAny_newObj_type ?_ (by size_fits))
 refine wpAny_bind (m:=firstArgMember _ _) (wpAny_of_eq (a:=Value.none) (by first | rfl | (simp only [firstArgMember]; rfl)) ?_)
 refine wpAny_newObj_type ?_ (by size_fits)
 simp only [raiseNew]
 refine wpAny_bind (wpAny_handled ?_)
 first | rw [show A.in1.handled = none from hh] | rw [hh]
 refine wpAny_bind (wpAny_pure (wpAny_throw ?_))
 exact hE _ _ (((Heap.ExtBut.refl _ _).push _).push _) ⟨_,Heap.get?_push_size _ rfl,rfl⟩
theorem lri_draws (hh:A.handled = none) (it l:Addr) (hne:l≠it) (items:Array Value) :
  Draws prog w A it [it,l] items.size (fun i v => items[items.size - 1 - i]? = some v) (fun i h => i≤items.size∧h.IsRevIter it l ((items.size:Int) - 1 - (i:Int))∧h.IsList l items) where
 live:=fun _ _ st => let ⟨o,ho,_⟩:=st.2.1; ⟨o,ho⟩
 frame:=fun _ _ _ st hk => ⟨st.1,st.2.1.at fun o e => hk it (by simp) o e,st.2.2.at fun o e => hk l (by simp) o e⟩
 item:=fun i s Q E hi st hQ => by
  have e:(items.size:Int) - 1 - (i:Int) = ((items.size - 1 - i:Nat):Int):=by omega
  have hit:=st.2.1
  rw [e] at hit
  have hx:items[items.size - 1 - i]? = some (items[items.size - 1 - i]'(by omega)):=Array.getElem?_eq_getElem (by omega)
  refine lri_item hit st.2.2 hx fun h' hit' hs' => ?_
  have e2:((items.size - 1 - i:Nat):Int) - 1 = (items.size:Int) - 1 - ((i + 1:Nat):Int):=by omega
  rw [e2] at hit'
  exact hQ _ h' s.toks hx ⟨hi,hit',st.2.2.extBut hs'.extBut hne⟩ hs'
 done:=fun s Q E st hE => by
  have hit:=st.2.1
  rw [show (items.size:Int) - 1 - (items.size:Int) = -1 by omega] at hit
  exact lri_end hh hit hE
end
set_option maxHeartbeats 1000000 in
theorem lri_enum_new (it l:Addr) (j:Int) :
  Meets (Builtin.«enumerate.__new__» ⟨[.type "enumerate",.ref it],[]⟩) (fun _ R s => s.heap.IsRevIter it l j ∧
   R (.ok (.ret (.ref s.heap.objs.size))) { s with heap:=s.heap.push { cls:=.type "enumerate",data:=.fields #[.none,.bool false,.ref it,rawInt 0,.none,.none] } }) :=
 .of_wp fun prog w A R s h => by
  obtain ⟨hp,g,d,tk,os⟩:=s
  obtain ⟨hl,h⟩:=h
  have hsub:=sub_enumerate
  obtain ⟨o,h1,h2,h3⟩:=id hl
  wp_walk using AutoSeq1.wpAny_loadPart' h1
  refine wpAny_stack_any fun st => wpAny_pure ?_
  split
  ·rename_i c _ _ _ _ _
   cases (c == Value.type "enumerate")
   ·wp_walk using AutoSeq1.wpAny_loadPart' h1,wpAny_pyIter_revIter hl
    exact ⟨_,rfl,h⟩
   ·wp_walk using AutoSeq1.wpAny_loadPart' h1,wpAny_pyIter_revIter hl
    exact ⟨_,rfl,h⟩
  ·wp_walk using AutoSeq1.wpAny_loadPart' h1,wpAny_pyIter_revIter hl
   exact ⟨_,rfl,h⟩
theorem call_enum_lri {prog:Program} {w:World} {A:Around} {E:Value→Shared→Prop} {s:Shared} {it l:Addr} {j:Int} {Q:Value→Shared→Prop} (hl:s.heap.IsRevIter it l j)
  (h:∀ h',IsEnum h' s.heap.objs.size it 0 .none→(∀ b o,s.heap.get? b = some o→h'.get? b = some o)→Q (.ref s.heap.objs.size) { s with heap:=h' }) :
  wpAny (model prog w) A (call (.type "enumerate") [.ref it]) Q E s:=by
 refine callType_new F.called_enumerate (by decide) (F.typeCall_enumerate_1 _) (F.newCall_enumerate_1 _) (fun obj => F.args_object_init_2 obj _) F.entry_enumerate_new
  (lri_enum_new it l j) ⟨hl,?_⟩
 have he:IsEnum (s.heap.push { cls:=.type "enumerate",data:=.fields #[.none,.bool false,.ref it,rawInt 0,.none,.none] }) s.heap.objs.size it 0 .none:=Heap.get?_push_size _ rfl
 exact ⟨⟨_,he,rfl⟩,h _ he fun b o x => Heap.get?_push_of_some _ x⟩
noncomputable def Iter (K:PySem.W.Frag) (a:Addr) (n:Nat):It :=
 ⟨fun i H => ∃ xs x,SqL K H a xs∧xs.length = n∧i < n∧xs[n - 1 - i]? = some x,
   fun i H v H' => ∃ T x,v = .ref T∧H T = none∧H' = upd H T (.tup [.int i,x])∧∀ xs,SqL K H a xs→xs[n - 1 - i]? = some x,
   fun i H => ∃ xs,SqL K H a xs∧xs.length = n∧n≤i⟩
theorem turn_enumR {P:Program} {w:World} {K:PySem.W.Frag} {elts:List Expr} {kt n:Nat} {pt:Pos} (e it a:Addr) (hne:e≠it) (hea:e≠a) (hai:a≠it) :
  Turn P w K (.Tuple elts kt pt) (Iter K a n) [e,it] e (fun i h => i≤n∧(∃ old,IsEnum h e it i old)∧h.IsRevIter it a ((n:Int) - 1 - (i:Int))) where
 mem:=by simp
 obj:=by
  rintro i h ⟨_,⟨old,h1⟩,⟨o4,h4,c4,d4⟩⟩ c hc
  simp only [List.mem_cons,List.not_mem_nil,or_false] at hc
  rcases hc with rfl | rfl
  ·exact ⟨_,h1,fun v z => nomatch z⟩
  ·exact ⟨_,h4,fun v z => by rw [d4] at z; cases z⟩
 keep:=by
  rintro i h h' ⟨hi,⟨old,h1⟩,h4⟩ k
  exact ⟨hi,⟨old,k e (by simp) _ h1⟩,h4.at fun o q => k it (by simp) o q⟩
 item:=by
  intro X hP hw hK hc i pins s σ H E I hf st hg
  subst hP hw hK
  obtain ⟨xs,x,hq,hn,hin,hx⟩:=hg
  obtain ⟨_,⟨old,h1⟩,h4⟩:=st
  obtain ⟨its,rv,p,hz⟩:=I.list hq
  obtain ⟨u,hu,ru⟩:=rv.get hx
  have hT:H s.heap.objs.size = none:=I.hok.fresh (Nat.le_refl _)
  have hsz:its.toArray.size = n:=by rw [List.size_toArray,← rv.length]; exact hn
  refine wpAny_pyNext_enum_itemD (lri_draws (prog:=X.prog) (w:=X.w) (A:=X.A.in1) (I.ok.hd hc) it a hai its.toArray) (i:=i) h1 ⟨by rw [hsz]; exact Nat.le_of_lt hin,by rw [hsz]; exact h4,p.isList⟩ (by rw [hsz]; exact hin) hne (by simp [hne,hea]) fun u' h' tk pu a1 a2 a3 a4 a5 => ?_
  have eu:u' = u:=by
   rw [hsz,List.getElem?_toArray,hu] at pu
   exact (Option.some.inj pu).symm
  subst eu
  refine ⟨_,rfl,?_⟩
  refine wpAny_letOwnedTupleGo_enum (s:={ s with heap:=h',toks:=tk + 1 }) a1 fun h'' b1 b2 => ?_
  have lt:∀ {c o},s.heap.get? c = some o→s.heap.objs.size≠c:=fun q => Nat.ne_of_gt (Heap.lt_size q)
  have new:h''.get? s.heap.objs.size = some { cls:=.type "tuple",data:=.seq #[.int i tk,u'] }:=(b2.2 _ (lt h1)).trans a3
  have I1:L2.Inv X pins σ (upd H s.heap.objs.size (.tup [.int i,x])) { s with heap:=h'',toks:=tk + 1 }:=by
   refine turnedNew (ch:=[e,it]) I (fun c o hcn q => ?_) hf (Nat.le_refl _) ⟨?_,[.int i tk,u'],.cons ⟨_,rfl⟩ (.cons ru .nil),⟨_,new,rfl,_,rfl,rfl⟩⟩
   ·have n1:c≠e:=fun w => hcn (by simp [w])
    exact (b2.2 c n1).trans (a5 c o n1 (fun w => hcn (by simp [w])) q)
   ·show 2≤sizeLine; decide
  refine ⟨.ref s.heap.objs.size,_,I1,rfl,⟨_,x,rfl,hT,rfl,fun xs' q1 => by rw [I.list_inj q1 hq]; exact hx⟩,⟨hin,⟨_,b1⟩,?_⟩,fun c hcm => ?_⟩
  ·have:=a2.2.1
   rw [hsz] at this
   exact this.at fun o q => (b2.2 it (Ne.symm hne)).trans q
  have hcn:H c = none:=(hf c hcm).1
  have:c≠s.heap.objs.size:=by
   obtain ⟨o,q,_⟩:∃ o,s.heap.get? c = some o∧True:=by
    simp only [List.mem_cons,List.not_mem_nil,or_false] at hcm
    rcases hcm with rfl | rfl
    ·exact ⟨_,h1,trivial⟩
    ·obtain ⟨o,q,_⟩:=h4; exact ⟨o,q,trivial⟩
   exact (lt q).symm
  rw [upd_ne this]; exact hcn
 done:=by
  intro X hP hw hK hc i pins s σ H E I hf st hg
  subst hP hw hK
  obtain ⟨xs,hq,hn,hx⟩:=hg
  obtain ⟨hi,⟨old,h1⟩,h4⟩:=st
  obtain ⟨its,rv,p,hz⟩:=I.list hq
  have e0:i = n:=Nat.le_antisymm hi hx
  subst e0
  have hsz:its.toArray.size = i:=by rw [List.size_toArray,← rv.length]; exact hn
  refine wpAny_pyNext_enum_endD (lri_draws (prog:=X.prog) (w:=X.w) (A:=X.A.in1) (I.ok.hd hc) it a hai its.toArray) h1 ⟨Nat.le_refl _,by rw [hsz]; exact h4,p.isList⟩ fun h' k => ⟨rfl,?_⟩
  exact turnedL (t':=s.toks) (ch:=[e,it]) I (fun c o hcn q => k c o (fun w => hcn (by simp [w])) q) hf
 self:=fun A i s Q E st h => by
  obtain ⟨old,h1⟩:=st.2.1
  exact wpAny_pyIter_enum h1 h
section
variable {X:Cx} {tg:Expr}
noncomputable def jEnumR (K:PySem.W.Frag) (te:TE):L2.TI:=fun σ H R => te σ H fun x H1 => ∃ a xs,x = .ref a∧SqL K H1 a xs∧R (Iter K a xs.length) H1
theorem pj_enumR {e:Expr} {te:TE} {p1 p2 pos1 pos2 pt:Pos} {elts:List Expr} {kt:Nat} (g1:Gl X "enumerate") (m1:X.mg "enumerate" = none) (g2:Gl X "reversed") (m2:X.mg "reversed" = none) (he:PE X e te)
  (hs:starEach [.Call (.Name "reversed" p2) [e] [] pos2] X.env = [(false,eval (.Call (.Name "reversed" p2) [e] [] pos2) X.env)]:=by rfl) (hs2:starEach [e] X.env = [(false,eval e X.env)]:=by rfl) :
  PI X (.Tuple elts kt pt) (.Call (.Name "enumerate" p1) [.Call (.Name "reversed" p2) [e] [] pos2] [] pos1) (jEnumR X.K te):=by
 intro pins s σ H R I h
 refine Call_ (ld_blt I g1 m1 boot_enum (PyProof.Rows.callWith_type1 ?_ hs rfl))
 rw [hs]
 refine Calls.spliced_cons ?_
 refine Call_ (ld_blt I g2 m2 boot_reversed (PyProof.Rows.callWith_type1 ?_ hs2 rfl))
 rw [hs2]
 refine Calls.spliced_cons (thn (he pins s σ H _ I h) fun v s1 zz => ?_)
 obtain ⟨x,H1,I1,r1,a,xs,ex,hq,q⟩:=zz
 subst ex
 cases r1
 obtain ⟨its,rv,pl,hz⟩:=I1.list hq
 refine Calls.spliced_nil ?_
 have hsz:its.toArray.size = xs.length:=by rw [List.size_toArray,← rv.length]
 have hI:(s1.heap.push (revObj a ((its.toArray.size:Int) - 1))).IsRevIter s1.heap.objs.size a ((its.toArray.size:Int) - 1):=⟨_,Heap.get?_push_size _ rfl,rfl,rfl⟩
 have la:a < s1.heap.objs.size:=by obtain ⟨_,e,_⟩:=pl.isList; exact Heap.lt_size e
 refine call_reversed_list pl.isList ?_
 refine Calls.spliced_nil ?_
 have hs1:(s1.heap.push (revObj a ((its.toArray.size:Int) - 1))).objs.size = s1.heap.objs.size + 1:=Heap.size_push ..
 refine call_enum_lri (s:={ s1 with heap:=s1.heap.push (revObj a ((its.toArray.size:Int) - 1)) }) hI fun h' he hk => ?_
 have he2:IsEnum h' (s1.heap.objs.size + 1) s1.heap.objs.size 0 .none:=hs1▸he
 show wpAny _ _ (pyIter (.ref (s1.heap.push (revObj a ((its.toArray.size:Int) - 1))).objs.size)) _ _ _
 rw [hs1]
 refine wpAny_pyIter_enum (s:={ s1 with heap:=h' }) he2 ?_
 have I2:L2.Inv X pins σ H1 { s1 with heap:=h',toks:=s1.toks }:=I1.kept (t':=s1.toks) fun b o z => hk b o (Heap.get?_push_of_some _ z)
 refine ⟨_,_,_,_,H1,rfl,I2,turn_enumR (n:=xs.length) (s1.heap.objs.size + 1) s1.heap.objs.size a (Nat.ne_of_gt (Nat.lt_succ_self _)) (Nat.ne_of_gt (Nat.lt_succ_of_lt la)) (Nat.ne_of_lt la),⟨Nat.zero_le _,⟨_,he2⟩,?_⟩,fun b hb => ?_,q⟩
 ·have:=hI.at fun o z => hk _ o z
  rw [hsz] at this
  show Heap.IsRevIter h' _ _ ((xs.length:Int) - 1 - ((0:Nat):Int))
  rw [show ((xs.length:Int) - 1 - ((0:Nat):Int)) = (xs.length:Int) - 1 from Int.sub_zero _]
  exact this
 simp only [List.mem_cons,List.not_mem_nil,or_false] at hb
 have hge:s1.heap.objs.size≤b:=by
  rcases hb with rfl | rfl
  ·exact Nat.le_succ _
  ·exact Nat.le_refl _
 exact I1.fpOk (b:=b) (H':=H1) hge (I1.hok.fresh hge)
theorem itOk_enumR {K:PySem.W.Frag} {H:Hp} {a:Addr} {ds:List D}:ItOk K H (zipD (rng 0 ds.reverse.length) ds.reverse) (fun H' => H' a = some (.lst ds)) (Iter K a ds.length):=fun H3 H' _ hr hk => by
 obtain ⟨vs,ga,ra⟩:=hr a _ hk
 have hl:=ra.length
 refine ⟨fun i hi => ?_,?_⟩
 ·rw [en_len] at hi
  rw [List.length_reverse] at hi
  have h1:ds.length - 1 - i < vs.length:=by omega
  refine ⟨⟨vs,vs[ds.length - 1 - i],SqL.of ga,hl.symm,hi,by simp⟩,fun v H'' y => ?_⟩
  obtain ⟨T,x,rfl,hT,rfl,hx⟩:=y
  obtain ⟨d,hd,rd⟩:=ra.getV (hx vs (SqL.of ga))
  refine ⟨TK.fresh hT,hr.tup hT,.tup [.int i,d],?_,.tup upd_same (.cons (.int i) (.cons (rd.mono (TK.fresh hT)) .nil))⟩
  unfold zipD
  rw [List.getElem?_zipWith,List.getElem?_reverse hi,hd,rng_get (by rw [List.length_reverse]; exact hi)]
  simp only [Int.zero_add]
 ·rw [en_len,List.length_reverse]
  exact ⟨vs,SqL.of ga,hl.symm,Nat.le_refl _⟩
theorem i3_enumR {e:Expr} {te:TE3} {p1 p2 pos1 pos2 pt:Pos} {elts:List Expr} {kt:Nat} (m1:X.mg "enumerate" = none) (m2:X.mg "reversed" = none) (he:PE3 X e te) (g1:Gl X "enumerate":=by rfl) (g2:Gl X "reversed":=by rfl)
  (hs:starEach [.Call (.Name "reversed" p2) [e] [] pos2] X.env = [(false,eval (.Call (.Name "reversed" p2) [e] [] pos2) X.env)]:=by rfl) (hs2:starEach [e] X.env = [(false,eval e X.env)]:=by rfl) :
  PI3 X (.Tuple elts kt pt) (.Call (.Name "enumerate" p1) [.Call (.Name "reversed" p2) [e] [] pos2] [] pos1) (ier te) :=
 pi_imp (pj_enumR g1 m1 g2 m2 he hs hs2) fun _ _ _ ⟨σ3,H3,R3,sr,hr,t,k⟩ => by
  refine ⟨σ3,H3,_,sr,hr,t,fun x v H3a Ha tka hra rx qa => ?_⟩
  obtain ⟨a,ds,rfl,ha,q⟩:=qa
  cases rx
  obtain ⟨vs,ga,ra⟩:=hra a _ ha
  refine ⟨a,vs,rfl,SqL.of ga,?_⟩
  rw [← ra.length]
  exact k _ _ _ _ _ tka hra itOk_enumR q
end
end L3
namespace L3
open PySem L2
end L3
namespace L3
open PySem PySem.Spec PyProof.Rows L2
end L3
namespace L3
open PySem L2
end L3
namespace L3
open PySem PySem.Spec PyProof.Rows L2
end L3
namespace L3
open PySem L2
end L3
namespace L3
open PySem PySem.Spec PyProof.Rows L2
end L3
namespace L3
open PySem L2
end L3
namespace L3
open PySem PySem.Spec PyProof.Rows L2
end L3
namespace L3
open PySem L2
end L3
namespace L3
open PySem PySem.Spec PyProof.Rows L2
end L3
namespace L3
open PySem L2
end L3
namespace L3
open PySem PySem.Spec PyProof.Rows L2
end L3
namespace L3
open PySem L2
end L3
namespace L3
open PySem PySem.Spec PyProof.Rows L2
end L3
namespace L3
open PySem L2
end L3
namespace L3
open PySem PySem.Spec PyProof.Rows L2
end L3
namespace L3
open PySem L2
end L3
namespace L3
open PySem PySem.Spec PyProof.Rows L2
end L3
namespace L3
open PySem L2
end L3
namespace L3
open PySem PySem.Spec PyProof.Rows L2
noncomputable def Vec:Nat→(List Value→Prop)→Prop
 | 0,P => P []
 | n + 1,P => ∀ u,Vec n fun us => P (u::us)
theorem Vec.row {P:List Value→Prop}:∀ {us:List Value},Vec us.length P→P us
 | [],h => h
 | u::_,h => Vec.row (P:=fun us => P (u::us)) (h u)
noncomputable def Bnd (x qual:Str) (st:Stmt) (ps:List Str):Prop:=∀ (kV doc pm:Value) (an:Option Addr) (cdv ct:Value),
 Vec ps.length fun us => bindArgs (PySem.W.fnOf x qual (defArgs st) (defBody st) (defScope st) .none kV doc pm an cdv ct) ⟨us,[]⟩ = pure (ps.zip us)
theorem Bnd.of {K:PySem.W.Frag} {x qual:Str} {st:Stmt} {f:Addr} {fd:FuncData} {ps:List Str} (b:Bnd x qual st ps) (F:Fun K x qual st f fd):Binds K fd ps [] :=
 F.binds fun kV doc pm an cdv ct _ e => Vec.row (e▸b kV doc pm an cdv ct)
inductive FnIn (K:PySem.W.Frag) (mg:Str→Option Value) (x:Str) (st:Stmt) (ps:List Str):Prop
 | mk {f:Addr} {fd:FuncData} (F:Fun K x x st f fd) (hm:mg x = some (.ref f)) (hb:Binds K fd ps [])
section
variable {P:Program} {w:World} {K:PySem.W.Frag} {mg:Str→Option Value} {base h:Heap} {x qual c m:Str} {st:Stmt} {f C:Addr} {fd:FuncData} {N ps:List Str} {k:Nat} {sp:Sp3} {se:SpE} {t:TS3} {te:EK3→TS3}
theorem fn_in {oc:Value} {od an:Option Addr} {osl:Array (Option Value)} {kV doc pm cdv ct:Value} (X:K.In h) (G:h.Ns mainGlobals mg) (a:PySem.W.nsIn K mainGlobals x = some (some (.ref f)))
  (l:K.lookup f = some ⟨oc,od,.func (PySem.W.fnOf x x (defArgs st) (defBody st) (defScope st) .none kV doc pm an cdv ct),osl⟩) (d:PySem.W.codeIn K cdv x = true) (q:PySem.W.keepIn K (.ref f) = true) (b:Bnd x x st ps):FnIn K mg x st ps :=
 ⟨fun_mk l d q,PySem.W.mg_of X G a,b.of (fun_mk l d q)⟩
theorem fn3i (q:FnIn K mg x st ps) (S:FnScope N ps (defScope st)) (len:∀ ds H Q,sp ds H Q→ds.length = ps.length)
  (hbody:∀ (f:Addr) (cdv:Value) (A:Around) (outer:List Env) (s:Shared) (H:Hp) (E:XK),Room k (A.deeper (envOfC x (defScope st) s.heap.objs.size f cdv))→PSs3 (cxOf CX0 P w K mg base N x (defScope st) f cdv A outer s H E).nox (defBody st) t)
  (rd:∀ ds H3 Q3,sp ds H3 Q3→t (fin3 Q3) (start3 N ds) H3):Fn P w K mg base (k + 1) x ps sp:=by
 cases q with
 | mk F hm hb => exact fn3 F S hm hb len fun cdv A outer s H E hr => ⟨t,hbody _ cdv A outer s H E hr,rd⟩
theorem fnE3i (q:FnIn K mg x st ps) (S:FnScope N ps (defScope st)) (len:∀ ds H Q E,se ds H Q E→ds.length = ps.length)
  (hbody:∀ (f:Addr) (cdv:Value) (A:Around) (outer:List Env) (s:Shared) (H:Hp) (E:XK) (E3:EK3),Room k (A.deeper (envOfC x (defScope st) s.heap.objs.size f cdv))→KX K H E3 E→PSs3 (cxOf (CXE P w) P w K mg base N x (defScope st) f cdv A outer s H E) (defBody st) (te E3))
  (rd:∀ ds H3 Q3 E3,se ds H3 Q3 E3→te E3 (fin3 Q3) (start3 N ds) H3):FnE P w K mg base (k + 1) x ps se:=by
 cases q with
 | mk F hm hb => exact fnE3' F S hm hb len (hbody _) rd
end
end L3
namespace L3
open PySem PySem.W PySem.Spec PyProof.Rows
end L3
namespace L3
open PySem PySem.Spec PyProof.Rows L2
end L3
namespace L3
open PySem L2
end L3
namespace L3
open PySem PySem.Spec PyProof.Rows L2
end L3
namespace L3
open PySem L2
end L3
namespace L3
open PySem PySem.Spec PyProof.Rows L2
end L3
namespace L3
open PySem L2
end L3
namespace L3.ST
open PySem PySem.SetTable PySem.Spec PyProof.Rows
end L3.ST
namespace L3
open PySem PySem.Spec PyProof.Rows L2
end L3
namespace L3
open PySem L2
end L3
namespace L3
open PySem PySem.Spec PyProof.Rows L2
section
variable {X:Cx} {pins:List (Addr×Obj)} {σ:St} {H:Hp} {s:Shared}
theorem RepL.erase {K:PySem.W.Frag} {H:Hp}:∀ {ds:List D} {vs:List V},RepL K H ds vs→∀ j:Nat,RepL K H (ds.eraseIdx j) (vs.eraseIdx j)
 | _,_,.nil,_ => .nil
 | _,_,.cons r t,0 => t
 | _,_,.cons r t,j + 1 => .cons r (RepL.erase t j)
end
end L3
namespace L3
open PySem L2
end L3
namespace L3
open PySem PySem.Spec PyProof.Rows L2
noncomputable def xgk (cs:List Str) (f:Str) (x:D) (H:Hp3) (Q:VK3):Prop:=match x with
 | .ref a => (match H a with
  | some (.exc c fs) => (match fs.lookup f with
   | some d => c∈cs∧Q d H
   | none => False)
  | _ => False)
 | _ => False
noncomputable def xg3 (cs:List Str) (f:Str) (ta:TE3):TE3:=fun σ H Q => ta σ H fun x H1 => xgk cs f x H1 Q
theorem g_xg3 {cs:List Str} {f:Str} {ta:TE3} {σ:St3} {H:Hp3} {Q:VK3} (h:ta σ H fun x H1 => xgk cs f x H1 Q):xg3 cs f ta σ H Q:=h
theorem g_xgk {cs:List Str} {f c:Str} {fs:List (Str×D)} {a:Addr} {d:D} {H:Hp3} {Q:VK3} (h:H a = some (.exc c fs)) (hl:fs.lookup f = some d) (hc:c∈cs) (q:Q d H):xgk cs f (.ref a) H Q:=by
 (delta xgk; simp only [h,hl]); exact ⟨hc,q⟩
end L3
namespace L3
open PySem PySem.Spec PyProof.Rows L2 PySem.Calls Builtin Builtin.ObjectAttr
noncomputable abbrev bmV:List Value:=[.type "ValueError",.type "Exception",.type "BaseException",.type "object"]
noncomputable def ownV:List Value→Bool
 | .ref _::l => ownV l
 | l => l == bmV
theorem ownV_pass (self:Value) (l:List Value):ownV l = true→refuseLoop self "__setattr__" l = pure ():=by
 induction l with
 | nil => intro h; cases h
 | cons v l ih =>
  intro h
  cases v with
  | ref C => rw [refuseLoop_ref]; exact ih h
  | _ => rw [show (_::l:List Value) = bmV from beq_iff_eq.mp h]; exact PySem.F.store_ValueError.passes self
noncomputable def xclIn (K:PySem.W.Frag) (C f:Addr):Bool:=(match K.lookup C with
 | some ⟨.type "type",_,.cls cd,sl⟩ => (match cd.mro,sl.toList with
  | .ref C'::bm,[_,_,_,_,some (.builtin n),_] => C' == C && (n == "ValueError.__new__" && (!cd.hasDel && (cd.hasDict && (PySem.W.tailIn K bmV bm && ownV bm))))
  | _,_ => false)
 | _ => false) && (PySem.W.findIn K (.ref C) "__init__" == some (some (.ref f)) && (PySem.W.typeIn K (.ref f) == some (.type "function") && (PySem.W.findIn K (.ref C) "__setattr__" == some (some (.builtin "object.__setattr__")) && PySem.W.mroIn K C (.type "object") == some true)))
structure XCl (K:PySem.W.Frag) (C f:Addr) (bm:List Value):Prop where
 obj:∃ N nm q bs sn sub ab col dd k0 k1 k2 k3 k5,K.lookup C = some (excClassObj nm q C N bs bm true sn sub ab col dd k0 k1 k2 k3 k5 "ValueError.__new__")
 tail:PySem.W.tailIn K bmV bm = true
 own:ownV bm = true
 ini:PySem.W.findIn K (.ref C) "__init__" = some (some (.ref f))
 fn:PySem.W.typeIn K (.ref f) = some (.type "function")
 sa:PySem.W.findIn K (.ref C) "__setattr__" = some (some (.builtin "object.__setattr__"))
 top:PySem.W.mroIn K C (.type "object") = some true
theorem xcl_of {K:PySem.W.Frag} {C f:Addr} (h:xclIn K C f = true):∃ bm,XCl K C f bm:=by
 unfold xclIn at h
 obtain ⟨h1,h2⟩:=Bool.and_eq_true_iff.mp h
 simp only [Bool.and_eq_true,beq_iff_eq] at h2
 obtain ⟨g1,g2,g3,g4⟩:=h2
 split at h1
 ·rename_i dd cd sl ho
  split at h1
  ·rename_i C' bm k0 k1 k2 k3 n k5 hm hs
   simp only [Bool.and_eq_true,beq_iff_eq,Bool.not_eq_true'] at h1
   obtain ⟨rfl,rfl,hdel,hdt,ht,hw⟩:=h1
   obtain ⟨nm,bs,mro,ns,qn,hd,sn,sub,ab,col,del⟩:=cd
   obtain ⟨l⟩:=sl
   dsimp only at hm hdel hdt hs
   subst hm hdel hdt hs
   exact ⟨bm,⟨ns,nm,qn,bs,sn,sub,ab,col,dd,k0,k1,k2,k3,k5,ho⟩,ht,hw,g1,g2,g3,g4⟩
  ·cases h1
 ·cases h1
noncomputable abbrev newX (C t:Addr) (dd:Option Addr):Obj:={ cls:=.ref C,dict:=dd,data:=.fields #[.ref t,.none,.none,.none,.bool false,.none] }
section
variable {prog:Program} {w:World} {A:Around} {E:Value→Shared→Prop} {s:Shared} {K:PySem.W.Frag} {a C f t:Addr} {bm:List Value} {v:Value} {n:Str}
theorem x_set {Q:Unit→Shared→Prop} (X:K.In s.heap) (c:XCl K C f bm) (he:s.heap.get? a = some (newX C t none)) (hn:PySem.W.findIn K (.ref C) n = some none)
  (h:∀ h' dx,s.heap.get? dx = none→dx≠a→h'.get? a = some (newX C t (some dx))→h'.Ns1 dx (fun y => if y = n then some v else none)→(∀ b o,b≠a→s.heap.get? b = some o→h'.get? b = some o)→∀ tk,Q () { s with heap:=h',toks:=tk }) :
  wpAny (model prog w) A (setAttr (.ref a) n v) Q E s:=by
 obtain ⟨N,nm,q,bs,sn,sub,ab,col,dd,k0,k1,k2,k3,k5,hC⟩:=c.obj
 have SF:=PySem.F.store_object
 have I:PySem.W.InstAt s.heap a (newX C t none) C none:=⟨he,rfl,rfl,trivial⟩
 have hc:PySem.W.clsIn K C = some { name:=nm,bases:=bs,mro:=.ref C::bm,ns:=N,qualname:=q,hasDict:=true,slotNames:=sn,subclasses:=sub,abstract:=ab,collection:=col,hasDel:=false }:=by unfold PySem.W.clsIn; rw [hC]
 refine PySem.W.set_plain X I c.sa ?_
 have X1:K.In ({ s with toks:=s.toks + 1 }:Shared).heap:=X
 have sb:PySem.W.Looks (model prog w) s.heap (isInstance (.ref a) (.type "object")) true:=I.type.andThen (PySem.W.looks_mroIn X c.top)
 refine codeAny_call_builtin SF.slot.plain SF.entry (@PySem.W.check_slot (model prog w) _ _ { s with toks:=s.toks + 1 } "object.__setattr__" "object" "__setattr__" (.ref a) [.str n s.toks,v] [] _ SF.kind SF.split sb (SF.args (.ref a) (.str n s.toks) v) ?_)
 have hm:PySem.W.Looks (model prog w) s.heap (mroOf (.ref C)) (.ref C::bm):=(PySem.W.looks_clsIn X hc).andThen .now
 rw [PySem.W.osa_eq,refuse_eq]
 refine wpAny_bind (wpAny_bind (PySem.W.Looks.here (s:={ s with toks:=s.toks + 1 }) I.type (wpAny_bind (PySem.W.Looks.here (s:={ s with toks:=s.toks + 1 }) hm ?_))))
 rw [ownV_pass _ (.ref C::bm) c.own]
 refine wpAny_pure (wpAny_bind (PySem.W.Looks.here (s:={ s with toks:=s.toks + 1 }) I.type (wpAny_bind (PySem.W.Looks.here (s:={ s with toks:=s.toks + 1 }) (PySem.W.looks_findIn X hn) (wpAny_bind (wpAny_pure ?_))))))
 show wpAny _ _ (storeInOwnDict (.ref a) (.ref C) (.str n s.toks) n v false) _ _ _
 have e1:(s.heap.push { cls:=.type "dict",data:=.dict #[] }).get? a = some (newX C t none):=Heap.get?_push_of_some _ he
 have na:a≠s.heap.objs.size:=Nat.ne_of_lt (Heap.lt_size he)
 refine wpAny_bind (wpAny_pure (wpAny_bind (wpAny_bind (wpAny_loadPart he (wpAny_bind (PySem.W.Looks.here (s:={ s with toks:=s.toks + 1 }) (PySem.W.looks_clsIn X hc) ?_))))))
 refine wpAny_bind (wpAny_alloc' (wpAny_bind (wpAny_update' e1 (wpAny_pure ?_))))
 have e2:((s.heap.push { cls:=.type "dict",data:=.dict #[] }).update a fun o => { cls:=o.cls,dict:=some s.heap.objs.size,data:=o.data,slots:=o.slots }).get? s.heap.objs.size = some { cls:=.type "dict",data:=.dict #[] } :=
  (Heap.get?_update_ne _ _ _ _ na.symm).trans (Heap.get?_push_at rfl rfl)
 have e3:((s.heap.push { cls:=.type "dict",data:=.dict #[] }).update a fun o => { cls:=o.cls,dict:=some s.heap.objs.size,data:=o.data,slots:=o.slots }).get? a = some (newX C t (some s.heap.objs.size)):=Heap.get?_update_self _ e1 rfl
 have n1:=Heap.Ns1.of_empty (h:=(s.heap.push { cls:=.type "dict",data:=.dict #[] }).update a fun o => { cls:=o.cls,dict:=some s.heap.objs.size,data:=o.data,slots:=o.slots }) (a:=s.heap.objs.size) ⟨_,#[],_,e2,rfl,fun e he => absurd he (by simp),fun _ => rfl⟩
 show wpAny _ _ (storeInDict s.heap.objs.size (.str n s.toks) n v) _ _ _
 refine wpAny_bind (wpAny_pure (wpAny_bind (wpAny_nsSet1 n1 fun h' n2 sm => ?_)))
 obtain ⟨oD,esD,epD,g1,g2,g3⟩:=n2.count (Within.cons n v Within.nil)
 refine wpAny_bind (wpAny_lookBehind g1 (by rw [g2]; exact pastItsLine_dict (Nat.le_trans g3 (by show 1≤_; rw [sizeLine_eq]; omega))) (wpAny_pure ?_))
 refine h h' s.heap.objs.size (Heap.get?_none_of_le (Nat.le_refl _)) na.symm ((sm.2 a na).trans e3) ?_ (fun b o nb q => (sm.2 b (Nat.ne_of_lt (Heap.lt_size q))).trans ((Heap.get?_update_ne _ _ _ _ nb).trans (Heap.get?_push_of_some _ q))) _
 exact n2
theorem x_init {Q:Value→Shared→Prop} {rest:List Value} (X:K.In s.heap) (c:XCl K C f bm) (he:s.heap.get? a = some (newX C t none))
  (h:∀ h' t',h'.get? a = some (newX C t' none)→(∀ b o,b≠a→s.heap.get? b = some o→h'.get? b = some o)→Q .none { s with heap:=h' }) (hrest:rest.length≤sizeLine:=by size_fits) :
  wpAny (model prog w) A (call (.builtin "ValueError.__init__") (.ref a::rest)) Q E s:=by
 obtain ⟨N,nm,q,bs,sn,sub,ab,col,dd,k0,k1,k2,k3,k5,hC⟩:=c.obj
 have F:=PySem.F.excBase_ValueError
 have T:=PySem.W.tail_of_in X c.tail
 obtain ⟨hh,g,d,tk,os⟩:=s
 refine wpAny_call (codeAny_call_builtin F.init.plain F.initEntry (wpAny_check_init_subT F T (X _ _ hC) he rfl ?_))
 have e1:=Heap.get?_push_of_some (h:=hh) { cls:=.type "tuple",data:=.seq rest.toArray } he
 wp_walk
 refine h _ hh.objs.size ?_ fun b o nb q => (Heap.get?_update_other _ _ (Ne.symm nb)).trans (Heap.get?_push_of_some _ q)
 exact Heap.get?_update_self _ e1 rfl
theorem x_get {b:Bool} {Q:Value→Shared→Prop} {ox od:Obj} {ws:Array Value} {dx:Addr} (X:K.In s.heap) (c:XCls K C) (hd:PySem.W.hasDictIn K C = true) (hn:PySem.W.findIn K (.ref C) n = some none) (hx:s.heap.get? a = some ox) (hc:ox.cls = .ref C) (hf:ox.data = .fields ws) (h1:ox.dict = some dx) (h2:s.heap.get? dx = some od)
  (hl:PySem.W.lookIn n od = some (some v)) (hv:PySem.W.handedIn v = true) (h:Q v { s with toks:=s.toks + 1 }):wpAny (model prog w) A (getAttr (.ref a) n b) Q E s:=by
 have I:PySem.W.InstAt s.heap a ox C (some od):=⟨hx,hc,by unfold PySem.W.notCls; rw [hf],by rw [h1]; exact h2⟩
 have ea:ExcAt a C s.heap:=⟨ox,ws,hx,hc,hf⟩
 have hfo:PySem.W.findObj K C (some od) n = some (.value v):=PySem.W.findObj_own hd hn rfl hl
 obtain ⟨hh,g,d,t,os⟩:=s
 have L0:=I.type (M:=model prog w)
 have L1:=PySem.W.looks_findIn (M:=model prog w) X c.ga
 have L2':=PySem.W.looks_findIn (M:=model prog w) X c.gh
 have L3':=PySem.W.looks_find (M:=model prog w) X I hfo
 have f3:=F.attr_ValueError.ga.bind (.ref a)
 have L4:=PySem.W.looks_mroIn (M:=model prog w) X c.mb
 unfold getAttr getAttrBy
 refine wpAny_bind (wpAny_mkText (wpAny_holding (wpAny_bind (L0.at (wpAny_bind (L1.at ?_))))))
 show wpAny _ _ (getAttrByItsOwn _ _ _ _ _ _) _ _ _
 unfold getAttrByItsOwn
 refine wpAny_bind ?_
 show wpAny _ _ (typeLookup _ _) _ _ _
 refine L2'.at ?_
 refine wpAny_bind (wpAny_attempt (wpAny_holding ?_))
 unfold callGetattribute
 rw [if_neg (by rw [show onTheHeap (Value.builtin "BaseException.__getattribute__") = false from rfl,Bool.and_false]; decide)]
 unfold boundAndCalled
 rw [f3]
 refine wpAny_bind (wpAny_pure ?_)
 refine wpAny_call (codeAny_call_builtin F.attr_ValueError.ga.plain F.entry_bexc_ga (xc_check (s:=⟨hh,g,d,t + 1,os⟩) X c ea ?_))
 refine wpAny_bind (wpAny_pure (wpAny_bind (wpAny_pure (wpAny_bind (L0.at (wpAny_bind (L3'.at ?_)))))))
 refine wpAny_pure ?_
 show wpAny _ _ (handedOut v) _ _ _
 rw [PySem.W.handedOut_of hv]; exact wpAny_pure h
theorem x_make {Q:Value→Shared→Prop} {rest:List Value} (X:K.In s.heap) (c:XCl K C f bm)
  (h:∀ h' e t,s.heap.get? e = none→h'.get? e = some (newX C t none)→(∀ b o,s.heap.get? b = some o→h'.get? b = some o) →
   wpAny (model prog w) (A.under (.builtin "type.__call__" ⟨.ref C::rest,[]⟩)) (call (.ref f) (.ref e::rest)) (fun r s' => r = .none∧Q (.ref e) s') E { s with heap:=h' }) (hrest:rest.length≤sizeLine:=by size_fits) :
  wpAny (model prog w) A (call (.ref C) rest) Q E s:=by
 obtain ⟨N,nm,q,bs,sn,sub,ab,col,dd,k0,k1,k2,k3,k5,hC⟩:=c.obj
 have FB:=PySem.F.excBase_ValueError
 have T:=PySem.W.tail_of_in X c.tail
 obtain ⟨hh,g,d,tk,os⟩:=s
 have hC0:=X _ _ hC
 have f1:=tc_lookup
 have f2:=tc_bind (.ref C)
 have hT:(⟨hh,g,d,tk,os⟩:Shared).TypeIs (.ref C) "type":=⟨_,hC0,rfl⟩
 refine wpAny_call (codeAny_of_tree ?_)
 show wpAny _ _ (callAny (.ref C) _) _ _ _
 repeat (any_goals (first | assumption | (with_reducible refine wpAny_loadPart_at hC0 ?_) | wp_step))
 refine ⟨rfl,codeAny_call_builtin_at (Code.quiet_builtin _ (by decide +kernel)) entry_typeCall (wpAny_check_type_call_sub hC0 ?_)⟩
 repeat (first | (with_reducible refine wpAny_loadPart_at hC0 ?_) | (with_reducible refine wpAny_madeBy_exc hC0 ?_) | wp_step)
 refine codeAny_call_builtin_code (Code.quiet_builtin _ FB.quiet) (wpAny_check_new_subT FB T hC0 (codeAny_exc_new_subT FB T hC0 ?_ hrest))
 show wpAny _ _ _ _ _ _
 have kp:∀ b o,hh.get? b = some o→((hh.push { cls:=.type "tuple",data:=.seq rest.toArray }).push (newX C hh.objs.size none)).get? b = some o:=fun b o z => Heap.get?_push_of_some _ (Heap.get?_push_of_some _ z)
 have hC1:=kp _ _ hC0
 have e1:((hh.push { cls:=.type "tuple",data:=.seq rest.toArray }).push (newX C hh.objs.size none)).get? (hh.objs.size + 1) = some (newX C hh.objs.size none):=by heap_get
 have X1:K.In ((hh.push { cls:=.type "tuple",data:=.seq rest.toArray }).push (newX C hh.objs.size none)):=X.keeps kp
 have hCC:(Value.ref C::bm).contains (.ref C) = true:=by simp
 have LI:=PySem.W.looks_findIn (M:=model prog w) X1 c.ini
 have LB:=PySem.W.bind_fn (M:=model prog w) X1 (.ref (hh.objs.size + 1)) c.fn
 unfold isInstance
 repeat (first | (with_reducible refine wpAny_loadPart_at e1 ?_) | (show wpAny _ _ (isSubtype (.ref C) (.ref C)) _ _ _; refine wpAny_isSubtype_exc hC1 ?_; rw [hCC]) | wp_step)
 show wpAny _ _ (typeLookup (.ref C) _) _ _ _
 refine LI.at ?_
 refine wpAny_holding (wpAny_bind (LB.at ?_))
 refine wpAny_bind (wpAny_mono (h _ (hh.objs.size + 1) hh.objs.size (Heap.get?_none_of_le (Nat.le_succ _)) e1 kp) (fun r s' z => ?_) fun _ _ z => z)
 obtain ⟨rfl,z⟩:=z
 wp_walk
 exact z
end
end L3
namespace L3
open PySem PySem.Spec PyProof.Rows L2
noncomputable def excN (a C:Addr):HO:=.ext fun h => ∃ t,h.get? a = some (newX C t none)
noncomputable def excJ (a C dx:Addr):HO:=.ext fun h => ∃ t,h.get? a = some (newX C t (some dx))
noncomputable def spX (f:Str) (C:Addr):Sp:=fun vs H Q _ => ∃ a v,vs = [.ref a,v]∧H a = some (excN a C)∧∀ dx od,H dx = none→dx≠a→Q .non (upd (upd H a (excJ a C dx)) dx (.frz od (.xd [(f,v)])))
theorem upd_id {H:Hp} {a:Addr} {o:HO} (h:H a = some o):upd H a o = H:=by
 funext b
 by_cases z:b = a
 ·rw [z,upd_same,h]
 ·rw [upd_ne z]
section
variable {X:Cx} {pins:List (Addr×Obj)} {σ:St} {H:Hp} {s:Shared} {h':Heap} {a C t dx:Addr} {od:Obj} {f:Str} {y:V} {u:Value}
theorem inv_newX {tk:Nat} (I:L2.Inv X pins σ H s) (n1:s.heap.get? a = none) (e1:h'.get? a = some (newX C t none)) (kp:∀ b o,s.heap.get? b = some o→h'.get? b = some o):L2.Inv X pins σ (upd H a (excN a C)) { s with heap:=h',toks:=tk }:=by
 have ua:=hok_none I.hok n1
 have ne:∀ b o,s.heap.get? b = some o→b≠a:=fun b o q z => by rw [z,n1] at q; cases q
 refine I.un ⟨fun b o q _ _ _ => kp b o q,fun b o q _ _ _ => ⟨o.slots,kp b o q⟩,fun b o q n _ => by rw [upd_ne (ne b o q)]; exact n,fun b o q _ => ⟨o,kp b o q⟩,fun b xs q => by rw [upd_ne (ne_of_none q ua)]; exact q,fun b o v q => by rw [upd_ne (ne_of_none q ua)]; exact q,fun b ps q => ⟨#[],by rw [upd_ne (ne_of_none q ua),q]; simp⟩⟩ fun b o q => ?_
 by_cases z:b = a
 ·subst z; rw [upd_same] at q; cases q
  exact ⟨⟨t,e1⟩,⟨_,e1⟩,fun h1 h2 ⟨t,p⟩ k => ⟨t,k _ p⟩⟩
 ·rw [upd_ne z] at q
  exact (I.hok b o q).stay (fun c w _ q => kp c w q) (fun c q => by rw [upd_ne (ne_of_none q ua)]; exact q) fun c xs q => by rw [upd_ne (ne_of_none q ua)]; exact q
theorem inv_setX {tk:Nat} (I:L2.Inv X pins σ H s) (hN:H a = some (excN a C)) (n1:s.heap.get? dx = none) (n2:dx≠a) (e1:h'.get? a = some (newX C t (some dx))) (e2:h'.get? dx = some od) (ns:h'.Ns1 dx (fun z => if z = f then some u else none)) (r:RelV y u) (kp:∀ b o,b≠a→s.heap.get? b = some o→h'.get? b = some o) :
  L2.Inv X pins σ (upd (upd H a (excJ a C dx)) dx (.frz od (.xd [(f,y)]))) { s with heap:=h',toks:=tk }:=by
 have ud:=hok_none I.hok n1
 have na:∀ b u,H b = some u→u≠excN a C→b≠a:=fun b u q n z => by rw [z,hN] at q; cases q; exact n rfl
 have nd:∀ b u,H b = some u→b≠dx:=fun b u q => ne_of_none q ud
 have na':∀ b,H b = none→b≠a:=fun b q z => by rw [z,hN] at q; cases q
 have nd':∀ b o,s.heap.get? b = some o→b≠dx:=fun b o q z => by rw [z,n1] at q; cases q
 have cy:∀ b u,H b = some u→u≠excN a C→upd (upd H a (excJ a C dx)) dx (.frz od (.xd [(f,y)])) b = some u:=fun b u q n => by rw [upd_ne (nd b u q),upd_ne (na b u q n)]; exact q
 refine I.un ⟨fun b o q n _ _ => kp b o (na' b n) q,fun b o q n _ _ => ⟨o.slots,kp b o (na' b n) q⟩,fun b o q n _ => by rw [upd_ne (nd' b o q),upd_ne (na' b n)]; exact n,fun b o q _ => ?_,fun b xs q => cy b _ q fun z => (nomatch z),fun b o v q => cy b _ q fun z => (nomatch z),fun b ps q => ⟨#[],by rw [cy b _ q fun z => (nomatch z)]; simp⟩⟩ fun b o q => ?_
 ·by_cases z:b = a
  ·rw [z]; exact ⟨_,e1⟩
  ·exact ⟨o,kp b o z q⟩
 ·by_cases z:b = dx
  ·subst z; rw [upd_same] at q; cases q
   refine ⟨e2,_,ns,fun g => ?_⟩
   by_cases z:g = f
   ·rw [if_pos z,z,List.lookup_cons_self]; exact r
   ·rw [if_neg z,List.lookup_cons,show (g == f) = false from beq_eq_false_iff_ne.mpr z]; exact trivial
  ·rw [upd_ne z] at q
   by_cases w:b = a
   ·subst w; rw [upd_same] at q; cases q
    exact ⟨⟨t,e1⟩,⟨_,e1⟩,fun h1 h2 ⟨t,p⟩ k => ⟨t,k _ p⟩⟩
   ·rw [upd_ne w] at q
    refine (I.hok b o q).stay (fun c v hc q' => kp c v ?_ q') (fun c q' => cy c _ q' fun z => (nomatch z)) fun c xs q' => cy c _ q' fun z => (nomatch z)
    rintro rfl
    rcases hc with rfl | hc
    ·exact w rfl
    ·rw [hN] at hc; cases hc
end
noncomputable def tXini (K:PySem.W.Frag) (t:L2.TA):L2.TE:=fun σ H Q => t σ H fun vs H1 => ∃ a C x f bm,vs = [.ref a,x]∧H1 a = some (excN a C)∧XCl K C f bm∧Q .non H1
structure XBs (K:PySem.W.Frag) (mg:Str→Option Value) (c:Str):Prop where
 ex:∃ C mc,mg c = some (.ref C)∧PySem.W.specialIn K (.ref C) "__getattribute__" = some (some (.builtin "type.__getattribute__"))∧PySem.W.readsIn K C mc = true∧PySem.W.findCls K (.ref C) mc "__init__" = some (.val (.builtin "ValueError.__init__")) ∧
  PySem.W.handedIn (.builtin "ValueError.__init__") = true
section
variable {X:Cx} {e o value:Expr} {es:List Expr} {t:L2.TA} {ta tv:L2.TE} {c f:Str} {pos pos' p apos:Pos}
theorem pe_xini {pl:Sem Bool} (B:XBs X.K X.mg c) (ha:PA X (e::es) t)
  (hg:Gl X c:=by rfl) (hdb:(c == ("__debug__" : Str)) = false:=by decide) (hst:starEach (e::es) X.env = (false,eval e X.env)::starEach es X.env:=by rfl) (hpl:(backTo pos (starEach es X.env)).any (·.1) = false:=by rfl)
  (ht:eval (.Call (.Attribute (.Name c p) "__init__" apos) (e::es) [] pos) X.env = (do
   let ov ← eval (.Name c p) X.env
   standAt apos.atName
   let (f,first) ← holding [ov] (getMethod ov "__init__" pl)
   callWith pos f first (backTo pos (starEach (e::es) X.env)) (backToKw pos (keywordEach [] X.env))):=by rfl) :
  PE X (.Call (.Attribute (.Name c p) "__init__" apos) (e::es) [] pos) (tXini X.K t):=by
 obtain ⟨C,mc,hC,hs,hrd,hf,hh⟩:=B.ex
 intro pins s σ H Q I h
 refine PySem.W.methodCall_KW (pl:=pl) (ld_glob I hg hC ?_ hdb) ht
 refine PySem.W.method_cls I.kIn hs (PySem.W.cls_value I.kIn hrd hf hh ?_)
 have I1:=I.tok (s.toks + 1)
 refine PyProof.Rows.callWith_builtin1 (thn (ha pos pins _ σ H _ I1 h) fun us s2 zz => ?_) hst hpl
 obtain ⟨vs,H1,I2,r,a,C,x,g,bm,rfl,hN,cl,q⟩:=zz
 cases r with
 | cons ra rr =>
  obtain rfl:=(show _ = Value.ref a from ra)
  obtain ⟨u,rfl,_⟩:=Vals.one rr
  obtain ⟨t0,e0⟩:=(I2.hok a _ hN).1
  refine x_init I2.kIn cl e0 (fun h' t' e1 kp => ⟨.non,H1,?_,rfl,q⟩) (by show 1≤_; rw [sizeLine_eq]; omega)
  have:=I2.write (x:=a) (e:=a) (o:=excN a C) (t':=s2.toks) (h':=h') (by rw [hN]; exact trivial) (.inl rfl) kp ⟨_,e1⟩ ⟨⟨t',e1⟩,⟨_,e1⟩,fun h1 h2 ⟨t,p⟩ k => ⟨t,k _ p⟩⟩
  rwa [upd_id hN] at this
noncomputable def sXfld (K:PySem.W.Frag) (ta tv:L2.TE) (f:Str):L2.TS:=fun D σ H => tv σ H fun y H1 => ta σ H1 fun x H2 => ∃ a C g bm,x = .ref a∧H2 a = some (excN a C)∧XCl K C g bm∧PySem.W.findIn K (.ref C) f = some none ∧
 ∀ dx od,H2 dx = none→dx≠a→D.nx σ (upd (upd H2 a (excJ a C dx)) dx (.frz od (.xd [(f,y)])))
theorem ps_xfld (ha:PE X o ta) (hv:PE X value tv) (hs:swapsWith value (some (.Attribute o f pos')) pos.line X.env = pure false:=by rfl):PS X (.Assign [.Attribute o f pos'] value pos) (sXfld X.K ta tv f):=by
 intro pins s σ H D I h
 refine plainObj_wpAny_Assign_Attribute (thn (hv pins s σ H _ I h) fun u s1 ⟨y,H1,I1,ry,q⟩ => thn (ha pins s1 σ H1 _ I1 q) fun ov s2 zz => ?_) hs
 obtain ⟨x,H2,I2,rx,a,C,g,bm,rfl,hN,cl,hn,q2⟩:=zz
 obtain rfl:ov = Value.ref a:=rx
 obtain ⟨t0,e0⟩:=(I2.hok a _ hN).1
 refine x_set I2.kIn cl e0 hn fun h' dx n1 n2 e1 ns kp tk => ?_
 obtain ⟨od,_,_,e2,_⟩:=id ns
 exact ⟨σ,_,inv_setX I2 hN n1 n2 e1 e2 ns ry kp,q2 dx od (hok_none I2.hok n1) n2⟩
end
theorem fn_xini {P:Program} {w:World} {K:PySem.W.Frag} {mg:Str→Option Value} {base:Heap} {x qual f:Str} {st:Stmt} {g C:Addr} {fd:FuncData} {N ps:List Str} {k:Nat} {bm:List Value} {z:Str} (F:Fun K x qual st g fd) (S:FnScope N ps (defScope st)) (hps:ps.length = 2) (cl:XCl K C g bm) (hn:PySem.W.findIn K (.ref C) f = some none)
  (hbody:∀ (cdv:Value) (A:Around) (outer:List Env) (s:Shared) (H:Hp) (E:XK),PSs (cxOf CX0 P w K mg base N qual (defScope st) g cdv A outer s H E).nox (defBody st) (tSeq (tDrop (tXini K (tCons (tVar 0) (tCons (tC (.str z)) tNil)))) (sXfld K (tVar 0) (tVar 1) f))):FnOk P w K mg base CX0 (k + 1) g fd ps (spX f C):=by
 refine F.ok S (fun vs H Q E h => ?_) fun cdv A outer s H vs Q E hr h => ?_
 ·obtain ⟨a,v,rfl,_⟩:=h; exact hps.symm
 ·obtain ⟨a,v,rfl,hN,q⟩:=h
  refine ⟨_,hbody cdv A outer s H E,?_⟩
  refine ⟨_,rfl,a,C,.str z,g,bm,rfl,hN,cl,_,rfl,_,rfl,a,C,g,bm,rfl,hN,cl,hn,fun dx od n1 n2 => q dx od n1 n2⟩
section
variable {X:Cx} {pins:List (Addr×Obj)} {σ:St} {H:Hp} {s:Shared} {a C g dx:Addr} {od:Obj} {f:Str} {v:V} {u:Value} {fd:FuncData} {ps:List Str} {k:Nat} {bm:List Value} {E:Value→Shared→Prop} {Q:Value→Shared→Prop}
theorem inv_drop {φ:Heap→Prop} (I:L2.Inv X pins σ (upd H a (.ext φ)) s) (n:H a = none):L2.Inv X pins σ H s:=by
 have ne:∀ b u,upd H a (.ext φ) b = some u→u≠.ext φ→H b = some u:=fun b u q w => by
  by_cases z:b = a
  ·subst z; rw [upd_same] at q; cases q; exact absurd rfl w
  ·rwa [upd_ne z] at q
 have nn:∀ b,upd H a (.ext φ) b = none→H b = none:=fun b q => by
  by_cases z:b = a
  ·subst z; exact n
  ·rwa [upd_ne z] at q
 have up:∀ b u,H b = some u→upd H a (.ext φ) b = some u:=fun b u q => by rw [upd_ne (ne_of_none q n)]; exact q
 refine ⟨I.ok,I.os,I.bare,⟨I.base.keep,I.base.slot,fun b o e h0 hx => nn b (I.base.free b o e h0 hx),I.base.there,fun b xs q => ne b _ (I.base.tups b xs q) fun z => (nomatch z),fun b o u q => ne b _ (I.base.frzs b o u q) fun z => (nomatch z),fun b ps q => ?_⟩,I.loc,I.cell,nn _ I.free,fun x c e => nn _ (I.freeC x c e),fun p hp => ?_,fun b o q => ?_,I.len⟩
 ·obtain ⟨more,z⟩:=I.base.tbls b ps q
  exact ⟨more,ne b _ z fun z => (nomatch z)⟩
 ·obtain ⟨h1,h2,h3⟩:=I.pin p hp
  exact ⟨h1,nn _ h2,h3⟩
 ·exact (I.hok b o (up b o q)).stay (fun c w _ z => z) (fun c z => ne c _ z fun z => (nomatch z)) fun c xs z => ne c _ z fun z => (nomatch z)
theorem run_xmake (cl:XCl X.K C g bm) (F:FnOk X.prog X.w X.K X.mg X.base CX0 k g fd ps (spX f C)) (hr:Room (k + 1) X.A) (hb:Binds X.K fd ps []) (I:L2.Inv X pins σ H s) (r:RelV v u)
  (h:∀ a dx od t s',s.heap.get? a = none→H dx = none→L2.Inv X pins σ (upd H dx (.frz od (.xd [(f,v)]))) s'→s'.heap.get? a = some (newX C t (some dx))→dx≠a→Q (.ref a) s'):wpAny (model X.prog X.w) X.A (call (.ref C) [u]) Q E s:=by
 refine x_make I.kIn cl (fun h' e t n1 e1 kp => ?_) (by show 1≤_; rw [sizeLine_eq]; omega)
 have I2:L2.Inv X pins σ (upd H e (excN e C)) { s with heap:=h' }:=inv_newX (tk:=s.toks) I n1 e1 kp
 have ue:=hok_none I.hok n1
 have r2:Vals [V.ref e,v] [Value.ref e,u]:=.cons rfl (.cons r .nil)
 have hq:spX f C [V.ref e,v] (upd H e (excN e C)) (fun w H2 => w = .non∧∃ dx od,H dx = none∧dx≠e∧H2 = upd (upd (upd H e (excN e C)) e (excJ e C dx)) dx (.frz od (.xd [(f,v)]))) E0 :=
  ⟨e,v,rfl,upd_same,fun dx od n nn => ⟨rfl,dx,od,by rw [← n]; exact (upd_ne nn).symm,nn,rfl⟩⟩
 have hl:([Value.ref e,u]++([]:List Value)).length = ps.length:=by
  have:=F.len _ _ _ _ hq
  exact this
 have hb':=hb { s with heap:=h' } [Value.ref e,u] I2.kIn hl
 rw [List.append_nil] at hb'
 refine wpAny_call (codeAny_mono (F.run _ X.stack _ _ ⟨[Value.ref e,u],[]⟩ [Value.ref e,u] _ _ E0 (hr.make C [u] []) (I2.env0.make C [u] []) hb' r2 hq) fun r s' hq' => ?_)
 cases r with
 | error e => exact hq'.elim
 | ok fl =>
  cases fl with
  | ret w =>
   obtain ⟨w',H',I3,rv,ev,dx,od,n1',n2,rfl⟩:=I2.after hq'
   subst ev
   have e3:upd (upd (upd H e (excN e C)) e (excJ e C dx)) dx (.frz od (.xd [(f,v)])) = upd (upd H dx (.frz od (.xd [(f,v)]))) e (excJ e C dx):=by
    rw [upd_upd]
    funext b
    by_cases z:b = dx
    ·rw [z,upd_same,upd_ne n2,upd_same]
    ·rw [upd_ne z]
     by_cases y:b = e
     ·rw [y,upd_same,upd_same]
     ·rw [upd_ne y,upd_ne y,upd_ne z]
   rw [e3] at I3
   obtain ⟨t3,q3⟩:=(I3.hok e _ upd_same).1
   exact ⟨rv,h e dx od t3 s' n1 n1' (inv_drop I3 (by rw [upd_ne (Ne.symm n2)]; exact ue)) q3 n2⟩
  | next => exact hq'.elim
  | brk => exact hq'.elim
  | cont => exact hq'.elim
end
theorem x_raise {M:Model} {A:Around} {E:Value→Shared→Prop} {s:Shared} {env:Env} {K:PySem.W.Frag} {e:Expr} {pos:Pos} {Q:Flow→Shared→Prop} (hh:A.handled = none)
  (h:wpAny M A (eval e env) (fun v s1 => ∃ a C t dd g bm,v = .ref a∧K.In s1.heap∧XCl K C g bm∧s1.heap.get? a = some (newX C t dd)∧E (.ref a) s1) E s):wpAny M A (exec (.Raise (some e) none pos) env) Q E s:=by
 rw [arm_exec_Raise]
 refine wpAny_bind (wpAny_standAt ?_)
 show wpAny M A (raiseStmt env (some (do let v ← eval e env; standAt pos; pure v)) none) Q E s
 unfold raiseStmt
 refine wpAny_bind (wpAny_bind (wpAny_mono h (fun v s1 zz => wpAny_bind (wpAny_standAt (wpAny_pure ?_))) fun _ _ x => x))
 obtain ⟨a,C,t,dd,g,bm,rfl,X,cl,he,hE⟩:=zz
 obtain ⟨N,nm,q,bs,sn,sub,ab,col,dd',k0,k1,k2,k3,k5,hC⟩:=cl.obj
 have hC0:=X _ _ hC
 have hcB:(Value.ref C::bm).contains (.type "BaseException") = true:=by rw [List.contains_cons,(PySem.W.tail_of_in X cl.tail).hasType (X := "BaseException") (b:=true) rfl,Bool.or_true]
 obtain ⟨hp,gs,d,tk,os⟩:=s1
 repeat (first | (with_reducible refine wpAny_loadPart_at he ?_) | (with_reducible refine wpAny_loadPart_at hC0 ?_) | (with_reducible refine wpAny_isSubtype_exc hC0 ?_; rw [hcB]) | wp_step)
 exact wpAny_raiseNew_none hh hE
structure XInit (P:Program) (w:World) (K:PySem.W.Frag) (mg:Str→Option Value) (base:Heap) (k:Nat) (c f:Str):Prop where
 ex:∃ C g fd ps bm,PySem.W.nsIn K mainGlobals c = some (some (.ref C))∧PySem.W.keepIn K (.ref C) = true∧XCl K C g bm∧FnOk P w K mg base CX0 k g fd ps (spX f C)∧Binds K fd ps []
section
variable {X:Cx} {c f:Str} {e:Expr} {te ta:TE3} {np cpos pos:Pos} {E:XK} {E3:EK3} {k:Nat}
theorem s3_raiseF (hr:Rises X E) (kx:KX X.K X.H₀ E3 E) (F:XInit X.prog X.w X.K X.mg X.base k c f) (hk:Room (k + 1) X.A) (hc:X.calm = true) (he:PE3 X e te) (hg:Gl X c:=by rfl) (hdb:(c == ("__debug__" : Str)) = false:=by decide)
  (hs:starEach [e] X.env = (false,eval e X.env)::starEach [] X.env:=by rfl) (hpl:(backTo cpos (starEach [] X.env)).any (·.1) = false:=by rfl):PS3 X (.Raise (some (.Call (.Name c np) [e] [] cpos)) none pos) (rf3 E3 c f te):=by
 obtain ⟨C,g,fd,ps,bm,hC,hkp,cl,F,hb⟩:=F.ex
 intro pins s σ H D I ⟨σ3,H3,D3,sr,hr3,q,kk⟩
 have hm:=PySem.W.mg_of I.mod.kin I.mod.glob hC
 have ha:PA3 X [e] (cons3 te nil3):=a3_cons he a3_nil hs
 refine x_raise (K:=X.K) (I.ok.hd hc) (wpAny_Call_Name_kw (ld_glob I hg hm ?_ hdb))
 have h1:=ha cpos pins s σ H (fun vs H1 => ∃ d v H3' H2,vs = [v]∧TK H H1∧HR X.K H3' H1∧Rep X.K H1 d v∧Sub3 H2 H3'∧E3 ⟨c,[(f,d)]⟩ H2) I ⟨σ3,H3,fun ds H3' => (match ds with | [d] => ∃ H2,Sub3 H2 H3'∧E3 ⟨c,[(f,d)]⟩ H2 | _ => False),sr,hr3,q,fun ds vs H3a Ha tka hra rs qa => by
  cases rs with
  | nil => exact qa.elim
  | cons r1 r2 =>
   cases r2 with
   | cons _ _ => exact qa.elim
   | nil =>
    obtain ⟨H2,sb,q2⟩:=qa
    exact ⟨_,_,H3a,H2,rfl,tka,hra,r1,sb,q2⟩⟩
 refine PySem.W.callWith_K (first:=[]) (h₀:=X.base) I.ok.mod.kin hkp (thn h1 fun us s2 zz => ?_) hs hpl
 obtain ⟨vs,H1,I1,r,d,v,H3',H2,rfl,tk,hra,rd,sb,q2⟩:=zz
 refine ⟨I1.kIn,?_⟩
 obtain ⟨u,rfl,ru⟩:=Vals.one r
 refine run_xmake cl F hk hb I1 ru fun a dx od t s' n1 ndx I2 e2 n2 => ?_
 have t2:TK H1 (upd H1 dx (.frz od (.xd [(f,v)]))):=TK.fresh ndx
 refine ⟨a,C,t,some dx,g,bm,rfl,I2.kIn,cl,e2,?_⟩
 refine hr pins σ _ H1 s' s2 a C t (some dx) _ I1 n1 I2 (by rw [upd_ne (Ne.symm n2)]; exact hok_none I1.hok n1) e2 ?_
 refine kx ⟨c,[(f,d)]⟩ C (some dx) H2 _ ((TK.trans ⟨I.base.tups,I.base.frzs⟩ tk).trans t2) (HR.sub (fun b o z => ?_) sb) hC (.inr ⟨dx,od,[(f,v)],rfl,upd_same,.cons ⟨rfl,rd.mono t2⟩ .nil⟩) q2
 exact (hra b o z).keep t2 (upd_ne (ne3 z (hra.fresh ndx)))
end
noncomputable def XfOk (K:PySem.W.Frag) (cs:List Str) (f:Str):Prop:=∀ c∈cs,∃ C,PySem.W.nsIn K mainGlobals c = some (some (.ref C))∧XCls K C∧PySem.W.hasDictIn K C = true∧PySem.W.findIn K (.ref C) f = some none
theorem XfOk.nil {K:PySem.W.Frag} {f:Str}:XfOk K [] f:=fun _ h => absurd h (by simp)
theorem XfOk.cons {K:PySem.W.Frag} {f c:Str} {cs:List Str} {C:Addr} (h1:PySem.W.nsIn K mainGlobals c = some (some (.ref C))) (h2:XCls K C) (h3:PySem.W.hasDictIn K C = true) (h4:PySem.W.findIn K (.ref C) f = some none) (r:XfOk K cs f):XfOk K (c::cs) f:=fun d h => by
 rcases List.mem_cons.mp h with rfl | h
 ·exact ⟨C,h1,h2,h3,h4⟩
 ·exact r d h
section
variable {X:Cx} {f:Str} {e:Expr} {ta:TE3} {pos:Pos} {cs:List Str}
theorem p3_xget (hk:XfOk X.K cs f) (he:PE3 X e ta) (hb:attributeBase e f X.env (eval e X.env) = eval e X.env:=by rfl):PE3 X (.Attribute e f pos) (xg3 cs f ta):=by
 intro pins s σ H Q I ⟨σ3,H3,Q3,sr,hr3,q,kk⟩
 refine attr_of hb (thn (he pins s σ H (fun x H1 => ∃ a C dd dx od xs v,x = .ref a∧XCls X.K C∧PySem.W.hasDictIn X.K C = true∧PySem.W.findIn X.K (.ref C) f = some none∧H1 a = some (excO a C dd)∧dd = some dx∧H1 dx = some (.frz od (.xd xs))∧xs.lookup f = some v∧Q v H1) I ⟨σ3,H3,_,sr,hr3,q,fun d v H3a Ha tka hra rx qa => ?_⟩) fun u s1 ⟨x,H1,I1,r1,q1⟩ => ?_)
 ·cases rx with
  | ref a =>
   (delta xgk at qa; dsimp only at qa)
   split at qa
   ·rename_i c fs hc
    split at qa
    ·rename_i y hl
     obtain ⟨hcs,qa⟩:=qa
     obtain ⟨C,h1,h2,h3,h4⟩:=hk c hcs
     obtain ⟨C',dd,h5,h6,xf⟩:=hra a _ hc
     have eC:C' = C:=by rw [h1] at h5; cases h5; rfl
     subst eC
     rcases xf with rfl | ⟨dx,od,xs,e1,e2,pr⟩
     ·cases hl
     ·obtain ⟨v,l2,rv⟩:=FsR.look pr hl
      exact ⟨a,C',dd,dx,od,xs,v,rfl,h2,h3,h4,h6,e1,e2,l2,kk _ _ _ _ tka hra rv qa⟩
    ·exact qa.elim
   ·exact qa.elim
  | _ => exact qa.elim
 ·obtain ⟨a,C,dd,dx,od,xs,v,rfl,h2,h3,h4,h6,rfl,e2,l2,hq⟩:=q1
  obtain rfl:u = Value.ref a:=r1
  obtain ⟨o,ws,g1,g2,g3,g4⟩:=(I1.hok a _ h6).1
  obtain ⟨k1,mA,k2,k3⟩:=I1.hok dx _ e2
  obtain ⟨od',k4,k5⟩:=lookIn_ns k2
  rw [k1] at k4; cases k4
  obtain ⟨u,hu,ru⟩:=RelO.some_of (v:=v) (o:=mA f) (by rw [← l2]; exact k3 f)
  exact x_get I1.kIn h2 h3 h4 g1 g2 g3 g4 k1 (by rw [k5,hu]) (handed_of ru) ⟨v,H1,I1.tok _,ru,hq⟩
end
inductive XkIn (K:PySem.W.Frag) (c f qual:Str) (st:Stmt) (ps:List Str):Prop
 | mk {C g:Addr} {fd:FuncData} (hC:PySem.W.nsIn K mainGlobals c = some (some (.ref C))) (kp:PySem.W.keepIn K (.ref C) = true) (cl:xclIn K C g = true) (hn:PySem.W.findIn K (.ref C) f = some none) (F:Fun K "__init__" qual st g fd) (hb:Binds K fd ps [])
theorem xinit3i {P:Program} {w:World} {K:PySem.W.Frag} {mg:Str→Option Value} {base:Heap} {qual c f z:Str} {st:Stmt} {N ps:List Str} {k:Nat} (q:XkIn K c f qual st ps) (S:FnScope N ps (defScope st)) (hps:ps.length = 2)
  (hbody:∀ (g:Addr) (cdv:Value) (A:Around) (outer:List Env) (s:Shared) (H:Hp) (E:XK),PSs (cxOf CX0 P w K mg base N qual (defScope st) g cdv A outer s H E).nox (defBody st) (tSeq (tDrop (tXini K (tCons (tVar 0) (tCons (tC (.str z)) tNil)))) (sXfld K (tVar 0) (tVar 1) f))):XInit P w K mg base (k + 1) c f:=by
 cases q with
 | mk hC kp cl hn F hb =>
  obtain ⟨bm,cl⟩:=xcl_of cl
  exact ⟨_,_,_,ps,bm,hC,kp,cl,fn_xini F S hps cl hn (hbody _),hb⟩
theorem xbs_in {K:PySem.W.Frag} {mg:Str→Option Value} {h:Heap} {c:Str} {C:Addr} {mc:Value} (X:K.In h) (G:h.Ns mainGlobals mg) (hC:PySem.W.nsIn K mainGlobals c = some (some (.ref C))) (h2:PySem.W.specialIn K (.ref C) "__getattribute__" = some (some (.builtin "type.__getattribute__"))) (h3:PySem.W.readsIn K C mc = true)
  (h4:PySem.W.findCls K (.ref C) mc "__init__" = some (.val (.builtin "ValueError.__init__"))):XBs K mg c:=⟨_,_,PySem.W.mg_of X G hC,h2,h3,h4,rfl⟩
noncomputable def r3popI:D→List D→Hp3→VK3→Prop:=fun x xs H Q => ∃ a ds y,∃ k:Nat,(x = .ref a∧xs = [.int (k:Int)]∧H a = some (.lst ds)∧ds[k]? = some y∧k < 1000)∧Q y (upd3 H a (.lst (ds.eraseIdx k)))
theorem g_popI {a:Addr} {ds:List D} {y:D} {i:Int} {H:Hp3} {Q:VK3} (ha:H a = some (.lst ds)) (h0:0≤i) (h1:i < 1000) (hy:ds[i.toNat]? = some y) (q:Q y (upd3 H a (.lst (ds.eraseIdx i.toNat)))):r3popI (.ref a) [.int i] H Q :=
 ⟨a,ds,y,i.toNat,⟨rfl,by rw [Int.toNat_of_nonneg h0],ha,hy,by omega⟩,q⟩
theorem mt3_popI {X:Cx}:MtR X "list.pop" (liftM X.K r3popI):=by
 intro pins s σ H x xs v us Q I rx rs h
 obtain ⟨d,es,H3,Q3,hr,rd,rds,⟨a,ds,y,k,⟨rfl,rfl,ha,hy,hk⟩,t⟩,kk⟩:=h
 cases rds with
 | cons r1 r2 =>
  cases r2
  cases r1
  cases rd
  obtain ⟨vs,ga,ra⟩:=hr a _ ha
  obtain ⟨w,ew,rw'⟩:=ra.get hy
  have kl:k < vs.length:=(List.getElem?_eq_some_iff.mp ew).1
  have h63:(2 ^ 63:Int) = 9223372036854775808:=rfl
  have h1:seqIndex? (k:Int) vs.length = some k:=by
   unfold seqIndex?
   rw [if_neg (by omega:¬ (k:Int) < 0)]
   dsimp only
   rw [if_pos (by rw [Bool.and_eq_true]; exact ⟨decide_eq_true (by omega),decide_eq_true (by omega)⟩),Int.toNat_natCast]
  exact mt_popAt pins s σ H _ _ v us Q I rx rs ⟨a,vs,(k:Int),k,w,rfl,rfl,ga,by rw [h63]; omega,by rw [h63]; omega,h1,ew,kk _ _ _ _ (TK.lst ga) (hr.setL (TK.lst ga) ((ra.erase k).mono (TK.lst ga))) (rw'.mono (TK.lst ga)) t⟩
noncomputable def lsk (v x y:D) (σ:St3) (H:Hp3) (K:St3→Hp3→Prop):Prop:=∃ a ds i,(x = .ref a∧y = .int i∧H a = some (.lst ds)∧0≤i∧i < ds.length)∧K σ (upd3 H a (.lst (ds.set i.toNat v)))
noncomputable def gl3 (td ty:TE3):TG3:=fun v σ H K => td σ H fun x H1 => ty σ H1 fun y H2 => lsk v x y σ H2 K
theorem g_gl3 {td ty:TE3} {v:D} {σ:St3} {H:Hp3} {K:St3→Hp3→Prop} (h:td σ H fun x H1 => ty σ H1 fun y H2 => lsk v x y σ H2 K):gl3 td ty v σ H K:=h
theorem g_lsk {v:D} {a:Addr} {ds:List D} {i:Int} {σ:St3} {H:Hp3} {K:St3→Hp3→Prop} (ha:H a = some (.lst ds)) (h0:0≤i) (h1:i < ds.length) (q:K σ (upd3 H a (.lst (ds.set i.toNat v)))):lsk v (.ref a) (.int i) σ H K:=⟨a,ds,i,⟨rfl,rfl,ha,h0,h1⟩,q⟩
noncomputable def r3ninZ:R3:=fun x y H Q => ∃ c v,(x = .str ⟨#[c]⟩∧y = .str v)∧Q (.bl (!decide (c∈v.cps.toList))) H
theorem g_ninZ {c:Nat} {v:Str} {H:Hp3} {Q:VK3} (q:Q (.bl (!decide (c∈v.cps.toList))) H):r3ninZ (.str ⟨#[c]⟩) (.str v) H Q:=⟨c,v,⟨rfl,rfl⟩,q⟩
theorem RepL.set {K:PySem.W.Frag} {H:Hp} {d:D} {v:V}:∀ {ds:List D} {vs:List V} (n:Nat),RepL K H ds vs→Rep K H d v→RepL K H (ds.set n d) (vs.set n v)
 | _,_,_,.nil,_ => .nil
 | _,_,0,.cons _ rs,r => .cons r rs
 | _,_,n + 1,.cons q rs,r => .cons q (RepL.set n rs r)
section
variable {X:Cx}
theorem g3_lsub {o i:Expr} {td ty:TE3} {pos:Pos} (ho:PE3 X o td) (hi:PE3 X i ty) (ha:∀ v,assign (.Subscript o i pos) X.env v = (do
   let ov ← holding [v] (eval o X.env)
   let iv ← holding [v,ov] (eval i X.env)
   standAt pos
   holding [v,ov,iv] (setItem ov iv v)
   release [v,ov,iv] []):=by intro _; rfl):PG3 X (.Subscript o i pos) (gl3 td ty) :=
 pg_imp (pg_sub ho hi set_list ha) fun v σ H Q ⟨d,σ3,H3,Q3,rd,sr,hr,t,k⟩ => ⟨σ3,H3,_,sr,hr,t,fun x u H3a Ha tka hra rx qa => ⟨σ3,H3a,_,sr.mono tka,hra,qa,fun y w H3b Hb tkb hrb ry qb => by
  obtain ⟨a,ds,n,⟨rfl,rfl,ha,h0,h1⟩,q⟩:=qb
  cases rx
  cases ry
  obtain ⟨vs,ga,ra⟩:=hrb a _ ha
  have hl:=ra.length
  refine ⟨a,vs,n,n.toNat,rfl,rfl,ga,?_,k _ _ _ _ ((tka.trans tkb).trans (TK.lst ga)) (sr.mono ((tka.trans tkb).trans (TK.lst ga))) (hrb.setL (TK.lst ga) ((ra.set _ ((rd.mono tka).mono tkb)).mono (TK.lst ga))) q⟩
  unfold ixN
  rw [if_pos h0,if_pos (by omega)]⟩⟩
theorem op3_ninZ:OpR X (compareOp .NotIn) (lift2 X.K r3ninZ):=by
 intro pins s σ H x y v u Q I rx ry h
 obtain ⟨dx,dy,H3,Q3,hr,rdx,rdy,⟨c,z,⟨rfl,rfl⟩,t⟩,k⟩:=h
 cases rdx
 cases rdy
 obtain ⟨t1,rfl⟩:=rx
 obtain ⟨t2,rfl⟩:=ry
 refine PySem.SeqRoads2.notIn_meets (T := "str") rfl F.slot_str_contains F.entry_str_contains (F.args_str_contains_2 _ _) (gives_str_contains _ _ _ _).meets ⟨_,rfl,?_⟩
 rw [StrLaws.found_one]
 exact ⟨.bl _,H,I,rfl,k _ _ _ _ TK.refl hr (.bl _) t⟩
end
theorem p3_callX {X:Cx} {k:Nat} {x:Str} {ps:List Str} {sp:SpE} {p pos:Pos} {e:Expr} {es:List Expr} {t:TA3} {E:XK} {E3:EK3} (F:FnE X.prog X.w X.K X.mg X.base k x ps sp) (hr:Room k X.A) (hp:Passes (CXE X.prog X.w) X E) (kx:KX X.K X.H₀ E3 E) (ha:PA3 X (e::es) t)
  (hg:Gl X x:=by rfl) (hdb:(x == ("__debug__" : Str)) = false:=by decide) (he:starEach (e::es) X.env = (false,eval e X.env)::starEach es X.env:=by rfl) (hpl:(backTo pos (starEach es X.env)).any (·.1) = false:=by rfl) :
  PE3 X (.Call (.Name x p) (e::es) [] pos) (cbE sp t E3):=by
 obtain ⟨f,fd,F,hm,hk,hb⟩:=F.ex
 intro pins s σ H Q I zz
 refine zz.ex fun σ3 H3 Q3 sr hr3 q kk => ?_
 have kx':=kx.mono (H1:=H) ⟨I.base.tups,I.base.frzs⟩
 refine wpAny_Call_Name_kw (ld_glob I hg hm ?_ hdb)
 refine PySem.W.callWith_K (h₀:=X.base) I.ok.mod.kin hk (wpAny_mono (ha pos pins s σ H (fun vs H1 => liftFE X.K sp vs H1 Q E) I ⟨σ3,H3,_,sr,hr3,q,fun ds vs H3a Ha tka hra rs qa => ⟨ds,H3a,Q3,E3,hra,rs,qa,kk.mono tka,kx'.mono tka⟩⟩) (fun us s1 ⟨vs,H1,I1,r,q1⟩ => ⟨I1.kIn,?_⟩) fun _ _ z => z) he hpl
 exact wpAny_mono (run_fnE F hr hb I1 r q1) (fun _ _ z => z) fun y s' ⟨H2,s2,I2,z⟩ => hp pins σ H2 s2 y s' I2 z
end L3
namespace Law
open PySem PySem.Spec PyProof.Rows L2 L3
set_option maxHeartbeats 8000000
noncomputable abbrev N_rank_of:List Str:=["cell"]
noncomputable abbrev P_rank_of:List Str:=["cell"]
noncomputable abbrev N_in_order:List Str:=["some"]
noncomputable abbrev P_in_order:List Str:=["some"]
noncomputable abbrev N_around:List Str:=["cell", "x", "y"]
noncomputable abbrev P_around:List Str:=["cell"]
noncomputable abbrev N_added:List Str:=["one", "other"]
noncomputable abbrev P_added:List Str:=["one", "other"]
noncomputable abbrev N_unlike_in_order:List Str:=["some", "unlike", "cell"]
noncomputable abbrev P_unlike_in_order:List Str:=["some"]
noncomputable abbrev N_reached_within:List Str:=["some", "start", "free", "reached", "waiting", "cell", "near"]
noncomputable abbrev P_reached_within:List Str:=["some", "start"]
noncomputable abbrev N_first_cut_off:List Str:=["some", "reached", "cell"]
noncomputable abbrev P_first_cut_off:List Str:=["some"]
noncomputable abbrev N_empty_in_box:List Str:=["cells", "xs", "ys", "empty", "y", "x"]
noncomputable abbrev P_empty_in_box:List Str:=["cells"]
noncomputable abbrev N_piece_of:List Str:=["some", "cells", "apart", "shut_in"]
noncomputable abbrev P_piece_of:List Str:=["some"]
noncomputable abbrev N_moved:List Str:=["piece", "shift"]
noncomputable abbrev P_moved:List Str:=["piece", "shift"]
noncomputable abbrev N_settled:List Str:=["piece", "least_x", "least_y"]
noncomputable abbrev P_settled:List Str:=["piece"]
noncomputable abbrev N_rows_of:List Str:=["text", "rows", "row"]
noncomputable abbrev P_rows_of:List Str:=["text"]
noncomputable abbrev N_cells_in:List Str:=["rows", "cells", "y", "row", "x", "sign"]
noncomputable abbrev P_cells_in:List Str:=["rows"]
noncomputable abbrev N_read_drawing:List Str:=["text"]
noncomputable abbrev P_read_drawing:List Str:=["text"]
noncomputable abbrev N_l_cell_at:List Str:=["_law_script", "_law_k"]
noncomputable abbrev P_l_cell_at:List Str:=["_law_script", "_law_k"]
noncomputable abbrev N_l_mix:List Str:=["_law_script", "_law_k"]
noncomputable abbrev P_l_mix:List Str:=["_law_script", "_law_k"]
noncomputable abbrev N_l_whole:List Str:=["_law_found"]
noncomputable abbrev P_l_whole:List Str:=["_law_found"]
noncomputable abbrev N_l_is_pair:List Str:=["_law_found"]
noncomputable abbrev P_l_is_pair:List Str:=["_law_found"]
noncomputable abbrev N_l_is_piece:List Str:=["_law_found", "_law_due_here", "_law_k"]
noncomputable abbrev P_l_is_piece:List Str:=["_law_found", "_law_due_here"]
noncomputable abbrev N_l_sorted:List Str:=["_law_cells_here", "_law_row", "_law_cell", "_law_at"]
noncomputable abbrev P_l_sorted:List Str:=["_law_cells_here"]
noncomputable abbrev N_l_beside:List Str:=["_law_cell"]
noncomputable abbrev P_l_beside:List Str:=["_law_cell"]
noncomputable abbrev N_l_reached:List Str:=["_law_first", "_law_cells_here", "_law_allowed", "_law_cell", "_law_found", "_law_waiting"]
noncomputable abbrev P_l_reached:List Str:=["_law_first", "_law_cells_here"]
noncomputable abbrev N_l_empties:List Str:=["_law_cells_here", "_law_low", "_law_high", "_law_west", "_law_east", "_law_empties_here", "_law_y"]
noncomputable abbrev P_l_empties:List Str:=["_law_cells_here"]
noncomputable abbrev N_l_kinds:List Str:=["_law_e", "_law_told", "_law_names"]
noncomputable abbrev P_l_kinds:List Str:=["_law_e"]
noncomputable abbrev N_l_rows:List Str:=["_law_script", "_law_wide", "_law_rows_here", "_law_y", "_law_row", "_law_x"]
noncomputable abbrev P_l_rows:List Str:=["_law_script"]
noncomputable abbrev N_l_spoilt:List Str:=["_law_rows_here", "_law_way", "_law_cell", "_law_at", "_law_row", "_law_place", "_law_sign"]
noncomputable abbrev P_l_spoilt:List Str:=["_law_rows_here", "_law_way", "_law_cell"]
noncomputable abbrev N_l_cells:List Str:=["_law_text", "_law_rows_here", "_law_cells_here", "_law_down", "_law_x"]
noncomputable abbrev P_l_cells:List Str:=["_law_text"]
noncomputable abbrev N_l_due:List Str:=["_law_cells_here", "_law_found", "_law_cell", "_law_empties_here", "_law_west", "_law_low"]
noncomputable abbrev P_l_due:List Str:=["_law_cells_here"]
noncomputable abbrev N_law:List Str:=["_law_script", "_law_rows_here", "_law_text", "_law_due_here", "_law_caught", "_law_found", "_law_e"]
noncomputable abbrev P_law:List Str:=["_law_script"]
noncomputable abbrev N_Apart_init:List Str:=["self", "cell"]
noncomputable abbrev P_Apart_init:List Str:=["self", "cell"]
noncomputable abbrev N_Hole_init:List Str:=["self", "cell"]
noncomputable abbrev P_Hole_init:List Str:=["self", "cell"]
local macro_rules | `(tactic| walk_at "l3h") => `(tactic| first
 | with_reducible exact upd3_same
 | assumption
 | exact upd3_old (by walk_at "l3h") (by assumption))
local macro_rules | `(tactic| walk_at "l3a") => `(tactic| first
 | with_reducible assumption
 | decide
 | omega
 | exact ⟨by decide,by decide⟩
 | exact Or.inl ⟨by decide,by decide⟩
 | exact Or.inr ⟨by decide,by decide⟩
 | exact ⟨by decide,by decide,by decide⟩
 | exact Or.inl ⟨by omega,by omega⟩
 | exact Or.inr ⟨by omega,by omega⟩
 | exact ⟨by omega,by omega⟩)
local macro_rules | `(tactic| walk_at "l3b") => `(tactic| first
 | with_reducible assumption
 | ((with_reducible show Bt _ (_ + _)); exact Bt.add (by walk_at "l3b") (by walk_at "l3b"))
 | ((with_reducible show Bt _ (_ - _)); exact Bt.sub (by walk_at "l3b") (by walk_at "l3b"))
 | ((with_reducible show Bt _ (_ * _)); exact Bt.mul (by walk_at "l3b") (by walk_at "l3b"))
 | ((with_reducible show Bt _ (-_)); exact Bt.neg (by walk_at "l3b"))
 | ((with_reducible show Bt _ (_ / _)); exact Bt.div (by walk_at "l3b"))
 | exact Bt.lit (n:=64) (by decide)
 | exact Bt.lit (n:=256) (by decide))
local macro_rules | `(tactic| walk_at "l3w") => `(tactic| first
 | ((with_reducible show CDivW _ _); exact And.intro (by walk_at "l3a") (Bt.mono (by walk_at "l3b") (by decide)))
 | exact Or.inl (by walk_at "l3a")
 | exact CMulW.of (by walk_at "l3b") (by walk_at "l3b") (by decide))
local macro_rules | `(tactic| walk_at "l3s") => `(tactic| first
 | with_reducible refine g_sq ?_
 | ((with_reducible show v3 _ _ _ _); refine g_v3 rfl ?_)
 | (with_reducible first | refine g_c3 ?_ | refine g_o3 ?_ | refine g_st ?_)
 | ((with_reducible refine g_gone ?_); (try dsimp only [List.set_cons_zero,List.set_cons_succ]))
 | ((fail_if_success (with_reducible show Ends3.nx (fin3 _) _ _)); (with_reducible refine g_nx ?_); (try dsimp only [List.set_cons_zero,List.set_cons_succ]))
 | (with_reducible first | refine g_cb ?_ | refine g_cons ?_ | refine g_nil ?_ | refine g_is ?_ | refine g_ts ?_ | refine g_bt ?_ | refine g_rt3 ?_)
 | ((fail_if_success (with_reducible show Ends3.rt (fin3 _) _ _)); with_reducible refine g_rt ?_)
 | with_reducible refine g_tp ?_
 | ((with_reducible show List.length _≤1000∧_); refine g_and rfl ?_)
 | (with_reducible first | refine g_add ?_ | refine g_sub ?_ | refine g_eqI ?_ | refine g_neI ?_ | refine g_eqP ?_ | refine g_neP ?_ | refine g_lt ?_ | refine g_gt ?_ | refine g_ltT ?_ | refine g_neg ?_ | refine g_u3 ?_)
 | ((with_reducible show i3mul _ _ _ _); refine g_mul (by walk_at "l3a") ?_)
 | ((with_reducible show i3div _ _ _ _); refine g_div (by walk_at "l3a") ?_)
 | ((with_reducible show i3mod _ _ _ _); refine g_mod (by walk_at "l3a") ?_)
 | ((with_reducible show r3ix (D.tup _) (D.int _) _ _); refine g_ixT rfl ?_)
 | (with_reducible first | refine g_an ?_ | refine g_or ?_ | refine g_no ?_ | refine g_av ?_ | refine g_avk ?_ | refine g_nv ?_ | refine g_nvk ?_ | refine g_isN ?_ | refine g_notN ?_ | refine g_ls ?_ | refine g_lenT ?_ | refine g_lenF ?_)
 | ((with_reducible show r3len [D.ref _] _ _); refine g_lenL (by walk_at "l3h") ?_)
 | ((with_reducible show r3tuple [D.ref _] _ _); refine g_tupL (by walk_at "l3h") ?_)
 | (with_reducible first | refine g_sl ?_ | refine g_np ?_ | refine g_pt ?_ | refine g_ptk ?_)
 | (with_reducible first | refine g_nx3 ?_ | refine g_dr ?_ | refine g_as ?_)
 | ((with_reducible refine g_gn ?_); (try dsimp only [List.set_cons_zero,List.set_cons_succ]))
 | ((with_reducible refine g_g2 ?_); (try dsimp only [List.set_cons_zero,List.set_cons_succ]))
 | (with_reducible first | refine g_fo ?_ | refine g_ir1 ?_ | refine g_ir2 ?_ | refine g_iez ?_ | refine g_ier ?_ | refine g_rg1 ?_ | refine g_rg2 ?_ | refine g_il ?_)
 | ((with_reducible show ilk (D.ref _) _ _); refine g_ilR (by walk_at "l3h") ?_)
 | (with_reducible first | refine g_it ?_ | refine g_itT ?_)
 | ((with_reducible show erk (D.ref _) _ _); refine g_erk (by walk_at "l3h") ?_)
 | (with_reducible first | refine g_cbE ?_ | refine g_rz ?_ | refine g_rf ?_ | refine g_xg3 ?_ | refine g_gl3 ?_)
 | with_reducible refine g_isx3 ?_
 | ((with_reducible show isxk _ (D.ref _) _ _); refine g_isxk (by walk_at "l3h") rfl ?_)
 | (with_reducible first | refine g_trA ?_ | refine g_sxS ?_)
 | (with_reducible first | refine g_mz ?_ | refine g_mzk ?_ | refine g_m3 ?_)
 | ((with_reducible show mtk _ _ _ (D.ref _) _ _); refine g_mtk (by walk_at "l3h") ?_)
 | (with_reducible first | refine g_dp ?_ | refine g_dn ?_ | refine g_dd ?_ | refine g_so ?_ | refine g_cp ?_)
 | ((with_reducible show r3isi [_,D.ty _] _ _); refine g_isi rfl (by simp [kinds]) ?_)
 | walk_at "l3c")
local macro_rules | `(tactic| walk_at "l3") => `(tactic| repeat walk_at "l3s")
noncomputable def mkZ (l:List Nat):Str:=⟨l.toArray⟩
noncomputable def sg (ps:List Pt) (x y:Int):Nat:=if (x,y)∈ps then 35 else 46
noncomputable def joinL (ls:List (List Nat)):List Nat:=ls.headD []++((ls.drop 1).map (47::·)).flatten
theorem mk_inj {as bs:List Nat} (h:mkZ as = mkZ bs):as = bs:=by
 have:=congrArg (fun z => z.cps.toList) h
 simpa [mkZ] using this
theorem mk_len (l:List Nat):(mkZ l).cps.size = l.length:=by simp [mkZ]
theorem fold_mk:∀ (r:List (List Nat)) (a:Array Nat),(r.map mkZ).foldl (fun acc p => acc++(Str.ofString "/").cps++p.cps) a = a++((r.map (47::·)).flatten).toArray
 | [],a => by simp
 | m::r,a => by
  rw [List.map_cons,List.foldl_cons,fold_mk r]
  have e:(Str.ofString "/").cps = #[47]:=rfl
  rw [e]
  simp [mkZ]
theorem join_mk (ls:List (List Nat)):joinZ (Str.ofString "/") (ls.map mkZ) = mkZ (joinL ls):=by
 unfold joinZ joinL
 rw [← List.map_drop,fold_mk]
 cases ls with
 | nil => rfl
 | cons l r =>
  show (⟨l.toArray++_⟩:Str) = ⟨_⟩
  congr 1
  simp
theorem split_mk:∀ (r:List (List Nat)) (l:List Nat),47∉l→(∀ m∈r,47∉m)→splitL 47 (l++(r.map (47::·)).flatten) = l::r
 | [],l,h,_ => by simp [splitL_no h]
 | m::r,l,h,hr => by
  have e:l++((m::r).map (47::·)).flatten = l++47::(m++(r.map (47::·)).flatten):=by simp
  rw [e,splitL_app h,split_mk r m (hr m (by simp)) fun x hx => hr x (by simp [hx])]
theorem split_join {ls:List (List Nat)} (hn:ls≠[]) (h:∀ l∈ls,47∉l):splitZ (mkZ (joinL ls)) 47 = ls.map mkZ:=by
 cases ls with
 | nil => exact absurd rfl hn
 | cons l r =>
  unfold splitZ
  have e:(mkZ (joinL (l::r))).cps.toList = l++(r.map (47::·)).flatten:=by simp [mkZ,joinL]
  rw [e,split_mk r l (h l (by simp)) fun x hx => h x (by simp [hx])]
  rfl
theorem joinL_len {ls:List (List Nat)} {w:Nat} (h:∀ l∈ls,l.length≤w):(joinL ls).length≤ls.length * (w + 1):=by
 cases ls with
 | nil => simp [joinL]
 | cons l r =>
  have e:∀ r:List (List Nat),(∀ l∈r,l.length≤w)→((r.map (47::·)).flatten).length≤r.length * (w + 1):=by
   intro r
   induction r with
   | nil => intro _; simp
   | cons m r ih =>
    intro hr
    have:=ih fun x hx => hr x (by simp [hx])
    have:=hr m (by simp)
    simp only [List.map_cons,List.flatten_cons,List.length_append,List.length_cons,Nat.succ_mul]
    omega
  have:=e r fun x hx => h x (by simp [hx])
  have:=h l (by simp)
  simp only [joinL,List.headD_cons,List.drop_succ_cons,List.drop_zero,List.length_append,List.length_cons,Nat.succ_mul]
  omega
theorem strOk_mk {l:List Nat} (h:∀ c∈l,c < 128):PyData.strOk (mkZ l) = true:=by
 show l.toArray.all (· < 0x110000) = true
 rw [List.all_toArray,List.all_eq_true]
 intro c hc
 have:=h c hc
 exact decide_eq_true (by omega)
theorem pyH_mk {l:List Nat} (H:Hp3) (h:∀ c∈l,c < 128):pyH H (.str (mkZ l)) = some (.str (mkZ l)):=by
 show (if PyData.strOk (mkZ l) = true then some (PyData.str (mkZ l)) else none) = _
 rw [if_pos (strOk_mk h)]
theorem eqv_mk (as bs:List Nat):PyData.eqv (.str (mkZ as)) (.str (mkZ bs)) = decide (as = bs):=by
 simp only [PyData.eqv]
 by_cases h:as = bs
 ·subst h; simp
 ·rw [decide_eq_false h]
  exact beq_eq_false_iff_ne.mpr fun z => h (mk_inj z)
theorem g_eqM {as bs:List Nat} {H:Hp3} {Q:VK3} (ha:∀ c∈as,c < 128) (hb:∀ c∈bs,c < 128) (q:Q (.bl (decide (as = bs))) H):r3eq (.str (mkZ as)) (.str (mkZ bs)) H Q:=by
 (delta r3eq; simp only [pyH_mk H ha,pyH_mk H hb,eqv_mk]); exact q
theorem join_r {ls:List (List Nat)} {w:Nat} {a:Addr} {H:Hp3} {Q:VK3} (ha:H a = some (.lst ((ls.map mkZ).map D.str))) (hl:ls.length≤1000) (hw:∀ l∈ls,l.length≤w) (hw':w≤1000) (q:Q (.str (mkZ (joinL ls))) H):r3join (.str (Str.ofString "/")) [.ref a] H Q:=by
 refine g_join (ys:=ls.map mkZ) ha ?_ (by rw [join_mk]; exact q)
 rw [List.map_map,List.length_map,show (Str.ofString "/").cps.size = 1 from rfl]
 have e:(ls.map ((fun y:Str => y.cps.size)∘mkZ)).sum≤ls.length * 1000:=by
  clear ha hl q
  induction ls with
  | nil => simp
  | cons c cs ih =>
   have:=ih fun l hl => hw l (by simp [hl])
   have:=hw c (by simp)
   rw [List.map_cons,List.sum_cons,List.length_cons,Nat.succ_mul]
   show (mkZ c).cps.size + _≤_
   rw [mk_len]
   omega
 omega
noncomputable def sp_rank_of:Sp3:=fun ds H Q => ∃ x y,ds = [.tup [.int x,.int y]]∧(Q (.tup [.int y,.int x]) H)
theorem u_rank_of {x y:Int} {H:Hp3} {Q:VK3} (h:Q (.tup [.int y,.int x]) H):sp_rank_of [.tup [.int x,.int y]] H Q:=⟨_,_,rfl,h⟩
theorem key_rank:KeyOk sp_rank_of:=fun _ _ _ h => u_rank_of h
local macro_rules | `(tactic| walk_at "l3c") => `(tactic| (with_reducible refine u_rank_of ?_))
theorem len_rank_of:∀ (ds:List D) (H:Hp3) (Q:VK3),sp_rank_of ds H Q→ds.length = P_rank_of.length:=by
 intro ds H Q h
 obtain ⟨_,_,rfl,_⟩:=h
 rfl
noncomputable def t_rank_of:TS3:=(rt3 (tp3 (cons3 (o3 r3ix (v3 0) (c3 (.int 1))) (cons3 (o3 r3ix (v3 0) (c3 (.int 0))) nil3))))
theorem rd_rank_of:∀ (ds:List D) (H:Hp3) (Q:VK3),sp_rank_of ds H Q→t_rank_of (fin3 Q) (start3 N_rank_of ds) H:=by
 intro ds H Q h
 obtain ⟨_,_,rfl,h⟩:=h
 simp only [t_rank_of,start3,N_rank_of,List.map_cons,List.map_nil,List.length_cons,List.length_nil,Nat.reduceAdd,Nat.reduceSub,Nat.zero_add,List.replicate,List.cons_append,List.nil_append]
 walk_at "l3"
 exact g_fin h Sub3.refl
noncomputable def around4 (p:Pt):List Pt:=[(p.1 + 1,p.2),(p.1,p.2 + 1),(p.1 - 1,p.2),(p.1,p.2 - 1)]
noncomputable def sp_around:Sp3:=fun ds H Q => ∃ x y,ds = [.tup [.int x,.int y]]∧(∀ p,H p = none→Q (.ref p) (upd3 H p (.lst ((around4 (x,y)).map prP))))
theorem u_around {x y:Int} {H:Hp3} {Q:VK3} (h:∀ p,H p = none→Q (.ref p) (upd3 H p (.lst ((around4 (x,y)).map prP)))):sp_around [.tup [.int x,.int y]] H Q:=⟨_,_,rfl,h⟩
theorem len_around:∀ (ds:List D) (H:Hp3) (Q:VK3),sp_around ds H Q→ds.length = P_around.length:=by
 intro ds H Q h
 obtain ⟨_,_,rfl,_⟩:=h
 rfl
noncomputable def t_around:TS3:=(sq3 (st3 1 (o3 r3ix (v3 0) (c3 (.int 0))))
  (sq3 (st3 2 (o3 r3ix (v3 0) (c3 (.int 1))))
  (rt3 (ls3 (cons3 (tp3 (cons3 (o3 r3add (v3 1) (c3 (.int 1))) (cons3 (v3 2) nil3))) (cons3 (tp3 (cons3 (v3 1) (cons3 (o3 r3add (v3 2) (c3 (.int 1))) nil3))) (cons3 (tp3 (cons3 (o3 i3sub (v3 1) (c3 (.int 1))) (cons3 (v3 2) nil3))) (cons3 (tp3 (cons3 (v3 1) (cons3 (o3 i3sub (v3 2) (c3 (.int 1))) nil3))) nil3))))))))
theorem rd_around:∀ (ds:List D) (H:Hp3) (Q:VK3),sp_around ds H Q→t_around (fin3 Q) (start3 N_around ds) H:=by
 intro ds H Q h
 obtain ⟨x,y,rfl,h⟩:=h
 simp only [t_around,start3,N_around,List.map_cons,List.map_nil,List.length_cons,List.length_nil,Nat.reduceAdd,Nat.reduceSub,Nat.zero_add,List.replicate,List.cons_append,List.nil_append]
 walk_at "l3"
 exact fun p hp => g_fin (h p hp) Sub3.refl
noncomputable def sp_added:Sp3:=fun ds H Q => ∃ a b c d,ds = [.tup [.int a,.int b],.tup [.int c,.int d]]∧(Q (.tup [.int (a + c),.int (b + d)]) H)
theorem u_added {a b c d:Int} {H:Hp3} {Q:VK3} (h:Q (.tup [.int (a + c),.int (b + d)]) H):sp_added [.tup [.int a,.int b],.tup [.int c,.int d]] H Q:=⟨_,_,_,_,rfl,h⟩
local macro_rules | `(tactic| walk_at "l3c") => `(tactic| (with_reducible refine u_added ?_))
theorem len_added:∀ (ds:List D) (H:Hp3) (Q:VK3),sp_added ds H Q→ds.length = P_added.length:=by
 intro ds H Q h
 obtain ⟨_,_,_,_,rfl,_⟩:=h
 rfl
noncomputable def t_added:TS3:=(rt3 (tp3 (cons3 (o3 r3add (o3 r3ix (v3 0) (c3 (.int 0))) (o3 r3ix (v3 1) (c3 (.int 0)))) (cons3 (o3 r3add (o3 r3ix (v3 0) (c3 (.int 1))) (o3 r3ix (v3 1) (c3 (.int 1)))) nil3))))
theorem rd_added:∀ (ds:List D) (H:Hp3) (Q:VK3),sp_added ds H Q→t_added (fin3 Q) (start3 N_added ds) H:=by
 intro ds H Q h
 obtain ⟨_,_,_,_,rfl,h⟩:=h
 simp only [t_added,start3,N_added,List.map_cons,List.map_nil,List.length_cons,List.length_nil,Nat.reduceAdd,Nat.reduceSub,Nat.zero_add,List.replicate,List.cons_append,List.nil_append]
 walk_at "l3"
 exact g_fin h Sub3.refl
noncomputable def rowP (x0:Int) (n:Nat) (y:Int):List Pt:=(List.range n).map fun (i:Nat) => (x0 + (i:Int),y)
noncomputable def rect (x0:Int) (n:Nat) (y0:Int):Nat→List Pt
 | 0 => []
 | m + 1 => rect x0 n y0 m++rowP x0 n (y0 + (m:Int))
theorem rowP_succ (x0:Int) (n:Nat) (y:Int):rowP x0 (n + 1) y = rowP x0 n y++[(x0 + (n:Int),y)]:=by
 unfold rowP; rw [List.range_succ,List.map_append]; rfl
theorem rowP_len (x0:Int) (n:Nat) (y:Int):(rowP x0 n y).length = n:=by simp [rowP]
theorem rect_len (x0:Int) (n:Nat) (y0:Int):∀ m,(rect x0 n y0 m).length = m * n
 | 0 => by simp [rect]
 | m + 1 => by rw [rect,List.length_append,rect_len,rowP_len,Nat.succ_mul]
noncomputable def offP (ps:List Pt) (qs:List Pt):List Pt:=qs.filter fun c => !decide (c∈ps)
noncomputable def minX (ps:List Pt):Int:=minL (ps.map Prod.fst)
noncomputable def maxX (ps:List Pt):Int:=maxL (ps.map Prod.fst)
noncomputable def minY (ps:List Pt):Int:=minL (ps.map Prod.snd)
noncomputable def maxY (ps:List Pt):Int:=maxL (ps.map Prod.snd)
noncomputable def wid (ps:List Pt):Nat:=(maxX ps + 2 - (minX ps - 1)).toNat
noncomputable def hei (ps:List Pt):Nat:=(maxY ps + 2 - (minY ps - 1)).toNat
noncomputable def boxE (ps:List Pt):List Pt:=offP ps (rect (minX ps - 1) (wid ps) (minY ps - 1) (hei ps))
noncomputable def sp_empty_in_box:Sp3:=fun ds H Q => ∃ a,ds = [.ref a]∧((match H a with
  | some (.lst xs) => (match ptsOf xs with
   | some ps => (ps≠[]∧ps.length≤900∧hei ps * wid ps≤900)∧∀ p,H p = none→Q (.ref p) (upd3 H p (.lst ((boxE ps).map prP)))
   | none => False)
  | _ => False))
theorem u_empty_in_box {ps:List Pt} {a:Addr} {H:Hp3} {Q:VK3} (ha:H a = some (.lst (ps.map prP))) (hn:ps≠[]) (hl:ps.length≤900) (hb:hei ps * wid ps≤900) (h:∀ p,H p = none→Q (.ref p) (upd3 H p (.lst ((boxE ps).map prP)))):sp_empty_in_box [.ref a] H Q:=by
 refine ⟨_,rfl,?_⟩
 simp only [ha,ptsOf_map]; exact ⟨⟨hn,hl,hb⟩,h⟩
theorem len_empty_in_box:∀ (ds:List D) (H:Hp3) (Q:VK3),sp_empty_in_box ds H Q→ds.length = P_empty_in_box.length:=by
 intro ds H Q h
 obtain ⟨_,rfl,_⟩:=h
 rfl
noncomputable def lp_empty_in_box_0:TS3:=fo3 (ir2 (o3 i3sub (cb3 r3min (cons3 (v3 1) nil3)) (c3 (.int 1))) (o3 r3add (cb3 r3max (cons3 (v3 1) nil3)) (c3 (.int 2)))) (gn3 5) (is3 (ts3 (o3 (r3inX true) (tp3 (cons3 (v3 5) (cons3 (v3 4) nil3))) (v3 0))) (dr3 (m3 r3app (v3 3) (cons3 (tp3 (cons3 (v3 5) (cons3 (v3 4) nil3))) nil3))) nx3)
noncomputable def lp_empty_in_box_1:TS3:=fo3 (ir2 (o3 i3sub (cb3 r3min (cons3 (v3 2) nil3)) (c3 (.int 1))) (o3 r3add (cb3 r3max (cons3 (v3 2) nil3)) (c3 (.int 2)))) (gn3 4) lp_empty_in_box_0
noncomputable def t_empty_in_box:TS3:=(sq3 (st3 1 (cp3 (il3 (v3 0)) (gn3 0) yes3 (o3 r3ix (v3 0) (c3 (.int 0))) ["cell"] []))
  (sq3 (st3 2 (cp3 (il3 (v3 0)) (gn3 0) yes3 (o3 r3ix (v3 0) (c3 (.int 1))) ["cell"] []))
  (sq3 (st3 3 (ls3 nil3))
  (sq3 lp_empty_in_box_1
  (rt3 (v3 3))))))
theorem rd_empty_in_box:∀ (ds:List D) (H:Hp3) (Q:VK3),sp_empty_in_box ds H Q→t_empty_in_box (fin3 Q) (start3 N_empty_in_box ds) H:=by
 intro ds H Q h
 obtain ⟨a,rfl,h⟩:=h
 split at h
 case h_2 => exact h.elim
 rename_i xs ha
 split at h
 case h_2 => exact h.elim
 rename_i ps e
 have e':=ptsOf_inv e
 subst e'
 obtain ⟨⟨hn,hl,hb⟩,h⟩:=h
 simp only [t_empty_in_box,start3,N_empty_in_box,List.map_cons,List.map_nil,List.length_cons,List.length_nil,Nat.reduceAdd,Nat.reduceSub,Nat.zero_add,List.replicate,List.cons_append,List.nil_append]
 walk_at "l3"
 refine Cp.map (fun p => D.int p.1) (fun H2 hs => hs _ _ ha) (by omega) ?_ ?_
 ·intro i p hp R H2 hs hR
  unfold prP
  walk_at "l3"
  exact hR H2 Sub3.refl
 intro p1 hp1
 walk_at "l3"
 refine Cp.map (fun p => D.int p.2) (fun H2 hs => hs _ _ (by walk_at "l3h")) (by omega) ?_ ?_
 ·intro i p hp R H2 hs hR
  unfold prP
  walk_at "l3"
  exact hR H2 Sub3.refl
 intro p2 hp2
 walk_at "l3"
 intro p3 hp3
 walk_at "l3"
 have n3:H p3 = none:=sub_back ((Sub3.fresh hp1).trans (Sub3.fresh hp2)) hp3
 have n13:p1≠p3:=fun z => by rw [← z,upd3_old upd3_same hp2] at hp3; cases hp3
 have n23:p2≠p3:=ne3 upd3_same hp3
 have na3:a≠p3:=ne3 ha n3
 have hxs:ps.map (fun p => D.int p.1) = (ps.map Prod.fst).map D.int:=by rw [List.map_map]; rfl
 have hys:ps.map (fun p => D.int p.2) = (ps.map Prod.snd).map D.int:=by rw [List.map_map]; rfl
 have hne1:ps.map Prod.fst≠[]:=by simpa using hn
 have hne2:ps.map Prod.snd≠[]:=by simpa using hn
 unfold lp_empty_in_box_1
 walk_at "l3"
 refine g_min (ns:=ps.map Prod.snd) (by rw [upd3_old upd3_same hp3,hys]) hne2 ?_
 walk_at "l3"
 refine g_max (ns:=ps.map Prod.snd) (by rw [upd3_old upd3_same hp3,hys]) hne2 ?_
 walk_at "l3"
 refine Lp.rng (fun j σ H2 => Sub3 H H2∧H2 p1 = some (.lst ((ps.map Prod.fst).map D.int))∧H2 p2 = some (.lst ((ps.map Prod.snd).map D.int))∧H2 p3 = some (.lst ((offP ps (rect (minX ps - 1) (wid ps) (minY ps - 1) j)).map prP))∧∃ yy xx,σ = [some (.ref a),some (.ref p1),some (.ref p2),some (.ref p3),yy,xx])
  ⟨((Sub3.fresh hp1).trans (Sub3.fresh hp2)).trans (Sub3.fresh hp3),by rw [upd3_old (upd3_old upd3_same hp2) hp3,hxs],by rw [upd3_old upd3_same hp3,hys],upd3_same,_,_,rfl⟩ ?_ ?_
 ·rintro j σ H2 hj ⟨hs,h1,h2,h3,yy,xx,rfl⟩
  have hrl:=rect_len (minX ps - 1) (wid ps) (minY ps - 1) j
  have hj':j < hei ps:=hj
  walk_at "l3"
  unfold lp_empty_in_box_0
  walk_at "l3"
  refine g_min (ns:=ps.map Prod.fst) h1 hne1 ?_
  walk_at "l3"
  refine g_max (ns:=ps.map Prod.fst) h1 hne1 ?_
  walk_at "l3"
  have ew:(maxL (ps.map Prod.fst) + 2 - (minL (ps.map Prod.fst) - 1)).toNat = wid ps:=rfl
  rw [ew]
  refine Lp.rng (fun i σ H3 => Sub3 H H3∧H3 p1 = some (.lst ((ps.map Prod.fst).map D.int))∧H3 p2 = some (.lst ((ps.map Prod.snd).map D.int))∧H3 p3 = some (.lst ((offP ps (rect (minX ps - 1) (wid ps) (minY ps - 1) j++rowP (minX ps - 1) i (minY ps - 1 + (j:Int)))).map prP))∧∃ xx,σ = [some (.ref a),some (.ref p1),some (.ref p2),some (.ref p3),some (.int (minY ps - 1 + (j:Int))),xx])
   ⟨hs,h1,h2,by rw [show rowP (minX ps - 1) 0 (minY ps - 1 + (j:Int)) = [] from rfl,List.append_nil]; exact h3,_,rfl⟩ ?_ ?_
  ·rintro i σ H3 hi ⟨hs3,k1,k2,k3,xx3,rfl⟩
   have hlen:(offP ps (rect (minX ps - 1) (wid ps) (minY ps - 1) j++rowP (minX ps - 1) i (minY ps - 1 + (j:Int)))).length≤900:=by
    have e1:=List.length_filter_le (fun c => !decide (c∈ps)) (rect (minX ps - 1) (wid ps) (minY ps - 1) j++rowP (minX ps - 1) i (minY ps - 1 + (j:Int)))
    rw [List.length_append,hrl,rowP_len] at e1
    have e2:(j + 1) * wid ps≤hei ps * wid ps:=Nat.mul_le_mul_right _ hj'
    rw [Nat.succ_mul] at e2
    unfold offP
    omega
   have er:∀ b:Bool,(offP ps (rect (minX ps - 1) (wid ps) (minY ps - 1) j++rowP (minX ps - 1) (i + 1) (minY ps - 1 + (j:Int)))) = offP ps (rect (minX ps - 1) (wid ps) (minY ps - 1) j++rowP (minX ps - 1) i (minY ps - 1 + (j:Int)))++(if (minX ps - 1 + (i:Int),minY ps - 1 + (j:Int))∈ps then [] else [(minX ps - 1 + (i:Int),minY ps - 1 + (j:Int))]):=fun _ => by
    unfold offP
    rw [rowP_succ,← List.append_assoc,List.filter_append]
    congr 1
    by_cases z:(minX ps - 1 + (i:Int),minY ps - 1 + (j:Int))∈ps
    ·rw [if_pos z,List.filter_cons_of_neg (by simpa using z)]; rfl
    ·rw [if_neg z,List.filter_cons_of_pos (by simpa using z)]; rfl
   have eM:minL (ps.map Prod.fst) = minX ps:=rfl
   rw [eM]
   walk_at "l3"
   refine g_ninX (seq_ref (hs3 _ _ ha)) ?_
   walk_at "l3"
   refine ifN (fun hni => ?_) fun hni => ?_
   ·walk_at "l3"
    refine g_app k3 (small1000' (by rw [List.length_map]; omega)) ?_
    walk_at "l3"
    refine ⟨fun b o hb => ?_,?_,?_,?_,_,rfl⟩
    ·rw [upd3_ne (ne3 hb n3)]; exact hs3 b o hb
    ·rw [upd3_ne n13]; exact k1
    ·rw [upd3_ne n23]; exact k2
    ·rw [er true,if_neg hni,upd3_same,List.map_append]; rfl
   ·walk_at "l3"
    refine ⟨hs3,k1,k2,?_,_,rfl⟩
    rw [er true,if_pos hni,List.append_nil]; exact k3
  ·rintro σ H3 ⟨hs3,k1,k2,k3,xx3,rfl⟩
   walk_at "l3"
   exact ⟨hs3,k1,k2,k3,_,_,rfl⟩
 ·rintro σ H2 ⟨hs,h1,h2,h3,yy,xx,rfl⟩
  walk_at "l3"
  exact g_fin (h p3 n3) (sub_upd hs h3)
structure Rows (ls:List (List Nat)) (w:Nat):Prop where
 ne:ls≠[]
 len:ls.length≤100
 w0:1≤w
 w1:w≤100
 row:∀ l∈ls,l.length = w∧∀ c∈l,c = 35∨c = 46
structure Txr (ls:List (List Nat)):Prop where
 len:ls.length≤6
 row:∀ l∈ls,l.length≤6
 sgn:∀ l∈ls,∀ c∈l,c≠47∧c < 128
noncomputable def OkR (ls:List (List Nat)):Prop:=∀ l∈ls,l≠[]∧l.length = (ls.headD []).length∧∀ c∈l,c = 35∨c = 46
theorem head_mem {ls:List (List Nat)} (hn:ls≠[]):ls.headD []∈ls:=by
 cases ls with
 | nil => exact absurd rfl hn
 | cons a b => exact List.mem_cons_self
theorem Txr.rows {ls:List (List Nat)} (t:Txr ls) (hn:ls≠[]) (o:OkR ls):Rows ls (ls.headD []).length:=by
 have hm:=head_mem hn
 refine ⟨hn,Nat.le_trans t.len (by decide),List.length_pos_iff.mpr (o _ hm).1,Nat.le_trans (t.row _ hm) (by decide),fun l hl => (o l hl).2⟩
theorem pos_count (l:List Nat) (c:Nat):(posOf (mkZ l) c).length = l.count c:=by
 unfold posOf
 rw [mk_len]
 have e:∀ n≤l.length,((List.range n).filter fun i => (mkZ l).cps[i]? == some c).length = (l.take n).count c:=by
  intro n
  induction n with
  | zero => intro _; simp
  | succ n ih =>
   intro hn
   have ih:=ih (by omega)
   have hg:(mkZ l).cps[n]? = some l[n]:=by simp [mkZ]
   rw [List.range_succ,List.filter_append,List.length_append,List.take_add_one,List.count_append,ih,List.getElem?_eq_getElem (by omega)]
   congr 1
   by_cases z:l[n] = c
   ·rw [List.filter_cons_of_pos (by rw [hg,z]; simp),z]; simp
   ·rw [List.filter_cons_of_neg (by rw [hg]; simpa using z)]
    simp [List.count_cons,z]
 rw [e _ (Nat.le_refl _),List.take_length]
theorem two_iff:∀ l:List Nat,l.count 35 + l.count 46≤l.length∧(l.count 35 + l.count 46 = l.length↔∀ c∈l,c = 35∨c = 46)
 | [] => by simp
 | a::l => by
  have ih:=two_iff l
  rw [List.count_cons,List.count_cons,List.length_cons]
  have hm:(∀ c∈a::l,c = 35∨c = 46)↔(a = 35∨a = 46)∧∀ c∈l,c = 35∨c = 46:=List.forall_mem_cons
  rw [hm,← ih.2]
  by_cases z:a = 35
  ·subst z; simp; omega
  ·by_cases z2:a = 46
   ·subst z2; simp; omega
   ·simp [z,z2]; omega
noncomputable def sp_rows_of:SpE:=fun ds H Q E => ∃ ls:List (List Nat),ds = [.str (mkZ (joinL ls))]∧(Txr ls∧ls≠[])∧(¬ OkR ls→E ⟨"NoDrawing",[]⟩ H)∧(OkR ls→∀ p,H p = none→Q (.ref p) (upd3 H p (.lst ((ls.map mkZ).map D.str))))
theorem u_rows_of {ls:List (List Nat)} {H:Hp3} {Q:VK3} {E:EK3} (ht:Txr ls) (hn:ls≠[]) (h1:¬ OkR ls→E ⟨"NoDrawing",[]⟩ H) (h2:OkR ls→∀ p,H p = none→Q (.ref p) (upd3 H p (.lst ((ls.map mkZ).map D.str)))):sp_rows_of [.str (mkZ (joinL ls))] H Q E:=⟨ls,rfl,⟨ht,hn⟩,h1,h2⟩
theorem len_rows_of:∀ (ds:List D) (H:Hp3) (Q:VK3) (E:EK3),sp_rows_of ds H Q E→ds.length = P_rows_of.length:=by
 intro ds H Q E h
 obtain ⟨_,rfl,_⟩:=h
 rfl
noncomputable def lp_rows_of_0 (E:EK3):TS3:=fo3 (il3 (v3 1)) (gn3 2) (sq3 (is3 (ts3 (o3 r3eq (v3 2) (c3 (.str "")))) (rz3 E "NoDrawing" (c3 (.str "a row is empty"))) nx3)
  (sq3 (is3 (ts3 (o3 r3ne (cb3 r3len (cons3 (v3 2) nil3)) (cb3 r3len (cons3 (o3 r3ix (v3 1) (c3 (.int 0))) nil3)))) (rz3 E "NoDrawing" (c3 (.str "the rows have unlike lengths"))) nx3)
  (is3 (ts3 (o3 r3ne (o3 r3add (mz3 r3count (v3 2) (cons3 (c3 (.str "#")) nil3)) (mz3 r3count (v3 2) (cons3 (c3 (.str ".")) nil3))) (cb3 r3len (cons3 (v3 2) nil3)))) (rz3 E "NoDrawing" (c3 (.str "there is another sign than the three of drawings"))) nx3)))
noncomputable def t_rows_of (E:EK3):TS3:=(sq3 (st3 1 (mz3 r3split (v3 0) (cons3 (c3 (.str "/")) nil3)))
  (sq3 (lp_rows_of_0 E)
  (rt3 (v3 1))))
theorem rd_rows_of:∀ (ds:List D) (H:Hp3) (Q:VK3) (E:EK3),sp_rows_of ds H Q E→t_rows_of E (fin3 Q) (start3 N_rows_of ds) H:=by
 intro ds H Q E h
 obtain ⟨ls,rfl,⟨ht,hn⟩,h1,h2⟩:=h
 have hsz:(joinL ls).length≤100 * 101:=Nat.le_trans (joinL_len (w:=6) ht.row) (Nat.le_trans (Nat.mul_le_mul_right _ ht.len) (by decide))
 have h47:∀ l∈ls,47∉l:=fun l hl z => (ht.sgn l hl 47 z).1 rfl
 have hlt:∀ l∈ls,∀ c∈l,c < 128:=fun l hl c hc => (ht.sgn l hl c hc).2
 simp only [t_rows_of,start3,N_rows_of,List.map_cons,List.map_nil,List.length_cons,List.length_nil,Nat.reduceAdd,Nat.reduceSub,Nat.zero_add,List.replicate,List.cons_append,List.nil_append]
 walk_at "l3"
 refine g_split (c:=47) rfl (by rw [mk_len]; omega) (by decide) fun p hp => ?_
 rw [split_join hn h47]
 walk_at "l3"
 unfold lp_rows_of_0
 walk_at "l3"
 refine Lp.by (fun i σ H2 => (H2 = upd3 H p (.lst ((ls.map mkZ).map D.str))∧∀ l∈ls.take i,l≠[]∧l.length = (ls.headD []).length∧∀ c∈l,c = 35∨c = 46)∧∃ rr,σ = [some (.str (mkZ (joinL ls))),some (.ref p),rr]) ⟨⟨rfl,by simp⟩,_,rfl⟩ (fun i σ H2 _ z => by rw [z.1.1]; exact upd3_same) ?_ ?_
 ·rintro i d σ H2 hd ⟨⟨rfl,hall⟩,rr,rfl⟩
  rw [List.map_map,List.getElem?_map] at hd
  obtain ⟨l,hli,rfl⟩:=Option.map_eq_some_iff.mp hd
  have hlm:l∈ls:=List.mem_of_getElem? hli
  obtain ⟨l0,r0,e0⟩:∃ l0 r0,ls = l0::r0:=by
   cases e:ls with
   | nil => exact absurd e hn
   | cons a b => exact ⟨a,b,rfl⟩
  have eh:ls.headD [] = l0:=by rw [e0]; rfl
  have hl6:=ht.row l hlm
  have hl0:=ht.row l0 (by rw [e0]; simp)
  have hzl:(mkZ l).length≤sizeLine:=by show (mkZ l).cps.size≤_; rw [mk_len]; exact Nat.le_of_lt (small1000' (by omega))
  have hz0:(mkZ l0).length≤sizeLine:=by show (mkZ l0).cps.size≤_; rw [mk_len]; exact Nat.le_of_lt (small1000' (by omega))
  show gn3 2 (D.str (mkZ l)) _ _ _
  walk_at "l3"
  refine g_eqM (bs:=[]) (hlt l hlm) (by simp) ?_
  walk_at "l3"
  refine ifD (fun hz => ?_) fun hz => ?_
  ·walk_at "l3"
   exact ⟨H,Sub3.fresh hp,h1 fun o => (o l hlm).1 hz⟩
  walk_at "l3"
  refine ⟨hzl,?_⟩
  walk_at "l3"
  refine g_ixL (d:=D.str (mkZ l0)) upd3_same (by rw [e0,List.map_map]; exact atI_map (f:=D.str∘mkZ) (xs:=l0::r0) (k:=0) (by decide) (by simp)) ?_
  walk_at "l3"
  refine ⟨hz0,?_⟩
  walk_at "l3"
  have elen:(((mkZ l).length:Nat):Int) = l.length:=by show (((mkZ l).cps.size:Nat):Int) = _; rw [mk_len]
  have elen0:(((mkZ l0).length:Nat):Int) = l0.length:=by show (((mkZ l0).cps.size:Nat):Int) = _; rw [mk_len]
  rw [elen,elen0]
  refine ifN (fun hz2 => ?_) fun hz2 => ?_
  ·walk_at "l3"
   exact ⟨H,Sub3.fresh hp,h1 fun o => hz2 (by have:=(o l hlm).2.1; rw [eh] at this; omega)⟩
  walk_at "l3"
  refine g_count (c:=35) rfl ?_
  walk_at "l3"
  refine g_count (c:=46) rfl ?_
  walk_at "l3"
  refine ⟨hzl,?_⟩
  walk_at "l3"
  rw [elen,pos_count,pos_count]
  refine ifN (fun hz3 => ?_) fun hz3 => ?_
  ·walk_at "l3"
   exact ⟨H,Sub3.fresh hp,h1 fun o => hz3 (by have:=(two_iff l).2.mpr (o l hlm).2.2; omega)⟩
  walk_at "l3"
  refine ⟨⟨rfl,fun x hx => ?_⟩,_,rfl⟩
  rw [List.take_add_one,hli,List.mem_append] at hx
  rcases hx with hx | hx
  ·exact hall x hx
  ·have:x = l:=by simpa using hx
   rw [this]
   exact ⟨hz,by rw [eh]; omega,(two_iff l).2.mp (by omega)⟩
 ·rintro σ H2 ⟨⟨rfl,hall⟩,rr,rfl⟩
  rw [List.length_map,List.length_map,List.take_length] at hall
  walk_at "l3"
  exact g_fin (h2 hall p hp) Sub3.refl
noncomputable def rowC (l:List Nat) (y:Int) (n:Nat):List Pt:=((List.range n).filter fun i => l[i]? == some 35).map fun i:Nat => ((i:Int),y)
noncomputable def allC (rs:List (List Nat)) (m:Nat):List Pt:=((List.range m).map fun y:Nat => rowC (rs.getD y []) (y:Int) (rs.getD y []).length).flatten
noncomputable def cellsR (ls:List (List Nat)):List Pt:=allC ls.reverse ls.length
theorem rowC_succ (l:List Nat) (y:Int) (n:Nat):rowC l y (n + 1) = rowC l y n++(if l[n]? = some 35 then [((n:Int),y)] else []):=by
 unfold rowC
 rw [List.range_succ,List.filter_append,List.map_append]
 congr 1
 by_cases h:l[n]? = some 35
 ·rw [if_pos h,List.filter_cons_of_pos (by rw [h]; rfl)]; rfl
 ·rw [if_neg h,List.filter_cons_of_neg (by simpa using h)]; rfl
theorem allC_succ (rs:List (List Nat)) (m:Nat):allC rs (m + 1) = allC rs m++rowC (rs.getD m []) (m:Int) (rs.getD m []).length:=by
 unfold allC; rw [List.range_succ,List.map_append,List.flatten_append]; simp
theorem mem_rowC {l:List Nat} {y:Int} {n:Nat} {p:Pt}:p∈rowC l y n↔p.2 = y∧∃ i:Nat,i < n∧p.1 = i∧l[i]? = some 35:=by
 unfold rowC
 simp only [List.mem_map,List.mem_filter,List.mem_range,beq_iff_eq]
 constructor
 ·rintro ⟨i,⟨h1,h2⟩,rfl⟩; exact ⟨rfl,i,h1,rfl,h2⟩
 ·rintro ⟨h0,i,h1,h2,h3⟩; exact ⟨i,⟨h1,h3⟩,Prod.ext h2.symm h0.symm⟩
theorem rowC_len (l:List Nat) (y:Int) (n:Nat):(rowC l y n).length≤n:=by
 unfold rowC; rw [List.length_map]
 exact Nat.le_trans (List.length_filter_le _ _) (by rw [List.length_range]; exact Nat.le_refl _)
theorem allC_len {rs:List (List Nat)} {w:Nat} (h:∀ l∈rs,l.length≤w):∀ m,(allC rs m).length≤m * w
 | 0 => by simp [allC]
 | m + 1 => by
  rw [allC_succ,List.length_append,Nat.succ_mul]
  have:=allC_len h m
  have h2:=rowC_len (rs.getD m []) (m:Int) (rs.getD m []).length
  have h3:(rs.getD m []).length≤w:=by
   rw [List.getD_eq_getElem?_getD]
   cases e:rs[m]? with
   | none => simp
   | some l => exact h l (List.mem_of_getElem? e)
  omega
theorem mem_allC {rs:List (List Nat)} {m:Nat} {p:Pt}:p∈allC rs m↔∃ y:Nat,y < m∧p∈rowC (rs.getD y []) (y:Int) (rs.getD y []).length:=by
 unfold allC
 simp only [List.mem_flatten,List.mem_map,List.mem_range]
 constructor
 ·rintro ⟨_,⟨y,hy,rfl⟩,h⟩; exact ⟨y,hy,h⟩
 ·rintro ⟨y,hy,h⟩; exact ⟨_,⟨y,hy,rfl⟩,h⟩
noncomputable def sp_cells_in:Sp3:=fun ds H Q => ∃ a,ds = [.ref a]∧(∃ ls w,Rows ls w∧H a = some (.lst ((ls.map mkZ).map D.str))∧∀ p,H p = none→Q (.ref p) (upd3 H p (.lst ((cellsR ls).map prP))))
theorem u_cells_in {ls:List (List Nat)} {w:Nat} {a:Addr} {H:Hp3} {Q:VK3} (hr:Rows ls w) (ha:H a = some (.lst ((ls.map mkZ).map D.str))) (h:∀ p,H p = none→Q (.ref p) (upd3 H p (.lst ((cellsR ls).map prP)))):sp_cells_in [.ref a] H Q:=⟨_,rfl,⟨ls,w,hr,ha,h⟩⟩
theorem len_cells_in:∀ (ds:List D) (H:Hp3) (Q:VK3),sp_cells_in ds H Q→ds.length = P_cells_in.length:=by
 intro ds H Q h
 obtain ⟨_,rfl,_⟩:=h
 rfl
noncomputable def lp_cells_in_0:TS3:=fo3 (iez (v3 3)) (g2_3 4 5) (is3 (ts3 (o3 r3eq (v3 5) (c3 (.str "#")))) (dr3 (m3 r3app (v3 1) (cons3 (tp3 (cons3 (v3 4) (cons3 (v3 2) nil3))) nil3))) nx3)
noncomputable def lp_cells_in_1:TS3:=fo3 (ier (v3 0)) (g2_3 2 3) lp_cells_in_0
noncomputable def t_cells_in:TS3:=(sq3 (st3 1 (ls3 nil3))
  (sq3 lp_cells_in_1
  (rt3 (v3 1))))
theorem rd_cells_in:∀ (ds:List D) (H:Hp3) (Q:VK3),sp_cells_in ds H Q→t_cells_in (fin3 Q) (start3 N_cells_in ds) H:=by
 intro ds H Q h
 obtain ⟨a,rfl,h⟩:=h
 obtain ⟨ls,w,hr,ha,h⟩:=h
 simp only [t_cells_in,start3,N_cells_in,List.map_cons,List.map_nil,List.length_cons,List.length_nil,Nat.reduceAdd,Nat.reduceSub,Nat.zero_add,List.replicate,List.cons_append,List.nil_append]
 walk_at "l3"
 intro p hp
 have hap:a≠p:=ne3 ha hp
 walk_at "l3"
 unfold lp_cells_in_1
 walk_at "l3"
 have erl:((ls.map mkZ).map D.str).reverse = (ls.reverse.map mkZ).map D.str:=by rw [List.map_reverse,List.map_reverse]
 rw [erl]
 have hrl:ls.reverse.length = ls.length:=List.length_reverse
 have hrr:∀ l∈ls.reverse,l.length≤100:=fun l hl => by rw [(hr.row l (List.mem_reverse.mp hl)).1]; exact hr.w1
 have hlen:=hr.len
 refine Lp.by (fun j σ H2 => Sub3 H H2∧H2 p = some (.lst ((allC ls.reverse j).map prP))∧∃ yy rr xx ss,σ = [some (.ref a),some (.ref p),yy,rr,xx,ss]) ⟨Sub3.fresh hp,upd3_same,_,_,_,_,rfl⟩ (fun i σ H2 _ z => z.1 _ _ ha) ?_ ?_
 ·rintro j d σ H2 hd ⟨hs,hH,yy,rr,xx,ss,rfl⟩
  obtain ⟨x,hx,rfl⟩:=en_get hd
  rw [List.map_map,List.getElem?_map] at hx
  obtain ⟨l,hlj,rfl⟩:=Option.map_eq_some_iff.mp hx
  have hjl:j < ls.length:=by have:=(List.getElem?_eq_some_iff.mp hlj).1; omega
  have hlm:l∈ls:=List.mem_reverse.mp (List.mem_of_getElem? hlj)
  have hll:=(hr.row l hlm).1
  have hw1:=hr.w1
  have hgd:ls.reverse.getD j [] = l:=by rw [List.getD_eq_getElem?_getD,hlj]; rfl
  have hal:=allC_len hrr j
  have hj100:j * 100≤99 * 100:=Nat.mul_le_mul_right _ (by omega)
  show g2_3 2 3 (D.tup [.int j,D.str (mkZ l)]) _ _ _
  walk_at "l3"
  unfold lp_cells_in_0
  walk_at "l3"
  refine g_ezk (by show l.toArray.all _ = true; rw [List.all_toArray,List.all_eq_true]; intro c hc; rcases (hr.row l hlm).2 c hc with e | e <;> rw [e] <;> rfl) ?_
  walk_at "l3"
  refine Lp.by (fun i σ H2 => Sub3 H H2∧H2 p = some (.lst ((allC ls.reverse j++rowC l (j:Int) i).map prP))∧∃ xx ss,σ = [some (.ref a),some (.ref p),some (.int j),some (.str (mkZ l)),xx,ss]) ⟨hs,by rw [show rowC l (j:Int) 0 = [] from rfl,List.append_nil]; exact hH,_,_,rfl⟩ (fun _ _ _ _ _ => trivial) ?_ ?_
  ·rintro i d σ H3 hd ⟨hs3,hH3,xx,ss,rfl⟩
   obtain ⟨x,hx,rfl⟩:=en_get hd
   have hx':(l.map fun c => D.str ⟨#[c]⟩)[i]? = some x:=hx
   rw [List.getElem?_map] at hx'
   obtain ⟨c,hci,rfl⟩:=Option.map_eq_some_iff.mp hx'
   have hil:i < l.length:=(List.getElem?_eq_some_iff.mp hci).1
   have hcl:c < 128:=by rcases (hr.row l hlm).2 c (List.mem_of_getElem? hci) with e | e <;> rw [e] <;> decide
   have her:=rowC_succ l (j:Int) i
   have hrc:=rowC_len l (j:Int) i
   show g2_3 4 5 (D.tup [.int i,D.str (mkZ [c])]) _ _ _
   walk_at "l3"
   refine g_eqM (as:=[c]) (bs:=[35]) (by simpa using hcl) (by simp) ?_
   walk_at "l3"
   refine ifD (fun hc => ?_) fun hc => ?_
   ·walk_at "l3"
    refine g_app hH3 (by rw [sizeLine_n,List.length_map,List.length_append]; omega) ?_
    walk_at "l3"
    refine ⟨fun b o hb => ?_,?_,_,_,rfl⟩
    ·rw [upd3_ne (ne3 hb hp)]; exact hs3 b o hb
    ·rw [upd3_same,her,if_pos (by rw [hci]; simpa using hc),← List.append_assoc,List.map_append (l₁:=allC _ _++_)]; rfl
   ·walk_at "l3"
    refine ⟨hs3,?_,_,_,rfl⟩
    rw [her,if_neg (by rw [hci]; simpa using hc),List.append_nil]; exact hH3
  ·rintro σ H3 ⟨hs3,hH3,xx,ss,rfl⟩
   walk_at "l3"
   refine ⟨hs3,?_,_,_,_,_,rfl⟩
   have e2:(zipD (rng 0 (lets (mkZ l)).length) (lets (mkZ l))).length = l.length:=by rw [en_len]; show (l.map _).length = _; rw [List.length_map]
   rw [e2] at hH3
   rw [allC_succ,hgd]; exact hH3
 ·rintro σ H2 ⟨hs,hH,yy,rr,xx,ss,rfl⟩
  walk_at "l3"
  rw [en_len,List.length_map,List.length_map,hrl] at hH
  exact g_fin (h p hp) (sub_upd hs hH)
noncomputable def sp_l_cell_at:Sp3:=fun ds H Q => ∃ xs k,ds = [.fl xs,.int k]∧((match intsOf xs with
  | some ns => 0≤k∧Q (.int (ns.getD k.toNat 0)) H
  | none => False))
theorem u_l_cell_at {ns:List Int} {k:Int} {H:Hp3} {Q:VK3} (hk:0≤k) (h:Q (.int (ns.getD k.toNat 0)) H):sp_l_cell_at [.fl (ns.map D.int),.int k] H Q:=by
 refine ⟨_,_,rfl,?_⟩
 simp only [intsOf_map]; exact ⟨hk,h⟩
local macro_rules | `(tactic| walk_at "l3c") => `(tactic| ((with_reducible show sp_l_cell_at _ _ _); refine u_l_cell_at (by walk_at "l3a") ?_))
theorem len_l_cell_at:∀ (ds:List D) (H:Hp3) (Q:VK3),sp_l_cell_at ds H Q→ds.length = P_l_cell_at.length:=by
 intro ds H Q h
 obtain ⟨_,_,rfl,_⟩:=h
 rfl
noncomputable def t_l_cell_at:TS3:=(sq3 (is3 (ts3 (o3 r3lt (v3 1) (cb3 r3len (cons3 (v3 0) nil3)))) (rt3 (o3 r3ix (v3 0) (v3 1))) nx3)
  (rt3 (c3 (.int 0))))
theorem rd_l_cell_at:∀ (ds:List D) (H:Hp3) (Q:VK3),sp_l_cell_at ds H Q→t_l_cell_at (fin3 Q) (start3 N_l_cell_at ds) H:=by
 intro ds H Q h
 obtain ⟨xs,k,rfl,h⟩:=h
 split at h
 case h_2 => exact h.elim
 rename_i ns e
 have e':=intsOf_inv e
 subst e'
 obtain ⟨hk,h⟩:=h
 simp only [t_l_cell_at,start3,N_l_cell_at,List.map_cons,List.map_nil,List.length_cons,List.length_nil,Nat.reduceAdd,Nat.reduceSub,Nat.zero_add,List.replicate,List.cons_append,List.nil_append]
 walk_at "l3"
 refine ifD (fun hlt => ?_) fun hlt => ?_
 ·have hl:k.toNat < ns.length:=by rw [List.length_map] at hlt; omega
  have ha:atI (ns.map D.int) k = some (.int (ns.getD k.toNat 0)):=by
   unfold atI ixN
   rw [if_pos hk,if_pos hlt,Option.bind_some,List.getElem?_map,List.getElem?_eq_getElem hl,List.getD_eq_getElem?_getD,List.getElem?_eq_getElem hl]
   rfl
  walk_at "l3"
  refine g_ixF ha ?_
  walk_at "l3"
  exact g_fin h Sub3.refl
 ·walk_at "l3"
  have hl:¬ k.toNat < ns.length:=by rw [List.length_map] at hlt; omega
  rw [List.getD_eq_getElem?_getD,List.getElem?_eq_none (by omega)] at h
  exact g_fin h Sub3.refl
noncomputable def sp_l_whole:Sp3:=fun ds H Q => ∃ w0_,ds = [.int w0_]∧(Q (.bl true) H)
theorem u_l_whole {i:Int} {H:Hp3} {Q:VK3} (h:Q (.bl true) H):sp_l_whole [.int i] H Q:=⟨_,rfl,h⟩
local macro_rules | `(tactic| walk_at "l3c") => `(tactic| (with_reducible refine u_l_whole ?_))
theorem len_l_whole:∀ (ds:List D) (H:Hp3) (Q:VK3),sp_l_whole ds H Q→ds.length = P_l_whole.length:=by
 intro ds H Q h
 obtain ⟨_,rfl,_⟩:=h
 rfl
noncomputable def t_l_whole:TS3:=(rt3 (av3 (cb3 r3isi (cons3 (v3 0) (cons3 (c3 (.ty "int")) nil3))) (nv3 (cb3 r3isi (cons3 (v3 0) (cons3 (c3 (.ty "bool")) nil3))))))
theorem rd_l_whole:∀ (ds:List D) (H:Hp3) (Q:VK3),sp_l_whole ds H Q→t_l_whole (fin3 Q) (start3 N_l_whole ds) H:=by
 intro ds H Q h
 obtain ⟨_,rfl,h⟩:=h
 simp only [t_l_whole,start3,N_l_whole,List.map_cons,List.map_nil,List.length_cons,List.length_nil,Nat.reduceAdd,Nat.reduceSub,Nat.zero_add,List.replicate,List.cons_append,List.nil_append]
 walk_at "l3"
 refine ifY rfl ?_
 walk_at "l3"
 exact g_fin h Sub3.refl
noncomputable def sp_l_sorted:Sp3:=fun ds H Q => ∃ a,ds = [.ref a]∧((match H a with
  | some (.lst xs) => (match ptsOf xs with
   | some ps => ps.length≤500∧∀ p,H p = none→Q (.ref p) (upd3 H p (.lst ((isort ps).map prP)))
   | none => False)
  | _ => False))
theorem u_l_sorted {ps:List Pt} {a:Addr} {H:Hp3} {Q:VK3} (ha:H a = some (.lst (ps.map prP))) (hl:ps.length≤500) (h:∀ p,H p = none→Q (.ref p) (upd3 H p (.lst ((isort ps).map prP)))):sp_l_sorted [.ref a] H Q:=by
 refine ⟨_,rfl,?_⟩
 simp only [ha,ptsOf_map]; exact ⟨hl,h⟩
noncomputable def meas (n i:Nat) (σ:St3):Nat:=match σ[i]? with
 | some (some (.int k)) => n - k.toNat
 | _ => 0
theorem len_l_sorted:∀ (ds:List D) (H:Hp3) (Q:VK3),sp_l_sorted ds H Q→ds.length = P_l_sorted.length:=by
 intro ds H Q h
 obtain ⟨_,rfl,_⟩:=h
 rfl
noncomputable def lp_l_sorted_0:TS3:=wh3 (an3 (ts3 (o3 r3lt (v3 3) (cb3 r3len (cons3 (v3 1) nil3)))) (ts3 (o3 r3lt (tp3 (cons3 (o3 r3ix (o3 r3ix (v3 1) (v3 3)) (c3 (.int 1))) (cons3 (o3 r3ix (o3 r3ix (v3 1) (v3 3)) (c3 (.int 0))) nil3))) (tp3 (cons3 (o3 r3ix (v3 2) (c3 (.int 1))) (cons3 (o3 r3ix (v3 2) (c3 (.int 0))) nil3)))))) (st3 3 (o3 r3add (v3 3) (c3 (.int 1))))
noncomputable def lp_l_sorted_1:TS3:=fo3 (il3 (v3 0)) (gn3 2) (sq3 (st3 3 (c3 (.int 0)))
  (sq3 lp_l_sorted_0
  (dr3 (m3 r3ins (v3 1) (cons3 (v3 3) (cons3 (v3 2) nil3))))))
noncomputable def t_l_sorted:TS3:=(sq3 (st3 1 (ls3 nil3))
  (sq3 lp_l_sorted_1
  (rt3 (v3 1))))
theorem rd_l_sorted:∀ (ds:List D) (H:Hp3) (Q:VK3),sp_l_sorted ds H Q→t_l_sorted (fin3 Q) (start3 N_l_sorted ds) H:=by
 intro ds H Q h
 obtain ⟨a,rfl,h⟩:=h
 split at h
 case h_2 => exact h.elim
 rename_i xs ha
 split at h
 case h_2 => exact h.elim
 rename_i ps e
 have e':=ptsOf_inv e
 subst e'
 obtain ⟨hl,h⟩:=h
 simp only [t_l_sorted,start3,N_l_sorted,List.map_cons,List.map_nil,List.length_cons,List.length_nil,Nat.reduceAdd,Nat.reduceSub,Nat.zero_add,List.replicate,List.cons_append,List.nil_append]
 walk_at "l3"
 intro p hp
 walk_at "l3"
 unfold lp_l_sorted_1
 walk_at "l3"
 refine Lp.by (fun i σ H2 => H2 = upd3 H p (.lst ((isort (ps.take i)).map prP))∧∃ c t,σ = [some (.ref a),some (.ref p),c,t]) ⟨rfl,_,_,rfl⟩ (fun i σ H2 _ z => by rw [z.1]; exact upd3_old ha hp) ?_ ?_
 ·rintro i d σ H2 hd ⟨rfl,c0,t0,rfl⟩
  rw [List.getElem?_map] at hd
  obtain ⟨c,hc,rfl⟩:=Option.map_eq_some_iff.mp hd
  have hi:i < ps.length:=(List.getElem?_eq_some_iff.mp hc).1
  rw [isort_take hc]
  have hrl:(isort (ps.take i)).length≤500:=by rw [isort_len,List.length_take]; omega
  generalize isort (ps.take i) = row at hrl
  walk_at "l3"
  unfold lp_l_sorted_0
  refine g_wh (fun σ H2 => H2 = upd3 H p (.lst (row.map prP))∧∃ k:Nat,k≤row.length∧(∀ r∈row.take k,ltc c r = true)∧σ = [some (.ref a),some (.ref p),some (prP c),some (.int k)]) (fun σ _ => meas row.length 3 σ) ⟨rfl,0,Nat.zero_le _,by simp,rfl⟩ ?_
  rintro σ H2 ⟨rfl,k,hk,hall,rfl⟩
  walk_at "l3"
  refine ifD (fun hlt => ?_) fun hlt => ?_
  ·have hlt':k < row.length:=by rw [List.length_map] at hlt; omega
   have hk':((k:Int)).toNat < row.length:=by omega
   walk_at "l3"
   refine g_ixL upd3_same (atI_map (by omega) hk') ?_
   unfold prP
   walk_at "l3"
   refine g_ixL upd3_same (atI_map (by omega) hk') ?_
   walk_at "l3"
   refine ifB (fun hc1 => ?_) fun hc1 => ?_
   ·walk_at "l3"
    refine ⟨⟨rfl,k + 1,hlt',?_,rfl⟩,?_⟩
    ·intro r hr
     rw [List.take_add_one,List.mem_append] at hr
     rcases hr with hr | hr
     ·exact hall r hr
     ·rw [List.getElem?_eq_getElem hlt'] at hr
      simp at hr
      subst hr
      exact hc1
    ·show row.length - ((k:Int) + 1).toNat < row.length - (k:Int).toNat
     omega
   ·walk_at "l3"
    refine g_ins upd3_same ⟨by omega,by rw [List.length_map]; omega⟩ (by rw [List.length_map]; omega) ?_
    walk_at "l3"
    rw [upd3_upd3]
    refine ⟨?_,_,_,rfl⟩
    obtain ⟨e1,e2⟩:=take_while_eq hk hall (fun _ => hc1)
    unfold insP
    rw [e1,e2,List.map_append,List.map_cons,List.map_take,List.map_drop]
    rfl
  ·have hk':k = row.length:=by rw [List.length_map] at hlt; omega
   refine ifX rfl ?_
   walk_at "l3"
   unfold prP
   walk_at "l3"
   refine g_ins upd3_same ⟨by omega,by rw [List.length_map]; omega⟩ (by rw [List.length_map]; omega) ?_
   walk_at "l3"
   rw [upd3_upd3]
   refine ⟨?_,_,_,rfl⟩
   obtain ⟨e1,e2⟩:=take_while_eq hk hall (fun h => by omega)
   unfold insP
   rw [e1,e2,List.map_append,List.map_cons,List.map_take,List.map_drop]
   rfl
 ·rintro σ H2 ⟨rfl,c,t,rfl⟩
  walk_at "l3"
  rw [List.length_map,List.take_length]
  exact g_fin (h p hp) Sub3.refl
noncomputable def beside (p:Pt):List Pt:=[(p.1 + 1,p.2),(p.1,p.2 + 1),(p.1 - 1,p.2),(p.1,p.2 - 1)]
noncomputable def sp_l_beside:Sp3:=fun ds H Q => ∃ x y,ds = [.tup [.int x,.int y]]∧(∀ p,H p = none→Q (.ref p) (upd3 H p (.lst ((beside (x,y)).map prP))))
theorem u_l_beside {x y:Int} {H:Hp3} {Q:VK3} (h:∀ p,H p = none→Q (.ref p) (upd3 H p (.lst ((beside (x,y)).map prP)))):sp_l_beside [.tup [.int x,.int y]] H Q:=⟨_,_,rfl,h⟩
theorem len_l_beside:∀ (ds:List D) (H:Hp3) (Q:VK3),sp_l_beside ds H Q→ds.length = P_l_beside.length:=by
 intro ds H Q h
 obtain ⟨_,_,rfl,_⟩:=h
 rfl
noncomputable def t_l_beside:TS3:=(rt3 (ls3 (cons3 (tp3 (cons3 (o3 r3add (o3 r3ix (v3 0) (c3 (.int 0))) (c3 (.int 1))) (cons3 (o3 r3ix (v3 0) (c3 (.int 1))) nil3))) (cons3 (tp3 (cons3 (o3 r3ix (v3 0) (c3 (.int 0))) (cons3 (o3 r3add (o3 r3ix (v3 0) (c3 (.int 1))) (c3 (.int 1))) nil3))) (cons3 (tp3 (cons3 (o3 i3sub (o3 r3ix (v3 0) (c3 (.int 0))) (c3 (.int 1))) (cons3 (o3 r3ix (v3 0) (c3 (.int 1))) nil3))) (cons3 (tp3 (cons3 (o3 r3ix (v3 0) (c3 (.int 0))) (cons3 (o3 i3sub (o3 r3ix (v3 0) (c3 (.int 1))) (c3 (.int 1))) nil3))) nil3))))))
theorem rd_l_beside:∀ (ds:List D) (H:Hp3) (Q:VK3),sp_l_beside ds H Q→t_l_beside (fin3 Q) (start3 N_l_beside ds) H:=by
 intro ds H Q h
 obtain ⟨x,y,rfl,h⟩:=h
 simp only [t_l_beside,start3,N_l_beside,List.map_cons,List.map_nil,List.length_cons,List.length_nil,Nat.reduceAdd,Nat.reduceSub,Nat.zero_add,List.replicate,List.cons_append,List.nil_append]
 walk_at "l3"
 exact fun p hp => g_fin (h p hp) Sub3.refl
noncomputable def sp_l_empties:Sp3:=fun ds H Q => ∃ a,ds = [.ref a]∧(∃ ps:List Pt,(H a = some (.lst (ps.map prP))∧ps≠[]∧ps.length≤900∧hei ps * wid ps≤900)∧∀ p,H p = none→Q (.ref p) (upd3 H p (.lst ((boxE ps).map prP))))
theorem u_l_empties {ps:List Pt} {a:Addr} {H:Hp3} {Q:VK3} (ha:H a = some (.lst (ps.map prP))) (hn:ps≠[]) (hl:ps.length≤900) (hb:hei ps * wid ps≤900) (h:∀ p,H p = none→Q (.ref p) (upd3 H p (.lst ((boxE ps).map prP)))):sp_l_empties [.ref a] H Q:=⟨_,rfl,⟨ps,⟨ha,hn,hl,hb⟩,h⟩⟩
theorem len_l_empties:∀ (ds:List D) (H:Hp3) (Q:VK3),sp_l_empties ds H Q→ds.length = P_l_empties.length:=by
 intro ds H Q h
 obtain ⟨_,rfl,_⟩:=h
 rfl
noncomputable def lp_l_empties_0:TS3:=fo3 (ir2 (v3 1) (o3 r3add (v3 2) (c3 (.int 1)))) (gn3 6) (dr3 (m3 r3ext (v3 5) (cons3 (cp3 (ir2 (v3 3) (o3 r3add (v3 4) (c3 (.int 1)))) (gn3 0) (ts3 (o3 (r3inX true) (tp3 (cons3 (v3 0) (cons3 (v3 2) nil3))) (v3 1))) (tp3 (cons3 (v3 0) (cons3 (v3 2) nil3))) ["_law_x"] [(0, "_law_cells_here"),(6, "_law_y")]) nil3)))
noncomputable def t_l_empties:TS3:=(sq3 (st3 1 (o3 i3sub (cb3 r3min (cons3 (cp3 (il3 (v3 0)) (gn3 0) yes3 (o3 r3ix (v3 0) (c3 (.int 1))) ["_law_cell"] []) nil3)) (c3 (.int 1))))
  (sq3 (st3 2 (o3 r3add (cb3 r3max (cons3 (cp3 (il3 (v3 0)) (gn3 0) yes3 (o3 r3ix (v3 0) (c3 (.int 1))) ["_law_cell"] []) nil3)) (c3 (.int 1))))
  (sq3 (st3 3 (o3 i3sub (cb3 r3min (cons3 (cp3 (il3 (v3 0)) (gn3 0) yes3 (o3 r3ix (v3 0) (c3 (.int 0))) ["_law_cell"] []) nil3)) (c3 (.int 1))))
  (sq3 (st3 4 (o3 r3add (cb3 r3max (cons3 (cp3 (il3 (v3 0)) (gn3 0) yes3 (o3 r3ix (v3 0) (c3 (.int 0))) ["_law_cell"] []) nil3)) (c3 (.int 1))))
  (sq3 (st3 5 (ls3 nil3))
  (sq3 lp_l_empties_0
  (rt3 (v3 5))))))))
theorem rd_l_empties:∀ (ds:List D) (H:Hp3) (Q:VK3),sp_l_empties ds H Q→t_l_empties (fin3 Q) (start3 N_l_empties ds) H:=by
 intro ds H Q h
 obtain ⟨a,rfl,h⟩:=h
 obtain ⟨ps,⟨ha,hn,hl,hb⟩,h⟩:=h
 have hxs:ps.map (fun p => D.int p.1) = (ps.map Prod.fst).map D.int:=by rw [List.map_map]; rfl
 have hys:ps.map (fun p => D.int p.2) = (ps.map Prod.snd).map D.int:=by rw [List.map_map]; rfl
 have hne1:ps.map Prod.fst≠[]:=by simpa using hn
 have hne2:ps.map Prod.snd≠[]:=by simpa using hn
 simp only [t_l_empties,start3,N_l_empties,List.map_cons,List.map_nil,List.length_cons,List.length_nil,Nat.reduceAdd,Nat.reduceSub,Nat.zero_add,List.replicate,List.cons_append,List.nil_append]
 walk_at "l3"
 refine Cp.map (E:=prP) (as:=ps) (fun p => D.int p.2) (fun H2 hs => hs _ _ ha) (by omega) ?_ ?_
 ·intro i p hp R H2 hs hR
  unfold prP
  walk_at "l3"
  exact hR H2 Sub3.refl
 intro p1 hp1
 walk_at "l3"
 refine g_min (ns:=ps.map Prod.snd) (by rw [upd3_same,hys]) hne2 ?_
 have s1:Sub3 H (upd3 H p1 (.lst (ps.map fun p => D.int p.2))):=Sub3.fresh hp1
 generalize upd3 H p1 (.lst (ps.map fun p => D.int p.2)) = H1 at s1
 have ha1:=s1 _ _ ha
 walk_at "l3"
 refine Cp.map (E:=prP) (as:=ps) (fun p => D.int p.2) (fun H2 hs => hs _ _ (s1 _ _ ha)) (by omega) ?_ ?_
 ·intro i p hp R H2 hs hR
  unfold prP
  walk_at "l3"
  exact hR H2 Sub3.refl
 intro p2 hp2
 walk_at "l3"
 refine g_max (ns:=ps.map Prod.snd) (by rw [upd3_same,hys]) hne2 ?_
 have s2:=s1.trans (Sub3.fresh (o:=.lst (ps.map fun p => D.int p.2)) hp2)
 generalize upd3 H1 p2 (.lst (ps.map fun p => D.int p.2)) = H2 at s2
 have ha2:=s2 _ _ ha
 walk_at "l3"
 refine Cp.map (E:=prP) (as:=ps) (fun p => D.int p.1) (fun H3 hs => hs _ _ (s2 _ _ ha)) (by omega) ?_ ?_
 ·intro i p hp R H3 hs hR
  unfold prP
  walk_at "l3"
  exact hR H3 Sub3.refl
 intro p3 hp3
 walk_at "l3"
 refine g_min (ns:=ps.map Prod.fst) (by rw [upd3_same,hxs]) hne1 ?_
 have s3:=s2.trans (Sub3.fresh (o:=.lst (ps.map fun p => D.int p.1)) hp3)
 generalize upd3 H2 p3 (.lst (ps.map fun p => D.int p.1)) = H3 at s3
 have ha3:=s3 _ _ ha
 walk_at "l3"
 refine Cp.map (E:=prP) (as:=ps) (fun p => D.int p.1) (fun H4 hs => hs _ _ (s3 _ _ ha)) (by omega) ?_ ?_
 ·intro i p hp R H4 hs hR
  unfold prP
  walk_at "l3"
  exact hR H4 Sub3.refl
 intro p4 hp4
 walk_at "l3"
 refine g_max (ns:=ps.map Prod.fst) (by rw [upd3_same,hxs]) hne1 ?_
 have s4:=s3.trans (Sub3.fresh (o:=.lst (ps.map fun p => D.int p.1)) hp4)
 generalize upd3 H3 p4 (.lst (ps.map fun p => D.int p.1)) = H4 at s4
 have ha4:=s4 _ _ ha
 walk_at "l3"
 intro p5 hp5
 walk_at "l3"
 unfold lp_l_empties_0
 walk_at "l3"
 have n5:H p5 = none:=sub_back s4 hp5
 have eh:(maxL (ps.map Prod.snd) + 1 + 1 - (minL (ps.map Prod.snd) - 1)).toNat = hei ps:=by unfold hei maxY minY; congr 1; omega
 have ew:(maxL (ps.map Prod.fst) + 1 + 1 - (minL (ps.map Prod.fst) - 1)).toNat = wid ps:=by unfold wid maxX minX; congr 1; omega
 rw [eh]
 have eM:minL (ps.map Prod.fst) = minX ps:=rfl
 have eN:minL (ps.map Prod.snd) = minY ps:=rfl
 rw [eM] at ew
 rw [eM,eN]
 refine Lp.rng (fun j σ H2 => Sub3 H H2∧H2 p5 = some (.lst ((offP ps (rect (minX ps - 1) (wid ps) (minY ps - 1) j)).map prP))∧∃ yy,σ = [some (.ref a),some (.int (minY ps - 1)),some (.int (maxL (ps.map Prod.snd) + 1)),some (.int (minX ps - 1)),some (.int (maxL (ps.map Prod.fst) + 1)),some (.ref p5),yy]) ⟨s4.trans (Sub3.fresh hp5),upd3_same,_,rfl⟩ ?_ ?_
 ·rintro j σ H2 hj ⟨hs,h5,yy,rfl⟩
  walk_at "l3"
  rw [ew]
  refine Cp.filt (as:=List.range (wid ps)) (E:=fun i:Nat => D.int (minX ps - 1 + (i:Int))) (fun i => prP (minX ps - 1 + (i:Int),minY ps - 1 + (j:Int))) (fun i => !decide (((minX ps - 1 + (i:Int),minY ps - 1 + (j:Int)):Pt)∈ps)) (fun _ _ => trivial) ?_ ?_ ?_
  ·rw [List.length_range]
   have:1 * wid ps≤hei ps * wid ps:=Nat.mul_le_mul_right _ (by omega)
   omega
  ·intro i x hx R1 R0 H3 hs3 hy hno
   walk_at "l3"
   refine g_ninX (seq_ref (hs3 _ _ (hs _ _ ha))) ?_
   walk_at "l3"
   refine ifN (fun z => ?_) fun z => ?_
   ·walk_at "l3"
    exact hy (by simpa using z) H3 Sub3.refl
   ·exact hno (by simpa using z) H3 Sub3.refl
  intro p6 hp6
  have hrl:=rect_len (minX ps - 1) (wid ps) (minY ps - 1) j
  have hl1:=List.length_filter_le (fun c => !decide (c∈ps)) (rect (minX ps - 1) (wid ps) (minY ps - 1) j)
  have hl2:=List.length_filter_le (fun i:Nat => !decide (((minX ps - 1 + (i:Int),minY ps - 1 + (j:Int)):Pt)∈ps)) (List.range (wid ps))
  have hl3:(j + 1) * wid ps≤hei ps * wid ps:=Nat.mul_le_mul_right _ hj
  rw [Nat.succ_mul] at hl3
  rw [List.length_range] at hl2
  walk_at "l3"
  refine g_ext (upd3_old h5 hp6) upd3_same ?_ ?_
  ·rw [List.length_map,List.length_map,sizeLine_n]
   unfold offP
   omega
  walk_at "l3"
  refine ⟨fun b o hb => ?_,?_,_,rfl⟩
  ·rw [upd3_ne (ne3 hb n5)]
   exact upd3_old (hs b o hb) hp6
  ·rw [upd3_same]
   have er:rect (minX ps - 1) (wid ps) (minY ps - 1) (j + 1) = rect (minX ps - 1) (wid ps) (minY ps - 1) j++rowP (minX ps - 1) (wid ps) (minY ps - 1 + (j:Int)):=rfl
   rw [er]
   unfold offP rowP
   rw [List.filter_append,List.map_append,List.filter_map,List.map_map]
   rfl
 ·rintro σ H2 ⟨hs,h5,yy,rfl⟩
  walk_at "l3"
  exact g_fin (h p5 n5) (sub_upd hs h5)
noncomputable def xNm (j:Nat):Str:=match j with
 | 0 => "NoPiece"
 | 1 => "TooMany"
 | 2 => "Apart"
 | 3 => "Hole"
 | _ => "NoDrawing"
noncomputable def sp_l_kinds:Sp3:=fun ds H Q => ∃ a,ds = [.ref a]∧(∃ (j:Nat) (fs:List (Str×D)),(j < 5∧H a = some (.exc (xNm j) fs))∧∀ p,H p = none→Q (.ref p) (upd3 H p (.lst [.str (xNm j)])))
theorem u_l_kinds (j:Nat) {fs:List (Str×D)} {a:Addr} {H:Hp3} {Q:VK3} (hj:j < 5) (ha:H a = some (.exc (xNm j) fs)) (h:∀ p,H p = none→Q (.ref p) (upd3 H p (.lst [.str (xNm j)]))):sp_l_kinds [.ref a] H Q:=⟨_,rfl,⟨j,fs,⟨hj,ha⟩,h⟩⟩
noncomputable def kTold (j:Nat):List D:=(List.range 14).map fun i => .bl (decide (i = j))
noncomputable def kNames:List D:=[.str "NoPiece",.str "TooMany",.str "Apart",.str "Hole",.str "NoDrawing",.str "Backward",.str "NoGrid",.str "NotAsMany",.str "NoFloor",.str "NoLine",.str "Nothing",.str "NoWord",.str "Crossed",.str "Open"]
theorem k_told {a j:Nat} (h:a < 14):atI (kTold j) (0 + (a:Int)) = some (.bl (decide (a = j))):=by
 unfold kTold
 rw [Int.zero_add,atI_map (by omega) (by rw [List.length_range,Int.toNat_natCast]; exact h)]
 rw [List.getElem_range,Int.toNat_natCast]
theorem k_names {a:Nat} (h:a < 14):atI kNames (0 + (a:Int)) = some (kNames.getD a .non):=by
 have:a = 0∨a = 1∨a = 2∨a = 3∨a = 4∨a = 5∨a = 6∨a = 7∨a = 8∨a = 9∨a = 10∨a = 11∨a = 12∨a = 13:=by omega
 rcases this with rfl | rfl | rfl | rfl | rfl | rfl | rfl | rfl | rfl | rfl | rfl | rfl | rfl | rfl <;> rfl
theorem len_l_kinds:∀ (ds:List D) (H:Hp3) (Q:VK3),sp_l_kinds ds H Q→ds.length = P_l_kinds.length:=by
 intro ds H Q h
 obtain ⟨_,rfl,_⟩:=h
 rfl
noncomputable def t_l_kinds:TS3:=(sq3 (st3 1 (ls3 (cons3 (isx3 [("NoPiece",true),("TooMany",false),("Apart",false),("Hole",false),("NoDrawing",false)] (v3 0)) (cons3 (isx3 [("NoPiece",false),("TooMany",true),("Apart",false),("Hole",false),("NoDrawing",false)] (v3 0)) (cons3 (isx3 [("NoPiece",false),("TooMany",false),("Apart",true),("Hole",false),("NoDrawing",false)] (v3 0)) (cons3 (isx3 [("NoPiece",false),("TooMany",false),("Apart",false),("Hole",true),("NoDrawing",false)] (v3 0)) nil3))))))
  (sq3 (st3 1 (o3 r3add (v3 1) (ls3 (cons3 (isx3 [("NoPiece",false),("TooMany",false),("Apart",false),("Hole",false),("NoDrawing",true)] (v3 0)) (cons3 (isx3 [("NoPiece",false),("TooMany",false),("Apart",false),("Hole",false),("NoDrawing",false)] (v3 0)) (cons3 (isx3 [("NoPiece",false),("TooMany",false),("Apart",false),("Hole",false),("NoDrawing",false)] (v3 0)) (cons3 (isx3 [("NoPiece",false),("TooMany",false),("Apart",false),("Hole",false),("NoDrawing",false)] (v3 0)) nil3)))))))
  (sq3 (st3 1 (o3 r3add (v3 1) (ls3 (cons3 (isx3 [("NoPiece",false),("TooMany",false),("Apart",false),("Hole",false),("NoDrawing",false)] (v3 0)) (cons3 (isx3 [("NoPiece",false),("TooMany",false),("Apart",false),("Hole",false),("NoDrawing",false)] (v3 0)) (cons3 (isx3 [("NoPiece",false),("TooMany",false),("Apart",false),("Hole",false),("NoDrawing",false)] (v3 0)) (cons3 (isx3 [("NoPiece",false),("TooMany",false),("Apart",false),("Hole",false),("NoDrawing",false)] (v3 0)) nil3)))))))
  (sq3 (st3 1 (o3 r3add (v3 1) (ls3 (cons3 (isx3 [("NoPiece",false),("TooMany",false),("Apart",false),("Hole",false),("NoDrawing",false)] (v3 0)) (cons3 (isx3 [("NoPiece",false),("TooMany",false),("Apart",false),("Hole",false),("NoDrawing",false)] (v3 0)) nil3)))))
  (sq3 (st3 2 (ls3 (cons3 (c3 (.str "NoPiece")) (cons3 (c3 (.str "TooMany")) (cons3 (c3 (.str "Apart")) (cons3 (c3 (.str "Hole")) (cons3 (c3 (.str "NoDrawing")) (cons3 (c3 (.str "Backward")) (cons3 (c3 (.str "NoGrid")) (cons3 (c3 (.str "NotAsMany")) (cons3 (c3 (.str "NoFloor")) (cons3 (c3 (.str "NoLine")) nil3))))))))))))
  (sq3 (st3 2 (o3 r3add (v3 2) (ls3 (cons3 (c3 (.str "Nothing")) (cons3 (c3 (.str "NoWord")) (cons3 (c3 (.str "Crossed")) (cons3 (c3 (.str "Open")) nil3)))))))
  (sq3 (is3 (no3 (ts3 (isx3 [("NoPiece",true),("TooMany",true),("Apart",true),("Hole",true),("NoDrawing",true)] (v3 0)))) (rt3 (ls3 (cons3 (c3 (.str "no ValueError")) nil3))) nx3)
  (rt3 (cp3 (ir1 (c3 (.int 14))) (gn3 0) (ts3 (o3 r3ix (v3 1) (v3 0))) (o3 r3ix (v3 2) (v3 0)) ["_law_k"] [(1, "_law_told"),(2, "_law_names")])))))))))
theorem rd_l_kinds:∀ (ds:List D) (H:Hp3) (Q:VK3),sp_l_kinds ds H Q→t_l_kinds (fin3 Q) (start3 N_l_kinds ds) H:=by
 intro ds H Q h
 obtain ⟨a,rfl,h⟩:=h
 obtain ⟨j,fs,⟨hj,ha⟩,h⟩:=h
 have rest:∀ (H9:Hp3) (p7 p10:Addr),Sub3 H H9→H9 p7 = some (.lst (kTold j))→H9 p10 = some (.lst kNames) →
   (rt3 (cp3 (ir1 (c3 (.int 14))) (gn3 0) (ts3 (o3 r3ix (v3 1) (v3 0))) (o3 r3ix (v3 2) (v3 0)) ["_law_k"] [(1, "_law_told"),(2, "_law_names")])) (fin3 Q) [some (.ref a),some (.ref p7),some (.ref p10)] H9:=by
  intro H9 p7 p10 sb h7 h10
  walk_at "l3"
  refine Cp.filt (as:=List.range 14) (E:=fun i:Nat => D.int (0 + (i:Int))) (fun i => kNames.getD i .non) (fun i => decide (i = j)) (fun _ _ => trivial) (by decide) ?_ ?_
  ·intro i x hx R1 R0 H2 hs hy hn
   have hx14:x < 14:=List.mem_range.mp (List.mem_of_getElem? hx)
   walk_at "l3"
   refine g_ixL (hs _ _ h7) (k_told hx14) ?_
   walk_at "l3"
   refine ifD (fun z => ?_) fun z => ?_
   ·walk_at "l3"
    refine g_ixL (hs _ _ h10) (k_names hx14) ?_
    exact hy (by simp [z]) H2 Sub3.refl
   ·exact hn (by simp [z]) H2 Sub3.refl
  ·intro p hp
   have hp0:H p = none:=sub_back sb hp
   have e:((List.range 14).filter fun i => decide (i = j)).map (fun i => kNames.getD i .non) = [.str (xNm j)]:=by
    have:j = 0∨j = 1∨j = 2∨j = 3∨j = 4:=by omega
    rcases this with rfl | rfl | rfl | rfl | rfl <;> rfl
   rw [e]
   exact g_fin (h p hp0) (sub_upd (sb.upd hp0) upd3_same)
 have hj4:j = 0∨j = 1∨j = 2∨j = 3∨j = 4:=by omega
 simp only [t_l_kinds,start3,N_l_kinds,List.map_cons,List.map_nil,List.length_cons,List.length_nil,Nat.reduceAdd,Nat.reduceSub,Nat.zero_add,List.replicate,List.cons_append,List.nil_append]
 rcases hj4 with rfl | rfl | rfl | rfl | rfl
 all_goals
  unfold xNm at ha
  walk_at "l3"
  intro p1 hp1
  walk_at "l3"
  intro p2 hp2
  walk_at "l3"
  refine g_cat (by walk_at "l3h") (by walk_at "l3h") (by rw [sizeLine_n]; decide) fun p3 hp3 => ?_
  walk_at "l3"
  intro p4 hp4
  walk_at "l3"
  refine g_cat (by walk_at "l3h") (by walk_at "l3h") (by rw [sizeLine_n]; decide) fun p5 hp5 => ?_
  walk_at "l3"
  intro p6 hp6
  walk_at "l3"
  refine g_cat (by walk_at "l3h") (by walk_at "l3h") (by rw [sizeLine_n]; decide) fun p7 hp7 => ?_
  walk_at "l3"
  intro p8 hp8
  walk_at "l3"
  intro p9 hp9
  walk_at "l3"
  refine g_cat (by walk_at "l3h") (by walk_at "l3h") (by rw [sizeLine_n]; decide) fun p10 hp10 => ?_
  walk_at "l3"
  refine ifX rfl ?_
  refine g_nx3 (g_nx ?_)
  exact rest _ _ _ ((((((((((Sub3.fresh hp1).trans (Sub3.fresh hp2)).trans (Sub3.fresh hp3)).trans (Sub3.fresh hp4)).trans (Sub3.fresh hp5)).trans (Sub3.fresh hp6)).trans (Sub3.fresh hp7)).trans (Sub3.fresh hp8)).trans (Sub3.fresh hp9)).trans (Sub3.fresh hp10)) (upd3_old (upd3_old (upd3_old upd3_same hp8) hp9) hp10) upd3_same
noncomputable def sp_l_spoilt:Sp3:=fun ds H Q => ∃ a w1_ w2_,ds = [.ref a,.int w1_,.int w2_]∧(∃ ls:List (List Nat),(H a = some (.lst ((ls.map mkZ).map D.str))∧ls≠[]∧ls.length≤5∧∀ l∈ls,l.length≤5∧∀ c∈l,c = 35∨c = 46)∧∀ H2 (ls2:List (List Nat)),H2 a = some (.lst ((ls2.map mkZ).map D.str))→Txr ls2→Q (.ref a) H2)
theorem u_l_spoilt {ls:List (List Nat)} {a:Addr} {w c:Int} {H:Hp3} {Q:VK3} (ha:H a = some (.lst ((ls.map mkZ).map D.str))) (hl:ls≠[]∧ls.length≤5∧∀ l∈ls,l.length≤5∧∀ c∈l,c = 35∨c = 46) (h:∀ H2 (ls2:List (List Nat)),H2 a = some (.lst ((ls2.map mkZ).map D.str))→Txr ls2→Q (.ref a) H2):sp_l_spoilt [.ref a,.int w,.int c] H Q:=⟨_,_,_,rfl,⟨ls,⟨ha,hl⟩,h⟩⟩
theorem cut_pre {α:Type} (xs:List α) {c:Int} (h0:0≤c):cut3 xs none (some c) = xs.take c.toNat:=by
 unfold cut3 HT.sIx
 dsimp only
 rw [if_neg (by omega),List.drop_zero,Nat.sub_zero]
 by_cases h:c.toNat≤xs.length
 ·rw [Nat.min_eq_left h]
 ·rw [Nat.min_eq_right (by omega),List.take_of_length_le (by omega),List.take_of_length_le (by omega)]
theorem cut_suf {α:Type} (xs:List α) {c:Int} (h0:0≤c):cut3 xs (some c) none = xs.drop c.toNat:=by
 unfold cut3 HT.sIx
 dsimp only
 rw [if_neg (by omega),List.take_of_length_le (by rw [List.length_drop]; omega)]
 by_cases h:c.toNat≤xs.length
 ·rw [Nat.min_eq_left h]
 ·rw [Nat.min_eq_right (by omega),List.drop_of_length_le (by omega),List.drop_of_length_le (by omega)]
theorem cutZ_pre (l:List Nat) {c:Int} (h0:0≤c):cutZ (mkZ l) none (some c) = mkZ (l.take c.toNat):=by
 show (⟨(cut3 l none (some c)).toArray⟩:Str) = _
 rw [cut_pre l h0]; rfl
theorem cutZ_suf (l:List Nat) {c:Int} (h0:0≤c):cutZ (mkZ l) (some c) none = mkZ (l.drop c.toNat):=by
 show (⟨(cut3 l (some c) none).toArray⟩:Str) = _
 rw [cut_suf l h0]; rfl
theorem sign_at {i:Int} (h0:0≤i) (h1:i < 11):∃ c,atI (Str.ofString "x -O#.,:|01").cps.toList i = some c∧(c≠47∧c < 128):=by
 have:i = 0∨i = 1∨i = 2∨i = 3∨i = 4∨i = 5∨i = 6∨i = 7∨i = 8∨i = 9∨i = 10:=by omega
 rcases this with rfl | rfl | rfl | rfl | rfl | rfl | rfl | rfl | rfl | rfl | rfl <;> exact ⟨_,rfl,by decide⟩
theorem g_ixZ {z:Str} {i:Int} {c:Nat} {H:Hp3} {Q:VK3} (hl:z.length≤sizeLine) (h:atI z.cps.toList i = some c) (q:Q (.str ⟨#[c]⟩) H):r3ix (.str z) (.int i) H Q:=by
 (delta r3ix; simp only [h]); exact ⟨hl,q⟩
theorem g_addZ {a b:List Nat} {H:Hp3} {Q:VK3} (hl:a.length + b.length≤100) (q:Q (.str (mkZ (a++b))) H):r3add (.str (mkZ a)) (.str (mkZ b)) H Q:=by
 have e:(mkZ a)++(mkZ b) = mkZ (a++b):=by
  show (⟨a.toArray++b.toArray⟩:Str) = ⟨_⟩
  congr 1; simp
 delta r3add
 dsimp only
 rw [e]
 refine ⟨?_,q⟩
 show (mkZ a).cps.size + (mkZ b).cps.size≤_
 rw [mk_len,mk_len]
 exact Nat.le_of_lt (small1000' (by omega))
theorem len_l_spoilt:∀ (ds:List D) (H:Hp3) (Q:VK3),sp_l_spoilt ds H Q→ds.length = P_l_spoilt.length:=by
 intro ds H Q h
 obtain ⟨_,_,_,rfl,_⟩:=h
 rfl
noncomputable def t_l_spoilt:TS3:=(sq3 (st3 3 (o3 i3mod (v3 2) (cb3 r3len (cons3 (v3 0) nil3))))
  (sq3 (st3 4 (o3 r3ix (v3 0) (v3 3)))
  (sq3 (st3 5 (o3 i3mod (o3 i3div (v3 2) (c3 (.int 5))) (o3 r3add (cb3 r3len (cons3 (v3 4) nil3)) (c3 (.int 1)))))
  (sq3 (is3 (ts3 (o3 r3eq (v3 1) (c3 (.int 1)))) (sq3 (st3 6 (o3 r3ix (c3 (.str "x -O#.,:|01")) (o3 i3mod (o3 i3div (v3 2) (c3 (.int 30))) (c3 (.int 11)))))
  (as3 (o3 r3add (o3 r3add (sl3 r3slZ (v3 4) np3 (pt3 (v3 5))) (v3 6)) (sl3 r3slZ (v3 4) (pt3 (o3 r3add (v3 5) (c3 (.int 1)))) np3)) (gl3 (v3 0) (v3 3)))) nx3)
  (sq3 (is3 (an3 (ts3 (o3 r3eq (v3 1) (c3 (.int 2)))) (ts3 (o3 r3eq (o3 i3mod (o3 i3div (v3 2) (c3 (.int 30))) (c3 (.int 4))) (c3 (.int 0))))) (as3 (o3 r3add (sl3 r3slZ (v3 4) np3 (pt3 (v3 5))) (sl3 r3slZ (v3 4) (pt3 (o3 r3add (v3 5) (c3 (.int 1)))) np3)) (gl3 (v3 0) (v3 3))) nx3)
  (sq3 (is3 (an3 (ts3 (o3 r3eq (v3 1) (c3 (.int 2)))) (ts3 (o3 r3eq (o3 i3mod (o3 i3div (v3 2) (c3 (.int 30))) (c3 (.int 4))) (c3 (.int 1))))) (as3 (o3 r3add (o3 r3add (sl3 r3slZ (v3 4) np3 (pt3 (v3 5))) (c3 (.str "#"))) (sl3 r3slZ (v3 4) (pt3 (v3 5)) np3)) (gl3 (v3 0) (v3 3))) nx3)
  (sq3 (is3 (an3 (ts3 (o3 r3eq (v3 1) (c3 (.int 2)))) (ts3 (o3 r3eq (o3 i3mod (o3 i3div (v3 2) (c3 (.int 30))) (c3 (.int 4))) (c3 (.int 2))))) (dr3 (m3 r3ins (v3 0) (cons3 (v3 3) (cons3 (c3 (.str "")) nil3)))) nx3)
  (sq3 (is3 (an3 (ts3 (o3 r3eq (v3 1) (c3 (.int 2)))) (ts3 (o3 r3eq (o3 i3mod (o3 i3div (v3 2) (c3 (.int 30))) (c3 (.int 4))) (c3 (.int 3))))) (dr3 (m3 r3popI (v3 0) (cons3 (v3 3) nil3))) nx3)
  (rt3 (v3 0))))))))))
theorem rd_l_spoilt:∀ (ds:List D) (H:Hp3) (Q:VK3),sp_l_spoilt ds H Q→t_l_spoilt (fin3 Q) (start3 N_l_spoilt ds) H:=by
 intro ds H Q h
 obtain ⟨a,w,ce,rfl,h⟩:=h
 obtain ⟨ls,⟨ha,hn,hl,hr⟩,h⟩:=h
 have hl0:0 < ls.length:=List.length_pos_iff.mpr hn
 have hc0':(0:Int) < (((ls.map mkZ).map D.str).length:Int):=by rw [List.length_map,List.length_map]; omega
 simp only [t_l_spoilt,start3,N_l_spoilt,List.map_cons,List.map_nil,List.length_cons,List.length_nil,Nat.reduceAdd,Nat.reduceSub,Nat.zero_add,List.replicate,List.cons_append,List.nil_append]
 walk_at "l3"
 rw [List.length_map,List.length_map]
 have u0:0≤ce % (ls.length:Int):=Int.emod_nonneg _ (by omega)
 have u1:ce % (ls.length:Int) < ls.length:=Int.emod_lt_of_pos _ (by omega)
 generalize ce % (ls.length:Int) = at0 at u0 u1
 walk_at "l3"
 have hm:(ls[at0.toNat]'(by omega))∈ls:=List.getElem_mem _
 refine g_ixL ha (d:=.str (mkZ (ls[at0.toNat]'(by omega)))) (by rw [List.map_map,atI_map u0 (by omega)]; rfl) ?_
 have hg:=hr _ hm
 generalize ls[at0.toNat]'(by omega) = l at hg
 obtain ⟨hl5,hlc⟩:=hg
 have hlo:∀ c∈l,c≠47∧c < 128:=fun c hc => by rcases hlc c hc with rfl | rfl <;> decide
 have hzl:(mkZ l).length≤sizeLine:=by show (mkZ l).cps.size≤_; rw [mk_len]; exact Nat.le_of_lt (small1000' (by omega))
 have elen:(((mkZ l).length:Nat):Int) = l.length:=by show (((mkZ l).cps.size:Nat):Int) = _; rw [mk_len]
 have t0:Txr ls:=⟨by omega,fun x hx => by have:=(hr x hx).1; omega,fun x hx c hc => by rcases (hr x hx).2 c hc with rfl | rfl <;> decide⟩
 have tset:∀ l2:List Nat,l2.length≤6→(∀ c∈l2,c≠47∧c < 128)→Txr (ls.set at0.toNat l2):=fun l2 h6 hc => by
  refine ⟨by rw [List.length_set]; omega,fun x hx => ?_,fun x hx => ?_⟩
  ·rcases List.mem_or_eq_of_mem_set hx with z | rfl
   ·exact t0.row x z
   ·exact h6
  ·rcases List.mem_or_eq_of_mem_set hx with z | rfl
   ·exact t0.sgn x z
   ·exact hc
 have eset:∀ (H2:Hp3) (l2:List Nat),upd3 H2 a (.lst (((ls.map mkZ).map D.str).set at0.toNat (.str (mkZ l2)))) a = some (.lst (((ls.set at0.toNat l2).map mkZ).map D.str)):=fun H2 l2 => by rw [upd3_same,List.map_set,List.map_set]
 have ult:at0 < (((ls.map mkZ).map D.str).length:Int):=by rw [List.length_map,List.length_map]; exact u1
 walk_at "l3"
 refine ⟨hzl,?_⟩
 walk_at "l3"
 rw [elen]
 have v0:0≤ce / 5 % ((l.length:Int) + 1):=Int.emod_nonneg _ (by omega)
 have v1:ce / 5 % ((l.length:Int) + 1) < (l.length:Int) + 1:=Int.emod_lt_of_pos _ (by omega)
 generalize ce / 5 % ((l.length:Int) + 1) = pl at v0 v1
 have cc1:=cutZ_pre l v0
 have cc2:=cutZ_suf l (c:=pl + 1) (by omega)
 have cc3:=cutZ_suf l v0
 have tk:∀ n,∀ c∈l.take n,c≠47∧c < 128:=fun n c hc => hlo c (List.mem_of_mem_take hc)
 have dk:∀ n,∀ c∈l.drop n,c≠47∧c < 128:=fun n c hc => hlo c (List.mem_of_mem_drop hc)
 have ap:∀ {xs ys:List Nat},(∀ c∈xs,c≠47∧c < 128)→(∀ c∈ys,c≠47∧c < 128)→∀ c∈xs++ys,c≠47∧c < 128:=fun h1 h2 c hc => (List.mem_append.mp hc).elim (h1 c) (h2 c)
 walk_at "l3"
 refine ifD (fun w1 => ?_) fun w1 => ?_
 ·have w2:¬ w = 2:=by omega
  walk_at "l3"
  obtain ⟨sg,es,os⟩:=sign_at (i:=ce / 30 % 11) (Int.emod_nonneg _ (by omega)) (Int.emod_lt_of_pos _ (by omega))
  refine g_ixZ (by rw [sizeLine_n]; decide) es ?_
  walk_at "l3"
  refine g_slZ hzl ?_
  rw [cc1]
  walk_at "l3"
  refine g_addZ (b:=[sg]) (by rw [List.length_take]; show _ + 1≤_; omega) ?_
  walk_at "l3"
  refine g_slZ hzl ?_
  rw [cc2]
  walk_at "l3"
  refine g_addZ (by rw [List.length_append,List.length_take,List.length_drop]; show _ + 1 + _≤_; omega) ?_
  walk_at "l3"
  refine g_lsk ha u0 ult ?_
  have hH:=eset H (l.take pl.toNat++[sg]++l.drop (pl + 1).toNat)
  have hT:=tset (l.take pl.toNat++[sg]++l.drop (pl + 1).toNat) (by rw [List.length_append,List.length_append,List.length_take,List.length_drop]; show _ + 1 + _≤_; omega) (ap (ap (tk _) (by simpa using os)) (dk _))
  generalize upd3 H a (.lst (((ls.map mkZ).map D.str).set at0.toNat (.str (mkZ (l.take pl.toNat++[sg]++l.drop (pl + 1).toNat))))) = H2 at hH
  refine g_nx ?_
  iterate 4
   walk_at "l3"
   refine ifD (fun z => absurd z w2) fun _ => ?_
   refine ifX rfl ?_
   refine g_nx3 (g_nx ?_)
  walk_at "l3"
  exact g_fin (h H2 _ hH hT) Sub3.refl
 refine g_nx3 (g_nx ?_)
 by_cases w2:w = 2
 case neg =>
  iterate 4
   walk_at "l3"
   refine ifD (fun z => absurd z w2) fun _ => ?_
   refine ifX rfl ?_
   refine g_nx3 (g_nx ?_)
  walk_at "l3"
  exact g_fin (h H _ ha t0) Sub3.refl
 subst w2
 walk_at "l3"
 refine ifY rfl ?_
 walk_at "l3"
 refine ifD (fun m0 => ?_) fun m0 => ?_
 ·walk_at "l3"
  refine g_slZ hzl ?_
  rw [cc1]
  walk_at "l3"
  refine g_slZ hzl ?_
  rw [cc2]
  walk_at "l3"
  refine g_addZ (by rw [List.length_take,List.length_drop]; omega) ?_
  walk_at "l3"
  refine g_lsk ha u0 ult ?_
  have hH:=eset H (l.take pl.toNat++l.drop (pl + 1).toNat)
  have hT:=tset (l.take pl.toNat++l.drop (pl + 1).toNat) (by simp only [List.length_append,List.length_take,List.length_drop,List.length_cons,List.length_nil]; omega) (ap (tk _) (dk _))
  generalize upd3 H a (.lst (((ls.map mkZ).map D.str).set at0.toNat (.str (mkZ (l.take pl.toNat++l.drop (pl + 1).toNat))))) = H2 at hH
  refine g_nx ?_
  iterate 3
   walk_at "l3"
   refine ifY rfl ?_
   walk_at "l3"
   refine ifD (fun z => absurd (z.symm.trans m0) (by decide)) fun _ => ?_
   refine g_nx3 (g_nx ?_)
  walk_at "l3"
  exact g_fin (h H2 _ hH hT) Sub3.refl
 refine g_nx3 (g_nx ?_)
 walk_at "l3"
 refine ifY rfl ?_
 walk_at "l3"
 refine ifD (fun m0 => ?_) fun m0 => ?_
 ·walk_at "l3"
  refine g_slZ hzl ?_
  rw [cc1]
  walk_at "l3"
  refine g_addZ (b:=[35]) (by rw [List.length_take]; show _ + 1≤_; omega) ?_
  walk_at "l3"
  refine g_slZ hzl ?_
  rw [cc3]
  walk_at "l3"
  refine g_addZ (by rw [List.length_append,List.length_take,List.length_drop]; show _ + 1 + _≤_; omega) ?_
  walk_at "l3"
  refine g_lsk ha u0 ult ?_
  have hH:=eset H (l.take pl.toNat++[35]++l.drop pl.toNat)
  have hT:=tset (l.take pl.toNat++[35]++l.drop pl.toNat) (by simp only [List.length_append,List.length_take,List.length_drop,List.length_cons,List.length_nil]; omega) (ap (ap (tk _) (by simp)) (dk _))
  generalize upd3 H a (.lst (((ls.map mkZ).map D.str).set at0.toNat (.str (mkZ (l.take pl.toNat++[35]++l.drop pl.toNat))))) = H2 at hH
  refine g_nx ?_
  iterate 2
   walk_at "l3"
   refine ifY rfl ?_
   walk_at "l3"
   refine ifD (fun z => absurd (z.symm.trans m0) (by decide)) fun _ => ?_
   refine g_nx3 (g_nx ?_)
  walk_at "l3"
  exact g_fin (h H2 _ hH hT) Sub3.refl
 refine g_nx3 (g_nx ?_)
 walk_at "l3"
 refine ifY rfl ?_
 walk_at "l3"
 refine ifD (fun m0 => ?_) fun m0 => ?_
 ·walk_at "l3"
  refine g_ins ha ⟨u0,Int.le_of_lt ult⟩ (by rw [List.length_map,List.length_map]; omega) ?_
  have hH:upd3 H a (.lst (((ls.map mkZ).map D.str).take at0.toNat++.str (Str.ofString "")::((ls.map mkZ).map D.str).drop at0.toNat)) a = some (.lst (((ls.take at0.toNat++[]::ls.drop at0.toNat).map mkZ).map D.str)):=by
   rw [upd3_same,List.map_append,List.map_append,List.map_cons,List.map_cons,List.map_take,List.map_take,List.map_drop,List.map_drop]; rfl
  have hT:Txr (ls.take at0.toNat++[]::ls.drop at0.toNat):=by
   have hin:∀ x∈ls.take at0.toNat++[]::ls.drop at0.toNat,x∈ls∨x = []:=fun x hx => by
    rcases List.mem_append.mp hx with z | z
    ·exact .inl (List.mem_of_mem_take z)
    ·rcases List.mem_cons.mp z with z | z
     ·exact .inr z
     ·exact .inl (List.mem_of_mem_drop z)
   refine ⟨by rw [List.length_append,List.length_cons,List.length_take,List.length_drop]; omega,fun x hx => ?_,fun x hx => ?_⟩
   ·rcases hin x hx with z | rfl
    ·exact t0.row x z
    ·exact Nat.zero_le _
   ·rcases hin x hx with z | rfl
    ·exact t0.sgn x z
    ·intro c hc; cases hc
  generalize upd3 H a (.lst (((ls.map mkZ).map D.str).take at0.toNat++.str (Str.ofString "")::((ls.map mkZ).map D.str).drop at0.toNat)) = H2 at hH
  iterate 1
   walk_at "l3"
   refine ifY rfl ?_
   walk_at "l3"
   refine ifD (fun z => absurd (z.symm.trans m0) (by decide)) fun _ => ?_
   refine g_nx3 (g_nx ?_)
  walk_at "l3"
  exact g_fin (h H2 _ hH hT) Sub3.refl
 refine g_nx3 (g_nx ?_)
 walk_at "l3"
 refine ifY rfl ?_
 walk_at "l3"
 refine ifD (fun m0 => ?_) fun m0 => ?_
 ·walk_at "l3"
  refine g_popI ha u0 (by omega) (y:=.str (mkZ (ls[at0.toNat]'(by omega)))) (by rw [List.map_map,List.getElem?_map,List.getElem?_eq_getElem (by omega)]; rfl) ?_
  have hH:upd3 H a (.lst (((ls.map mkZ).map D.str).eraseIdx at0.toNat)) a = some (.lst (((ls.eraseIdx at0.toNat).map mkZ).map D.str)):=by
   rw [upd3_same]
   simp only [List.eraseIdx_eq_take_drop_succ,List.map_append,List.map_take,List.map_drop]
  have hT:Txr (ls.eraseIdx at0.toNat):=⟨Nat.le_trans (List.length_eraseIdx_le ls _) (by omega),fun x hx => t0.row x (List.mem_of_mem_eraseIdx hx),fun x hx => t0.sgn x (List.mem_of_mem_eraseIdx hx)⟩
  walk_at "l3"
  exact g_fin (h _ _ hH hT) Sub3.refl
 refine g_nx3 (g_nx ?_)
 walk_at "l3"
 exact g_fin (h H _ ha t0) Sub3.refl
inductive Conn (S:List Pt) (s:Pt):Pt→Prop
 | refl:Conn S s s
 | step {c n:Pt}:Conn S s c→n∈around4 c→n∈S→Conn S s n
noncomputable def lenL (H:Hp3) (a:Addr):Nat:=match H a with
 | some (.lst l) => l.length
 | _ => 0
noncomputable def lenD (H:Hp3) (a:Addr):Nat:=match H a with
 | some (.dic l) => l.length
 | _ => 0
structure Srch (ps:List Pt) (s:Pt) (ws rs:List Pt) (done:Pt→Prop):Prop where
 nd:rs.Nodup
 sub:∀ c∈rs,c = s∨c∈ps
 conn:∀ c∈rs,Conn ps s c
 st:s∈rs
 wsub:∀ c∈ws,c∈rs
 wl:ws.length≤rs.length
 cl:∀ c∈rs,c∉ws→done c→∀ n∈around4 c,n∈ps→n∈rs
theorem nodup_len:∀ {rs qs:List Pt},rs.Nodup→(∀ c∈rs,c∈qs)→rs.length≤qs.length
 | [],_,_,_ => Nat.zero_le _
 | r::rs,qs,h,hs => by
  have h1:=List.nodup_cons.mp h
  have hr:=hs r (by simp)
  have:rs.length≤(qs.erase r).length:=nodup_len h1.2 fun c hc => by
   have hne:c≠r:=fun z => h1.1 (z▸hc)
   exact (List.mem_erase_of_ne hne).mpr (hs c (by simp [hc]))
  rw [List.length_erase_of_mem hr] at this
  have:=List.length_pos_of_mem hr
  rw [List.length_cons]; omega
theorem Srch.len {ps:List Pt} {s:Pt} {ws rs:List Pt} {done:Pt→Prop} (h:Srch ps s ws rs done):rs.length≤ps.length + 1:=by
 have:=nodup_len (qs:=s::ps) h.nd fun c hc => by
  rcases h.sub c hc with z | z
  ·rw [z]; simp
  ·simp [z]
 simpa using this
theorem Srch.all {ps:List Pt} {s:Pt} {rs:List Pt} (h:Srch ps s [] rs fun _ => True) (c:Pt):c∈rs↔Conn ps s c:=by
 refine ⟨h.conn c,fun k => ?_⟩
 induction k with
 | refl => exact h.st
 | step _ h1 h2 ih => exact h.cl _ ih (by simp) trivial _ h1 h2
theorem Srch.grow {ps:List Pt} {s c n:Pt} {ws rs:List Pt} {done:Pt→Prop} (h:Srch ps s ws rs done) (hc:c∈rs) (hn:n∈around4 c) (hp:n∈ps) (hr:n∉rs):Srch ps s (ws++[n]) (rs++[n]) done:=by
 refine ⟨?_,?_,?_,?_,?_,by have:=h.wl; simp; omega,?_⟩
 ·rw [List.nodup_append]
  exact ⟨h.nd,by simp,fun a ha b hb => by rw [List.mem_singleton.mp hb]; exact fun z => hr (z▸ha)⟩
 ·intro d hd
  rcases List.mem_append.mp hd with hd | hd
  ·exact h.sub d hd
  ·rw [List.mem_singleton.mp hd]; exact .inr hp
 ·intro d hd
  rcases List.mem_append.mp hd with hd | hd
  ·exact h.conn d hd
  ·rw [List.mem_singleton.mp hd]; exact .step (h.conn c hc) hn hp
 ·exact List.mem_append_left _ h.st
 ·intro d hd
  rcases List.mem_append.mp hd with hd | hd
  ·exact List.mem_append_left _ (h.wsub d hd)
  ·exact List.mem_append_right _ hd
 ·intro d hd hw hdn m hm hmp
  rcases List.mem_append.mp hd with hd | hd
  ·exact List.mem_append_left _ (h.cl d hd (fun z => hw (List.mem_append_left _ z)) hdn m hm hmp)
  ·exact absurd (List.mem_append_right _ hd) hw
noncomputable def sp_reached_within:Sp3:=fun ds H Q => ∃ a x y,ds = [.ref a,.tup [.int x,.int y]]∧((match H a with
  | some (.lst xs) => (match ptsOf xs with
   | some ps => ps.length≤900∧∀ p rs,H p = none→(∀ c,c∈rs↔Conn ps (x,y) c)→Q (.ref p) (upd3 H p (.dic (tabP rs)))
   | none => False)
  | _ => False))
theorem u_reached_within {ps:List Pt} {a:Addr} {x y:Int} {H:Hp3} {Q:VK3} (ha:H a = some (.lst (ps.map prP))) (hl:ps.length≤900) (h:∀ p rs,H p = none→(∀ c,c∈rs↔Conn ps (x,y) c)→Q (.ref p) (upd3 H p (.dic (tabP rs)))):sp_reached_within [.ref a,.tup [.int x,.int y]] H Q:=by
 refine ⟨_,_,_,rfl,?_⟩
 simp only [ha,ptsOf_map]; exact ⟨hl,h⟩
theorem len_reached_within:∀ (ds:List D) (H:Hp3) (Q:VK3),sp_reached_within ds H Q→ds.length = P_reached_within.length:=by
 intro ds H Q h
 obtain ⟨_,_,_,rfl,_⟩:=h
 rfl
noncomputable def lp_reached_within_0:TS3:=fo3 (il3 (cb3 sp_around (cons3 (v3 5) nil3))) (gn3 6) (is3 (an3 (ts3 (o3 (r3inX false) (v3 6) (v3 2))) (ts3 (o3 (r3inX true) (v3 6) (v3 3)))) (sq3 (dp3 (v3 3) (v3 6) (c3 (.bl true)))
  (dr3 (m3 r3app (v3 4) (cons3 (v3 6) nil3)))) nx3)
noncomputable def lp_reached_within_1:TS3:=wh3 (ts3 (o3 i3gt (cb3 r3len (cons3 (v3 4) nil3)) (c3 (.int 0)))) (sq3 (st3 5 (m3 r3pop (v3 4) nil3))
  lp_reached_within_0)
noncomputable def t_reached_within:TS3:=(sq3 (st3 2 (cb3 r3dict (cons3 (cp3 (il3 (v3 0)) (gn3 0) yes3 (tp3 (cons3 (v3 0) (cons3 (c3 (.bl true)) nil3))) ["cell"] []) nil3)))
  (sq3 (st3 3 (dd3 (v3 1) (c3 (.bl true))))
  (sq3 (st3 4 (ls3 (cons3 (v3 1) nil3)))
  (sq3 lp_reached_within_1
  (rt3 (v3 3))))))
theorem rd_reached_within:∀ (ds:List D) (H:Hp3) (Q:VK3),sp_reached_within ds H Q→t_reached_within (fin3 Q) (start3 N_reached_within ds) H:=by
 intro ds H Q h
 obtain ⟨a,x,y,rfl,h⟩:=h
 split at h
 case h_2 => exact h.elim
 rename_i xs ha
 split at h
 case h_2 => exact h.elim
 rename_i ps e
 have e':=ptsOf_inv e
 subst e'
 obtain ⟨hl,h⟩:=h
 simp only [t_reached_within,start3,N_reached_within,List.map_cons,List.map_nil,List.length_cons,List.length_nil,Nat.reduceAdd,Nat.reduceSub,Nat.zero_add,List.replicate,List.cons_append,List.nil_append]
 walk_at "l3"
 refine Cp.map (fun c => D.tup [prP c,.bl true]) (fun H2 hs => hs _ _ ha) (by omega) ?_ ?_
 ·intro i c hc R H2 hs hR
  unfold prP
  walk_at "l3"
  exact hR H2 Sub3.refl
 intro p1 hp1
 walk_at "l3"
 refine g_dict (ps:=ps) upd3_same (by omega) fun p2 hp2 => ?_
 have hfl:=addNs_len ps []
 have hfm:∀ c,c∈ps.foldl addN []↔c∈ps:=fun c => by rw [mem_addNs]; simp
 generalize ps.foldl addN [] = fs at hfl hfm
 walk_at "l3"
 intro p3 hp3
 walk_at "l3"
 refine g_ddk upd3_same ?_
 rw [upd3_upd3]
 walk_at "l3"
 intro p4 hp4
 walk_at "l3"
 have n23:p2≠p3:=ne3 upd3_same hp3
 have n34:p3≠p4:=ne3 upd3_same hp4
 have n24:p2≠p4:=fun z => by rw [← z,upd3_old upd3_same hp3] at hp4; cases hp4
 have n2:H p3 = none:=sub_back ((Sub3.fresh hp1).trans (Sub3.fresh hp2)) hp3
 have n3:H p4 = none:=sub_back (((Sub3.fresh hp1).trans (Sub3.fresh hp2)).trans (Sub3.fresh hp3)) hp4
 unfold lp_reached_within_1
 refine g_wh (fun σ H2 => ∃ ws rs cd nr,Sub3 H H2∧H2 p2 = some (.dic (tabP fs))∧H2 p3 = some (.dic (tabP rs))∧H2 p4 = some (.lst (ws.map prP))∧σ = [some (.ref a),some (.tup [.int x,.int y]),some (.ref p2),some (.ref p3),some (.ref p4),cd,nr]∧Srch ps (x,y) ws rs fun _ => True)
  (fun σ H2 => lenL H2 p4 + 2 * (ps.length + 1 - lenD H2 p3))
  ⟨[(x,y)],[(x,y)],none,none,(((Sub3.fresh hp1).trans (Sub3.fresh hp2)).trans (Sub3.fresh hp3)).trans (Sub3.fresh hp4),by walk_at "l3h",by walk_at "l3h",upd3_same,rfl,
   ⟨by simp,by simp,fun c hc => by rw [List.mem_singleton.mp hc]; exact .refl,by simp,by simp,by simp,fun c hc hw => absurd hc hw⟩⟩ ?_
 rintro σ H2 ⟨ws,rs,cd,nr,hs,h2,h3,h4,rfl,S⟩
 walk_at "l3"
 refine ifD (fun hpos => ?_) fun hpos => ?_
 ·rw [List.length_map] at hpos
  obtain ⟨wi,c,rfl⟩:∃ wi c,ws = wi++[c]:=by
   have hn:ws≠[]:=by intro z; rw [z] at hpos; simp at hpos
   exact ⟨ws.dropLast,ws.getLast hn,(List.dropLast_concat_getLast hn).symm⟩
  have hμ:lenL H2 p4 + 2 * (ps.length + 1 - lenD H2 p3) = wi.length + 1 + 2 * (ps.length + 1 - rs.length):=by
   unfold lenL lenD tabP at *
   rw [h4,h3]; simp
  rw [hμ]
  have hcr:c∈rs:=S.wsub c (by simp)
  walk_at "l3"
  refine g_pop h4 (y:=prP c) (by simp) ?_
  rw [show ((wi++[c]).map prP).dropLast = wi.map prP by simp]
  unfold prP
  walk_at "l3"
  unfold lp_reached_within_0
  walk_at "l3"
  refine u_around fun p5 hp5 => ?_
  have n45:H2 p5 = none:=by
   by_cases z:p5 = p4
   ·rw [z,upd3_same] at hp5; cases hp5
   ·rw [upd3_ne z] at hp5; exact hp5
  have S0:Srch ps (x,y) wi rs fun d => d≠c:=⟨S.nd,S.sub,S.conn,S.st,fun d hd => S.wsub d (by simp [hd]),by have:=S.wl; simp at this; omega,fun d hd hw hne => S.cl d hd (fun z => by rcases List.mem_append.mp z with z | z; exact hw z; exact hne (List.mem_singleton.mp z)) trivial⟩
  have hs0:Sub3 H (upd3 (upd3 H2 p4 (.lst (wi.map prP))) p5 (.lst ((around4 c).map prP))):=fun b o hb => upd3_old (by rw [upd3_ne (ne3 hb n3)]; exact hs b o hb) hp5
  have q2:(upd3 H2 p4 (.lst (wi.map prP))) p2 = some (.dic (tabP fs)):=by rw [upd3_ne n24]; exact h2
  have q3:(upd3 H2 p4 (.lst (wi.map prP))) p3 = some (.dic (tabP rs)):=by rw [upd3_ne n34]; exact h3
  walk_at "l3"
  refine Lp.by (fun j σ H3 => ∃ ws2 rs2 nr,Sub3 H H3∧H3 p2 = some (.dic (tabP fs))∧H3 p3 = some (.dic (tabP rs2))∧H3 p4 = some (.lst (ws2.map prP))∧H3 p5 = some (.lst ((around4 c).map prP))∧σ = [some (.ref a),some (.tup [.int x,.int y]),some (.ref p2),some (.ref p3),some (.ref p4),some (.tup [.int c.1,.int c.2]),nr] ∧
    (Srch ps (x,y) ws2 rs2 fun d => d≠c)∧c∈rs2∧ws2.length + 2 * (ps.length + 1 - rs2.length)≤wi.length + 2 * (ps.length + 1 - rs.length)∧∀ n∈(around4 c).take j,n∈ps→n∈rs2)
   ⟨wi,rs,nr,hs0,upd3_old q2 hp5,upd3_old q3 hp5,upd3_old upd3_same hp5,upd3_same,rfl,S0,hcr,Nat.le_refl _,by simp⟩ (fun j σ H3 _ z => by obtain ⟨_,_,_,_,_,_,_,z,_⟩:=z; exact z) ?_ ?_
  ·rintro j d σ H3 hd ⟨ws2,rs2,nr2,hs3,k2,k3,k4,k5,rfl,S2,hc2,hm2,ht2⟩
   rw [List.getElem?_map] at hd
   obtain ⟨n,hn,rfl⟩:=Option.map_eq_some_iff.mp hd
   have hna:n∈around4 c:=List.mem_of_getElem? hn
   have n35:p3≠p5:=fun z => by rw [z,k5] at k3; cases k3
   have n25:p2≠p5:=fun z => by rw [z,k5] at k2; cases k2
   have n45':p4≠p5:=fun z => by rw [z,upd3_same] at hp5; cases hp5
   have fin:∀ rs3:List Pt,(∀ m∈rs2,m∈rs3)→(n∈ps→n∈rs3)→∀ m∈(around4 c).take (j + 1),m∈ps→m∈rs3:=fun rs3 h1 h2 m hm hp => by
    rw [List.take_add_one,hn,List.mem_append] at hm
    rcases hm with hm | hm
    ·exact h1 m (ht2 m hm hp)
    ·have:m = n:=by simpa using hm
     rw [this] at hp ⊢; exact h2 hp
   unfold prP
   walk_at "l3"
   refine g_inD k2 ?_
   walk_at "l3"
   refine ifD (fun hf => ?_) fun hf => ?_
   ·have hnp:n∈ps:=(hfm n).mp hf
    walk_at "l3"
    refine g_ninD k3 ?_
    walk_at "l3"
    refine ifN (fun hnr => ?_) fun hnr => ?_
    ·have hlen:=S2.len
     have G:=S2.grow hc2 hna hnp hnr
     have hlen3:=G.len
     walk_at "l3"
     refine g_dpk k3 (by omega) ?_
     have ea:addN rs2 (n.1,n.2) = rs2++[n]:=by unfold addN; exact if_neg hnr
     rw [ea]
     walk_at "l3"
     refine g_mtk (ds:=ws2.map prP) (by rw [upd3_ne (Ne.symm n34)]; exact k4) ?_
     walk_at "l3"
     have hwl:=S2.wl
     refine g_app (ds:=ws2.map prP) (by rw [upd3_ne (Ne.symm n34)]; exact k4) (by rw [sizeLine_n,List.length_map]; omega) ?_
     walk_at "l3"
     refine ⟨ws2++[n],rs2++[n],_,fun b o hb => ?_,?_,?_,?_,?_,rfl,G,List.mem_append_left _ hc2,?_,fin _ (fun m hm => List.mem_append_left _ hm) (fun _ => by simp)⟩
     ·rw [upd3_ne (ne3 hb n3),upd3_ne (ne3 hb n2)]; exact hs3 b o hb
     ·rw [upd3_ne n24,upd3_ne n23]; exact k2
     ·rw [upd3_ne n34,upd3_same]
     ·rw [upd3_same,List.map_append]; rfl
     ·rw [upd3_ne (Ne.symm n45'),upd3_ne (Ne.symm n35)]; exact k5
     ·rw [List.length_append,List.length_append,List.length_singleton] at *
      omega
    ·walk_at "l3"
     exact ⟨ws2,rs2,_,hs3,k2,k3,k4,k5,rfl,S2,hc2,hm2,fin _ (fun m hm => hm) (fun _ => hnr)⟩
   ·refine ifX rfl ?_
    walk_at "l3"
    exact ⟨ws2,rs2,_,hs3,k2,k3,k4,k5,rfl,S2,hc2,hm2,fin _ (fun m hm => hm) (fun z => absurd ((hfm n).mpr z) hf)⟩
  ·rintro σ H3 ⟨ws2,rs2,nr2,hs3,k2,k3,k4,k5,rfl,S2,hc2,hm2,ht2⟩
   rw [List.length_map,List.take_length] at ht2
   walk_at "l3"
   refine ⟨⟨ws2,rs2,_,_,hs3,k2,k3,k4,rfl,S2.nd,S2.sub,S2.conn,S2.st,S2.wsub,S2.wl,fun d hd hw _ => ?_⟩,?_⟩
   ·by_cases hdc:d = c
    ·rw [hdc]; exact ht2
    ·exact S2.cl d hd hw hdc
   ·have:lenL H3 p4 + 2 * (ps.length + 1 - lenD H3 p3) = ws2.length + 2 * (ps.length + 1 - rs2.length):=by
     unfold lenL lenD tabP at *
     rw [k4,k3]; simp
    rw [this]; omega
 ·have hw:ws = []:=List.eq_nil_of_length_eq_zero (by rw [List.length_map] at hpos; omega)
  subst hw
  walk_at "l3"
  exact g_fin (h p3 rs n2 fun c => S.all c) (sub_upd hs h3)
noncomputable def addP (s p:Pt):Pt:=(p.1 + s.1,p.2 + s.2)
noncomputable def sp_moved:Sp3:=fun ds H Q => ∃ xs a b,ds = [.tup xs,.tup [.int a,.int b]]∧((match ptsOf xs with
  | some ps => ps.length≤1000∧Q (.tup ((ps.map (addP (a,b))).map prP)) H
  | none => False))
theorem u_moved {ps:List Pt} {a b:Int} {H:Hp3} {Q:VK3} (hl:ps.length≤1000) (h:Q (.tup ((ps.map (addP (a,b))).map prP)) H):sp_moved [.tup (ps.map prP),.tup [.int a,.int b]] H Q:=by
 refine ⟨_,_,_,rfl,?_⟩
 simp only [ptsOf_map]; exact ⟨hl,h⟩
theorem len_moved:∀ (ds:List D) (H:Hp3) (Q:VK3),sp_moved ds H Q→ds.length = P_moved.length:=by
 intro ds H Q h
 obtain ⟨_,_,_,rfl,_⟩:=h
 rfl
noncomputable def t_moved:TS3:=(rt3 (cb3 r3tuple (cons3 (cp3 (it3 (v3 0)) (gn3 0) yes3 (cb3 sp_added (cons3 (v3 0) (cons3 (v3 1) nil3))) ["cell"] [(1, "shift")]) nil3)))
theorem rd_moved:∀ (ds:List D) (H:Hp3) (Q:VK3),sp_moved ds H Q→t_moved (fin3 Q) (start3 N_moved ds) H:=by
 intro ds H Q h
 obtain ⟨xs,a,b,rfl,h⟩:=h
 split at h
 case h_2 => exact h.elim
 rename_i ps e
 have e':=ptsOf_inv e
 subst e'
 obtain ⟨hl,h⟩:=h
 simp only [t_moved,start3,N_moved,List.map_cons,List.map_nil,List.length_cons,List.length_nil,Nat.reduceAdd,Nat.reduceSub,Nat.zero_add,List.replicate,List.cons_append,List.nil_append]
 walk_at "l3"
 refine Cp.map (fun p => prP (addP (a,b) p)) (fun _ _ => trivial) hl ?_ ?_
 ·intro i p hp R H2 hs hR
  unfold prP
  walk_at "l3"
  exact hR H2 Sub3.refl
 ·intro p hp
  walk_at "l3"
  rw [List.map_map] at h
  exact g_fin h (Sub3.fresh hp)
noncomputable def mix (ns:List Int) (k:Int):Int:=(ns.getD k.toNat 0 + 7 * k * k + 11) * 48271 % 2147483647 * 69621 % 1000000007
noncomputable def sp_l_mix:Sp3:=fun ds H Q => ∃ xs k,ds = [.fl xs,.int k]∧((match intsOf xs with
  | some ns => (0≤k∧k≤1000)∧Q (.int (mix ns k)) H
  | none => False))
theorem u_l_mix {ns:List Int} {k:Int} {H:Hp3} {Q:VK3} (hk:0≤k) (h1:k≤1000) (h:Q (.int (mix ns k)) H):sp_l_mix [.fl (ns.map D.int),.int k] H Q:=by
 refine ⟨_,_,rfl,?_⟩
 simp only [intsOf_map]; exact ⟨⟨hk,h1⟩,h⟩
theorem len_l_mix:∀ (ds:List D) (H:Hp3) (Q:VK3),sp_l_mix ds H Q→ds.length = P_l_mix.length:=by
 intro ds H Q h
 obtain ⟨_,_,rfl,_⟩:=h
 rfl
noncomputable def t_l_mix:TS3:=(rt3 (o3 i3mod (o3 i3mul (o3 i3mod (o3 i3mul (o3 r3add (o3 r3add (cb3 sp_l_cell_at (cons3 (v3 0) (cons3 (v3 1) nil3))) (o3 i3mul (o3 i3mul (c3 (.int 7)) (v3 1)) (v3 1))) (c3 (.int 11))) (c3 (.int 48271))) (c3 (.int 2147483647))) (c3 (.int 69621))) (c3 (.int 1000000007))))
theorem rd_l_mix:∀ (ds:List D) (H:Hp3) (Q:VK3),sp_l_mix ds H Q→t_l_mix (fin3 Q) (start3 N_l_mix ds) H:=by
 intro ds H Q h
 obtain ⟨xs,k,rfl,h⟩:=h
 split at h
 case h_2 => exact h.elim
 rename_i ns e
 have e':=intsOf_inv e
 subst e'
 obtain ⟨⟨hk,hk1⟩,h⟩:=h
 simp only [t_l_mix,start3,N_l_mix,List.map_cons,List.map_nil,List.length_cons,List.length_nil,Nat.reduceAdd,Nat.reduceSub,Nat.zero_add,List.replicate,List.cons_append,List.nil_append]
 walk_at "l3"
 exact g_fin h Sub3.refl
noncomputable def sp_l_is_pair:Sp3:=fun ds H Q => ∃ w0_ w1_,ds = [.tup [.int w0_,.int w1_]]∧(Q (.bl true) H)
theorem u_l_is_pair {i j:Int} {H:Hp3} {Q:VK3} (h:Q (.bl true) H):sp_l_is_pair [.tup [.int i,.int j]] H Q:=⟨_,_,rfl,h⟩
local macro_rules | `(tactic| walk_at "l3c") => `(tactic| (with_reducible refine u_l_is_pair ?_))
theorem len_l_is_pair:∀ (ds:List D) (H:Hp3) (Q:VK3),sp_l_is_pair ds H Q→ds.length = P_l_is_pair.length:=by
 intro ds H Q h
 obtain ⟨_,_,rfl,_⟩:=h
 rfl
noncomputable def t_l_is_pair:TS3:=(rt3 (av3 (cb3 r3isi (cons3 (v3 0) (cons3 (c3 (.ty "tuple")) nil3))) (av3 (o3 r3eq (cb3 r3len (cons3 (v3 0) nil3)) (c3 (.int 2))) (av3 (cb3 sp_l_whole (cons3 (o3 r3ix (v3 0) (c3 (.int 0))) nil3)) (cb3 sp_l_whole (cons3 (o3 r3ix (v3 0) (c3 (.int 1))) nil3))))))
theorem rd_l_is_pair:∀ (ds:List D) (H:Hp3) (Q:VK3),sp_l_is_pair ds H Q→t_l_is_pair (fin3 Q) (start3 N_l_is_pair ds) H:=by
 intro ds H Q h
 obtain ⟨_,_,rfl,h⟩:=h
 simp only [t_l_is_pair,start3,N_l_is_pair,List.map_cons,List.map_nil,List.length_cons,List.length_nil,Nat.reduceAdd,Nat.reduceSub,Nat.zero_add,List.replicate,List.cons_append,List.nil_append]
 walk_at "l3"
 refine ifY rfl ?_
 walk_at "l3"
 refine ifY rfl ?_
 walk_at "l3"
 refine ifY rfl ?_
 walk_at "l3"
 exact g_fin h Sub3.refl
noncomputable def sp_l_reached:Sp3:=fun ds H Q => ∃ x y a,ds = [.tup [.int x,.int y],.ref a]∧(∃ ps:List Pt,(H a = some (.lst (ps.map prP))∧ps.length≤900)∧∀ p rs,H p = none→(∀ c,c∈rs↔Conn ps (x,y) c)→Q (.ref p) (upd3 H p (.dic (tabP rs))))
theorem u_l_reached {ps:List Pt} {a:Addr} {x y:Int} {H:Hp3} {Q:VK3} (ha:H a = some (.lst (ps.map prP))) (hl:ps.length≤900) (h:∀ p rs,H p = none→(∀ c,c∈rs↔Conn ps (x,y) c)→Q (.ref p) (upd3 H p (.dic (tabP rs)))):sp_l_reached [.tup [.int x,.int y],.ref a] H Q:=⟨_,_,_,rfl,⟨ps,⟨ha,hl⟩,h⟩⟩
theorem len_l_reached:∀ (ds:List D) (H:Hp3) (Q:VK3),sp_l_reached ds H Q→ds.length = P_l_reached.length:=by
 intro ds H Q h
 obtain ⟨_,_,_,rfl,_⟩:=h
 rfl
noncomputable def lp_l_reached_0:TS3:=fo3 (il3 (v3 1)) (gn3 3) (dp3 (v3 2) (v3 3) (c3 (.bl true)))
noncomputable def lp_l_reached_1:TS3:=fo3 (il3 (cb3 sp_l_beside (cons3 (m3 r3pop (v3 5) nil3) nil3))) (gn3 3) (is3 (an3 (ts3 (o3 (r3inX false) (v3 3) (v3 2))) (ts3 (o3 (r3inX true) (v3 3) (v3 4)))) (sq3 (dp3 (v3 4) (v3 3) (c3 (.bl true)))
  (dr3 (m3 r3app (v3 5) (cons3 (v3 3) nil3)))) nx3)
noncomputable def lp_l_reached_2:TS3:=wh3 (ts3 (o3 i3gt (cb3 r3len (cons3 (v3 5) nil3)) (c3 (.int 0)))) lp_l_reached_1
noncomputable def t_l_reached:TS3:=(sq3 (st3 2 dn3)
  (sq3 lp_l_reached_0
  (sq3 (st3 4 (dd3 (v3 0) (c3 (.bl true))))
  (sq3 (st3 5 (ls3 (cons3 (v3 0) nil3)))
  (sq3 lp_l_reached_2
  (rt3 (v3 4)))))))
theorem rd_l_reached:∀ (ds:List D) (H:Hp3) (Q:VK3),sp_l_reached ds H Q→t_l_reached (fin3 Q) (start3 N_l_reached ds) H:=by
 intro ds H Q h
 obtain ⟨x,y,a,rfl,h⟩:=h
 obtain ⟨ps,⟨ha,hl⟩,h⟩:=h
 simp only [t_l_reached,start3,N_l_reached,List.map_cons,List.map_nil,List.length_cons,List.length_nil,Nat.reduceAdd,Nat.reduceSub,Nat.zero_add,List.replicate,List.cons_append,List.nil_append]
 walk_at "l3"
 intro p2 hp2
 walk_at "l3"
 unfold lp_l_reached_0
 walk_at "l3"
 refine Lp.by (fun i σ H2 => H2 = upd3 H p2 (.dic (tabP ((ps.take i).foldl addN [])))∧∃ z,σ = [some (.tup [.int x,.int y]),some (.ref a),some (.ref p2),z,none,none]) ⟨rfl,_,rfl⟩ (fun i σ H2 _ z => by rw [z.1]; exact upd3_old ha hp2) ?_ ?_
 ·rintro i d σ H2 hd ⟨rfl,z,rfl⟩
  rw [List.getElem?_map] at hd
  obtain ⟨c,hc,rfl⟩:=Option.map_eq_some_iff.mp hd
  have hl2:=addNs_len (ps.take i) []
  have hi:=(List.getElem?_eq_some_iff.mp hc).1
  rw [List.length_take] at hl2
  unfold prP
  walk_at "l3"
  refine g_dpk upd3_same (by simp at hl2; omega) ?_
  rw [upd3_upd3]
  walk_at "l3"
  refine ⟨?_,_,rfl⟩
  rw [List.take_add_one,hc,Option.toList_some,List.foldl_append]; rfl
 rintro σ H2 ⟨rfl,z,rfl⟩
 rw [List.length_map,List.take_length]
 have hfl:=addNs_len ps []
 have hfm:∀ c,c∈ps.foldl addN []↔c∈ps:=fun c => by rw [mem_addNs]; simp
 generalize ps.foldl addN [] = fs at hfl hfm
 walk_at "l3"
 intro p3 hp3
 walk_at "l3"
 refine g_ddk upd3_same ?_
 rw [upd3_upd3]
 walk_at "l3"
 intro p4 hp4
 walk_at "l3"
 have n23:p2≠p3:=ne3 upd3_same hp3
 have n34:p3≠p4:=ne3 upd3_same hp4
 have n24:p2≠p4:=fun z => by rw [← z,upd3_old upd3_same hp3] at hp4; cases hp4
 have n2:H p3 = none:=sub_back (Sub3.fresh hp2) hp3
 have n3:H p4 = none:=sub_back ((Sub3.fresh hp2).trans (Sub3.fresh hp3)) hp4
 unfold lp_l_reached_2
 refine g_wh (fun σ H2 => ∃ ws rs nr,Sub3 H H2∧H2 p2 = some (.dic (tabP fs))∧H2 p3 = some (.dic (tabP rs))∧H2 p4 = some (.lst (ws.map prP))∧σ = [some (.tup [.int x,.int y]),some (.ref a),some (.ref p2),nr,some (.ref p3),some (.ref p4)]∧Srch ps (x,y) ws rs fun _ => True)
  (fun σ H2 => lenL H2 p4 + 2 * (ps.length + 1 - lenD H2 p3))
  ⟨[(x,y)],[(x,y)],_,((Sub3.fresh hp2).trans (Sub3.fresh hp3)).trans (Sub3.fresh hp4),by walk_at "l3h",by walk_at "l3h",upd3_same,rfl,
   ⟨by simp,by simp,fun c hc => by rw [List.mem_singleton.mp hc]; exact .refl,by simp,by simp,by simp,fun c hc hw => absurd hc hw⟩⟩ ?_
 rintro σ H2 ⟨ws,rs,nr,hs,h2,h3,h4,rfl,S⟩
 walk_at "l3"
 refine ifD (fun hpos => ?_) fun hpos => ?_
 ·rw [List.length_map] at hpos
  obtain ⟨wi,c,rfl⟩:∃ wi c,ws = wi++[c]:=by
   have hn:ws≠[]:=by intro z; rw [z] at hpos; simp at hpos
   exact ⟨ws.dropLast,ws.getLast hn,(List.dropLast_concat_getLast hn).symm⟩
  have hμ:lenL H2 p4 + 2 * (ps.length + 1 - lenD H2 p3) = wi.length + 1 + 2 * (ps.length + 1 - rs.length):=by
   unfold lenL lenD tabP at *
   rw [h4,h3]; simp
  rw [hμ]
  have hcr:c∈rs:=S.wsub c (by simp)
  unfold lp_l_reached_1
  walk_at "l3"
  refine g_pop h4 (y:=prP c) (by simp) ?_
  rw [show ((wi++[c]).map prP).dropLast = wi.map prP by simp]
  unfold prP
  walk_at "l3"
  refine u_l_beside fun p5 hp5 => ?_
  have eb:beside (c.1,c.2) = around4 c:=rfl
  rw [eb]
  have n45:H2 p5 = none:=by
   by_cases z:p5 = p4
   ·rw [z,upd3_same] at hp5; cases hp5
   ·rw [upd3_ne z] at hp5; exact hp5
  have S0:Srch ps (x,y) wi rs fun d => d≠c:=⟨S.nd,S.sub,S.conn,S.st,fun d hd => S.wsub d (by simp [hd]),by have:=S.wl; simp at this; omega,fun d hd hw hne => S.cl d hd (fun z => by rcases List.mem_append.mp z with z | z; exact hw z; exact hne (List.mem_singleton.mp z)) trivial⟩
  have hs0:Sub3 H (upd3 (upd3 H2 p4 (.lst (wi.map prP))) p5 (.lst ((around4 c).map prP))):=fun b o hb => upd3_old (by rw [upd3_ne (ne3 hb n3)]; exact hs b o hb) hp5
  have q2:(upd3 H2 p4 (.lst (wi.map prP))) p2 = some (.dic (tabP fs)):=by rw [upd3_ne n24]; exact h2
  have q3:(upd3 H2 p4 (.lst (wi.map prP))) p3 = some (.dic (tabP rs)):=by rw [upd3_ne n34]; exact h3
  walk_at "l3"
  refine Lp.by (fun j σ H3 => ∃ ws2 rs2 nr,Sub3 H H3∧H3 p2 = some (.dic (tabP fs))∧H3 p3 = some (.dic (tabP rs2))∧H3 p4 = some (.lst (ws2.map prP))∧H3 p5 = some (.lst ((around4 c).map prP))∧σ = [some (.tup [.int x,.int y]),some (.ref a),some (.ref p2),nr,some (.ref p3),some (.ref p4)] ∧
    (Srch ps (x,y) ws2 rs2 fun d => d≠c)∧c∈rs2∧ws2.length + 2 * (ps.length + 1 - rs2.length)≤wi.length + 2 * (ps.length + 1 - rs.length)∧∀ n∈(around4 c).take j,n∈ps→n∈rs2)
   ⟨wi,rs,nr,hs0,upd3_old q2 hp5,upd3_old q3 hp5,upd3_old upd3_same hp5,upd3_same,rfl,S0,hcr,Nat.le_refl _,by simp⟩ (fun j σ H3 _ z => by obtain ⟨_,_,_,_,_,_,_,z,_⟩:=z; exact z) ?_ ?_
  ·rintro j d σ H3 hd ⟨ws2,rs2,nr2,hs3,k2,k3,k4,k5,rfl,S2,hc2,hm2,ht2⟩
   rw [List.getElem?_map] at hd
   obtain ⟨n,hn,rfl⟩:=Option.map_eq_some_iff.mp hd
   have hna:n∈around4 c:=List.mem_of_getElem? hn
   have n35:p3≠p5:=fun z => by rw [z,k5] at k3; cases k3
   have n25:p2≠p5:=fun z => by rw [z,k5] at k2; cases k2
   have n45':p4≠p5:=fun z => by rw [z,upd3_same] at hp5; cases hp5
   have fin:∀ rs3:List Pt,(∀ m∈rs2,m∈rs3)→(n∈ps→n∈rs3)→∀ m∈(around4 c).take (j + 1),m∈ps→m∈rs3:=fun rs3 h1 h2 m hm hp => by
    rw [List.take_add_one,hn,List.mem_append] at hm
    rcases hm with hm | hm
    ·exact h1 m (ht2 m hm hp)
    ·have:m = n:=by simpa using hm
     rw [this] at hp ⊢; exact h2 hp
   unfold prP
   walk_at "l3"
   refine g_inD k2 ?_
   walk_at "l3"
   refine ifD (fun hf => ?_) fun hf => ?_
   ·have hnp:n∈ps:=(hfm n).mp hf
    walk_at "l3"
    refine g_ninD k3 ?_
    walk_at "l3"
    refine ifN (fun hnr => ?_) fun hnr => ?_
    ·have hlen:=S2.len
     have G:=S2.grow hc2 hna hnp hnr
     have hlen3:=G.len
     walk_at "l3"
     refine g_dpk k3 (by omega) ?_
     have ea:addN rs2 (n.1,n.2) = rs2++[n]:=by unfold addN; exact if_neg hnr
     rw [ea]
     walk_at "l3"
     refine g_mtk (ds:=ws2.map prP) (by rw [upd3_ne (Ne.symm n34)]; exact k4) ?_
     walk_at "l3"
     have hwl:=S2.wl
     refine g_app (ds:=ws2.map prP) (by rw [upd3_ne (Ne.symm n34)]; exact k4) (by rw [sizeLine_n,List.length_map]; omega) ?_
     walk_at "l3"
     refine ⟨ws2++[n],rs2++[n],_,fun b o hb => ?_,?_,?_,?_,?_,rfl,G,List.mem_append_left _ hc2,?_,fin _ (fun m hm => List.mem_append_left _ hm) (fun _ => by simp)⟩
     ·rw [upd3_ne (ne3 hb n3),upd3_ne (ne3 hb n2)]; exact hs3 b o hb
     ·rw [upd3_ne n24,upd3_ne n23]; exact k2
     ·rw [upd3_ne n34,upd3_same]
     ·rw [upd3_same,List.map_append]; rfl
     ·rw [upd3_ne (Ne.symm n45'),upd3_ne (Ne.symm n35)]; exact k5
     ·rw [List.length_append,List.length_append,List.length_singleton] at *
      omega
    ·walk_at "l3"
     exact ⟨ws2,rs2,_,hs3,k2,k3,k4,k5,rfl,S2,hc2,hm2,fin _ (fun m hm => hm) (fun _ => hnr)⟩
   ·refine ifX rfl ?_
    walk_at "l3"
    exact ⟨ws2,rs2,_,hs3,k2,k3,k4,k5,rfl,S2,hc2,hm2,fin _ (fun m hm => hm) (fun z => absurd ((hfm n).mpr z) hf)⟩
  ·rintro σ H3 ⟨ws2,rs2,nr2,hs3,k2,k3,k4,k5,rfl,S2,hc2,hm2,ht2⟩
   rw [List.length_map,List.take_length] at ht2
   walk_at "l3"
   refine ⟨⟨ws2,rs2,_,hs3,k2,k3,k4,rfl,S2.nd,S2.sub,S2.conn,S2.st,S2.wsub,S2.wl,fun d hd hw _ => ?_⟩,?_⟩
   ·by_cases hdc:d = c
    ·rw [hdc]; exact ht2
    ·exact S2.cl d hd hw hdc
   ·have:lenL H3 p4 + 2 * (ps.length + 1 - lenD H3 p3) = ws2.length + 2 * (ps.length + 1 - rs2.length):=by
     unfold lenL lenD tabP at *
     rw [k4,k3]; simp
    rw [this]; omega
 ·have hw:ws = []:=List.eq_nil_of_length_eq_zero (by rw [List.length_map] at hpos; omega)
  subst hw
  walk_at "l3"
  exact g_fin (h p3 rs n2 fun c => S.all c) (sub_upd hs h3)
noncomputable def cellsD (ls:List (List Nat)) (j:Nat):List Pt:=((List.range j).map fun d:Nat => rowC (ls.getD d []) ((ls.length:Int) - 1 - d) (ls.getD d []).length).flatten
theorem cellsD_succ (ls:List (List Nat)) (j:Nat):cellsD ls (j + 1) = cellsD ls j++rowC (ls.getD j []) ((ls.length:Int) - 1 - j) (ls.getD j []).length:=by
 unfold cellsD; rw [List.range_succ,List.map_append,List.flatten_append]; simp
theorem cellsD_len {ls:List (List Nat)} {w:Nat} (h:∀ l∈ls,l.length≤w):∀ m,(cellsD ls m).length≤m * w
 | 0 => by simp [cellsD]
 | m + 1 => by
  rw [cellsD_succ,List.length_append,Nat.succ_mul]
  have:=cellsD_len h m
  have h2:=rowC_len (ls.getD m []) ((ls.length:Int) - 1 - m) (ls.getD m []).length
  have h3:(ls.getD m []).length≤w:=by
   rw [List.getD_eq_getElem?_getD]
   cases e:ls[m]? with
   | none => simp
   | some l => exact h l (List.mem_of_getElem? e)
  omega
theorem cellsD_sort (ls:List (List Nat)):isort (cellsD ls ls.length) = isort (cellsR ls):=by
 have e:((List.range ls.length).map fun d:Nat => rowC (ls.getD d []) ((ls.length:Int) - 1 - d) (ls.getD d []).length) = ((List.range ls.length).map fun y:Nat => rowC (ls.reverse.getD y []) (y:Int) (ls.reverse.getD y []).length).reverse:=by
  refine List.ext_getElem (by simp) fun n h1 h2 => ?_
  have hn:n < ls.length:=by simpa using h1
  rw [List.getElem_reverse,List.getElem_map,List.getElem_map,List.getElem_range,List.getElem_range]
  have e1:ls.reverse.getD (((List.range ls.length).map fun y:Nat => rowC (ls.reverse.getD y []) (y:Int) (ls.reverse.getD y []).length).length - 1 - n) [] = ls.getD n []:=by
   rw [List.length_map,List.length_range,List.getD_eq_getElem?_getD,List.getD_eq_getElem?_getD,List.getElem?_reverse (by omega),show ls.length - 1 - (ls.length - 1 - n) = n by omega]
  rw [e1]
  congr 1
  rw [List.length_map,List.length_range]
  omega
 have pm:(cellsD ls ls.length).Perm (cellsR ls):=by
  unfold cellsD cellsR allC
  rw [e]
  exact List.Perm.flatten (List.reverse_perm _)
 exact sorted_unique ((isort_perm _).trans (pm.trans (isort_perm _).symm)) (isort_sorted _) (isort_sorted _)
noncomputable def sp_l_cells:Sp3:=fun ds H Q => ∃ z,ds = [.str z]∧(∃ ls:List (List Nat),z = mkZ (joinL ls)∧(Txr ls∧ls≠[])∧(¬ OkR ls→Q .non H)∧(OkR ls→∀ p,H p = none→Q (.ref p) (upd3 H p (.lst ((isort (cellsR ls)).map prP)))))
theorem u_l_cells {ls:List (List Nat)} {H:Hp3} {Q:VK3} (ht:Txr ls) (hn:ls≠[]) (h1:¬ OkR ls→Q .non H) (h2:OkR ls→∀ p,H p = none→Q (.ref p) (upd3 H p (.lst ((isort (cellsR ls)).map prP)))):sp_l_cells [.str (mkZ (joinL ls))] H Q:=⟨_,rfl,⟨ls,rfl,⟨ht,hn⟩,h1,h2⟩⟩
theorem len_l_cells:∀ (ds:List D) (H:Hp3) (Q:VK3),sp_l_cells ds H Q→ds.length = P_l_cells.length:=by
 intro ds H Q h
 obtain ⟨_,rfl,_⟩:=h
 rfl
noncomputable def lp_l_cells_0:TS3:=fo3 (ir1 (cb3 r3len (cons3 (o3 r3ix (v3 1) (v3 3)) nil3))) (gn3 4) (sq3 (is3 (ts3 (o3 r3ninZ (o3 r3ix (o3 r3ix (v3 1) (v3 3)) (v3 4)) (c3 (.str "#.")))) (rt3 (c3 .non)) nx3)
  (is3 (ts3 (o3 r3eq (o3 r3ix (o3 r3ix (v3 1) (v3 3)) (v3 4)) (c3 (.str "#")))) (dr3 (m3 r3app (v3 2) (cons3 (tp3 (cons3 (v3 4) (cons3 (o3 i3sub (o3 i3sub (cb3 r3len (cons3 (v3 1) nil3)) (c3 (.int 1))) (v3 3)) nil3))) nil3))) nx3))
noncomputable def lp_l_cells_1:TS3:=fo3 (ir1 (cb3 r3len (cons3 (v3 1) nil3))) (gn3 3) (sq3 (is3 (or3 (ts3 (o3 r3eq (o3 r3ix (v3 1) (v3 3)) (c3 (.str "")))) (ts3 (o3 r3ne (cb3 r3len (cons3 (o3 r3ix (v3 1) (v3 3)) nil3)) (cb3 r3len (cons3 (o3 r3ix (v3 1) (c3 (.int 0))) nil3))))) (rt3 (c3 .non)) nx3)
  lp_l_cells_0)
noncomputable def t_l_cells:TS3:=(sq3 (st3 1 (mz3 r3split (v3 0) (cons3 (c3 (.str "/")) nil3)))
  (sq3 (st3 2 (ls3 nil3))
  (sq3 lp_l_cells_1
  (rt3 (cb3 sp_l_sorted (cons3 (v3 2) nil3))))))
theorem rd_l_cells:∀ (ds:List D) (H:Hp3) (Q:VK3),sp_l_cells ds H Q→t_l_cells (fin3 Q) (start3 N_l_cells ds) H:=by
 intro ds H Q h
 obtain ⟨z,rfl,h⟩:=h
 obtain ⟨ls,rfl,⟨ht,hn⟩,h1,h2⟩:=h
 have hsz:(joinL ls).length≤100 * 101:=Nat.le_trans (joinL_len (w:=6) ht.row) (Nat.le_trans (Nat.mul_le_mul_right _ ht.len) (by decide))
 have h47:∀ l∈ls,47∉l:=fun l hl z => (ht.sgn l hl 47 z).1 rfl
 have hlt:∀ l∈ls,∀ c∈l,c < 128:=fun l hl c hc => (ht.sgn l hl c hc).2
 obtain ⟨l0,r0,e0⟩:∃ l0 r0,ls = l0::r0:=by
  cases e:ls with
  | nil => exact absurd e hn
  | cons a b => exact ⟨a,b,rfl⟩
 have eh:ls.headD [] = l0:=by rw [e0]; rfl
 have hl0:=ht.row l0 (by rw [e0]; simp)
 have hz0:(mkZ l0).length≤sizeLine:=by show (mkZ l0).cps.size≤_; rw [mk_len]; exact Nat.le_of_lt (small1000' (by omega))
 have elen0:(((mkZ l0).length:Nat):Int) = l0.length:=by show (((mkZ l0).cps.size:Nat):Int) = _; rw [mk_len]
 have h6:=ht.len
 simp only [t_l_cells,start3,N_l_cells,List.map_cons,List.map_nil,List.length_cons,List.length_nil,Nat.reduceAdd,Nat.reduceSub,Nat.zero_add,List.replicate,List.cons_append,List.nil_append]
 walk_at "l3"
 refine g_split (c:=47) rfl (by rw [mk_len]; omega) (by decide) fun p1 hp1 => ?_
 rw [split_join hn h47]
 have i0:((ls.map mkZ).map D.str)[0]? = some (.str (mkZ l0)):=by rw [e0]; rfl
 have a0:atI ((ls.map mkZ).map D.str) 0 = some (.str (mkZ l0)):=by rw [e0,List.map_map]; exact atI_map (f:=D.str∘mkZ) (xs:=l0::r0) (k:=0) (by decide) (by simp)
 have k1:upd3 H p1 (.lst ((ls.map mkZ).map D.str)) p1 = some (.lst ((ls.map mkZ).map D.str)):=upd3_same
 have sb1:Sub3 H (upd3 H p1 (.lst ((ls.map mkZ).map D.str))):=Sub3.fresh hp1
 generalize upd3 H p1 (.lst ((ls.map mkZ).map D.str)) = H1 at k1 sb1
 walk_at "l3"
 intro p2 hp2
 have n2:=sub_back sb1 hp2
 walk_at "l3"
 unfold lp_l_cells_1
 walk_at "l3"
 rw [List.length_map,List.length_map]
 rw [Int.toNat_natCast]
 refine Lp.rng (fun j σ H2 => (Sub3 H1 H2∧H2 p2 = some (.lst ((cellsD ls j).map prP))∧∀ l∈ls.take j,l≠[]∧l.length = (ls.headD []).length∧∀ c∈l,c = 35∨c = 46)∧∃ d x,σ = [some (.str (mkZ (joinL ls))),some (.ref p1),some (.ref p2),d,x]) ⟨⟨Sub3.fresh hp2,upd3_same,by simp⟩,_,_,rfl⟩ ?_ ?_
 ·rintro j σ H2 hj ⟨⟨sb2,k2,hall⟩,d,x,rfl⟩
  have k1':=sb2 _ _ k1
  obtain ⟨l,el⟩:∃ l,ls[j]? = some l:=⟨_,List.getElem?_eq_getElem hj⟩
  have hlm:l∈ls:=List.mem_of_getElem? el
  have al:atI ((ls.map mkZ).map D.str) (0 + (j:Int)) = some (.str (mkZ l)):=by
   rw [List.map_map,Int.zero_add,atI_map (by omega) (by rw [Int.toNat_natCast]; exact hj)]
   obtain ⟨_,e2⟩:=List.getElem?_eq_some_iff.mp el
   simp only [Int.toNat_natCast,e2]; rfl
  have hgd:ls.getD j [] = l:=by rw [List.getD_eq_getElem?_getD,el]; rfl
  have hl6:=ht.row l hlm
  have hzl:(mkZ l).length≤sizeLine:=by show (mkZ l).cps.size≤_; rw [mk_len]; exact Nat.le_of_lt (small1000' (by omega))
  have elen:(((mkZ l).length:Nat):Int) = l.length:=by show (((mkZ l).cps.size:Nat):Int) = _; rw [mk_len]
  have hcl:=cellsD_len ht.row j
  have hcs:=cellsD_succ ls j
  rw [hgd] at hcs
  have htk:ls.take (j + 1) = ls.take j++[l]:=by rw [List.take_add_one,el]; rfl
  walk_at "l3"
  refine g_ixL k1' al ?_
  walk_at "l3"
  refine g_eqM (bs:=[]) (hlt l hlm) (by simp) ?_
  walk_at "l3"
  refine ifD (fun hz => ?_) fun hz => ?_
  ·refine ifY rfl ?_
   walk_at "l3"
   exact g_fin (h1 fun o => (o l hlm).1 hz) (sb1.trans sb2)
  walk_at "l3"
  refine g_ixL k1' al ?_
  walk_at "l3"
  refine ⟨hzl,?_⟩
  walk_at "l3"
  refine g_ixL k1' a0 ?_
  walk_at "l3"
  refine ⟨hz0,?_⟩
  walk_at "l3"
  rw [elen,elen0]
  refine ifN (fun hz2 => ?_) fun hz2 => ?_
  ·walk_at "l3"
   exact g_fin (h1 fun o => hz2 (by have:=(o l hlm).2.1; rw [eh] at this; omega)) (sb1.trans sb2)
  refine g_nx3 (g_nx ?_)
  unfold lp_l_cells_0
  walk_at "l3"
  refine g_ixL k1' al ?_
  walk_at "l3"
  refine ⟨hzl,?_⟩
  walk_at "l3"
  rw [elen,Int.toNat_natCast]
  refine Lp.rng (fun i σ H3 => (Sub3 H1 H3∧H3 p2 = some (.lst ((cellsD ls j++rowC l ((ls.length:Int) - 1 - j) i).map prP))∧∀ c∈l.take i,c = 35∨c = 46)∧∃ x,σ = [some (.str (mkZ (joinL ls))),some (.ref p1),some (.ref p2),some (.int (0 + (j:Int))),x]) ⟨⟨sb2,by rw [show rowC l ((ls.length:Int) - 1 - j) 0 = [] from rfl,List.append_nil]; exact k2,by simp⟩,_,rfl⟩ ?_ ?_
  ·rintro i σ H3 hi ⟨⟨sb3,k3,hcc⟩,x,rfl⟩
   obtain ⟨c,ec⟩:∃ c,l[i]? = some c:=⟨_,List.getElem?_eq_getElem hi⟩
   have k1'':=sb3 _ _ k1
   have ac:atI (mkZ l).cps.toList (0 + (i:Int)) = some c:=by
    show atI l (0 + (i:Int)) = some c
    rw [Int.zero_add]
    unfold atI ixN
    rw [if_pos (by omega),if_pos (by omega),Option.bind_some,Int.toNat_natCast]; exact ec
   have hcl2:c < 128:=hlt l hlm c (List.mem_of_getElem? ec)
   have her:=rowC_succ l ((ls.length:Int) - 1 - j) i
   have hrc:=rowC_len l ((ls.length:Int) - 1 - j) i
   have hct:l.take (i + 1) = l.take i++[c]:=by rw [List.take_add_one,ec]; rfl
   have hj6:j * 6≤36:=by omega
   walk_at "l3"
   refine g_ixL k1'' al ?_
   walk_at "l3"
   refine g_ixZ hzl ac ?_
   walk_at "l3"
   refine g_ninZ ?_
   walk_at "l3"
   refine ifN (fun hz3 => ?_) fun hz3 => ?_
   ·walk_at "l3"
    exact g_fin (h1 fun o => hz3 (by rcases (o l hlm).2.2 c (List.mem_of_getElem? ec) with rfl | rfl <;> decide)) (sb1.trans sb3)
   have oc:c = 35∨c = 46:=by
    have:c∈[35,46]:=hz3
    simpa using this
   have hcc2:∀ x∈l.take (i + 1),x = 35∨x = 46:=fun x hx => by
    rw [hct] at hx
    rcases List.mem_append.mp hx with z | z
    ·exact hcc x z
    ·rw [List.mem_singleton.mp z]; exact oc
   walk_at "l3"
   refine g_ixL k1'' al ?_
   walk_at "l3"
   refine g_ixZ hzl ac ?_
   walk_at "l3"
   refine g_eqM (as:=[c]) (bs:=[35]) (by simpa using hcl2) (by simp) ?_
   walk_at "l3"
   refine ifD (fun hc => ?_) fun hc => ?_
   ·walk_at "l3"
    refine g_app k3 (by rw [sizeLine_n,List.length_map,List.length_append]; omega) ?_
    walk_at "l3"
    refine ⟨⟨sb3.upd hp2,?_,hcc2⟩,_,rfl⟩
    rw [upd3_same,her,if_pos (by rw [ec]; simpa using hc),← List.append_assoc,List.map_append (l₁:=cellsD _ _++_)]
    simp only [List.length_map,Int.zero_add]; rfl
   ·walk_at "l3"
    refine ⟨⟨sb3,?_,hcc2⟩,_,rfl⟩
    rw [her,if_neg (by rw [ec]; simpa using hc),List.append_nil]; exact k3
  ·rintro σ H3 ⟨⟨sb3,k3,hcc⟩,x,rfl⟩
   rw [List.take_length] at hcc
   walk_at "l3"
   refine ⟨⟨sb3,by rw [hcs]; exact k3,fun y hy => ?_⟩,_,_,rfl⟩
   rw [htk] at hy
   rcases List.mem_append.mp hy with z | z
   ·exact hall y z
   ·rw [List.mem_singleton.mp z]
    exact ⟨hz,by rw [eh]; omega,hcc⟩
 ·rintro σ H2 ⟨⟨sb2,k2,hall⟩,d,x,rfl⟩
  rw [List.take_length] at hall
  have hcl:=cellsD_len ht.row ls.length
  have h36:ls.length * 6≤36:=by omega
  walk_at "l3"
  refine u_l_sorted k2 (by omega) fun p3 hp3 => ?_
  rw [cellsD_sort]
  walk_at "l3"
  exact g_fin (h2 hall p3 (sub_back (sb1.trans sb2) hp3)) (sub_upd ((sb1.trans sb2).trans (Sub3.fresh hp3)) upd3_same)
open Classical in
noncomputable def cutOff (ps:List Pt):Option Pt:=ps.find? fun c => decide (¬ Conn ps (ps.headD (0,0)) c)
theorem cutOff_some {ps:List Pt} {i:Nat} {c:Pt} (hc:ps[i]? = some c) (h:∀ d∈ps.take i,Conn ps (ps.headD (0,0)) d) (hn:¬ Conn ps (ps.headD (0,0)) c):cutOff ps = some c:=by
 classical
 have hi:i < ps.length:=(List.getElem?_eq_some_iff.mp hc).1
 have e:ps = ps.take i++c::ps.drop (i + 1):=by
  have e1:ps.drop i = c::ps.drop (i + 1):=by
   rw [List.drop_eq_getElem_cons hi]
   rw [List.getElem?_eq_getElem hi] at hc
   cases hc; rfl
  rw [← e1,List.take_append_drop]
 unfold cutOff
 rw [List.find?_eq_some_iff_append]
 exact ⟨decide_eq_true hn,ps.take i,ps.drop (i + 1),e,fun d hd => by simpa using h d hd⟩
theorem cutOff_none {ps:List Pt} (h:∀ d∈ps,Conn ps (ps.headD (0,0)) d):cutOff ps = none:=by
 classical
 unfold cutOff
 rw [List.find?_eq_none]
 intro d hd
 simpa using h d hd
noncomputable def optD:Option Pt→D
 | some c => .tup [.int c.1,.int c.2]
 | none => .non
noncomputable def sp_first_cut_off:Sp3:=fun ds H Q => ∃ a,ds = [.ref a]∧((match H a with
  | some (.lst xs) => (match ptsOf xs with
   | some ps => (ps≠[]∧ps.length≤900)∧Q (optD (cutOff ps)) H
   | none => False)
  | _ => False))
theorem u_first_cut_off {ps:List Pt} {a:Addr} {H:Hp3} {Q:VK3} (ha:H a = some (.lst (ps.map prP))) (hn:ps≠[]) (hl:ps.length≤900) (h:Q (optD (cutOff ps)) H):sp_first_cut_off [.ref a] H Q:=by
 refine ⟨_,rfl,?_⟩
 simp only [ha,ptsOf_map]; exact ⟨⟨hn,hl⟩,h⟩
theorem len_first_cut_off:∀ (ds:List D) (H:Hp3) (Q:VK3),sp_first_cut_off ds H Q→ds.length = P_first_cut_off.length:=by
 intro ds H Q h
 obtain ⟨_,rfl,_⟩:=h
 rfl
noncomputable def lp_first_cut_off_0:TS3:=fo3 (il3 (v3 0)) (gn3 2) (is3 (ts3 (o3 (r3inX true) (v3 2) (v3 1))) (rt3 (v3 2)) nx3)
noncomputable def t_first_cut_off:TS3:=(sq3 (st3 1 (cb3 sp_reached_within (cons3 (v3 0) (cons3 (o3 r3ix (v3 0) (c3 (.int 0))) nil3))))
  (sq3 lp_first_cut_off_0
  (rt3 (c3 .non))))
theorem rd_first_cut_off:∀ (ds:List D) (H:Hp3) (Q:VK3),sp_first_cut_off ds H Q→t_first_cut_off (fin3 Q) (start3 N_first_cut_off ds) H:=by
 intro ds H Q h
 obtain ⟨a,rfl,h⟩:=h
 split at h
 case h_2 => exact h.elim
 rename_i xs ha
 split at h
 case h_2 => exact h.elim
 rename_i ps e
 have e':=ptsOf_inv e
 subst e'
 obtain ⟨⟨hn,hl⟩,h⟩:=h
 have h0:(0:Int).toNat < ps.length:=List.length_pos_iff.mpr hn
 have hh:ps[(0:Int).toNat]'h0 = ps.headD (0,0):=by
  cases ps with
  | nil => exact absurd rfl hn
  | cons p ps => rfl
 simp only [t_first_cut_off,start3,N_first_cut_off,List.map_cons,List.map_nil,List.length_cons,List.length_nil,Nat.reduceAdd,Nat.reduceSub,Nat.zero_add,List.replicate,List.cons_append,List.nil_append]
 walk_at "l3"
 refine g_ixL ha (atI_map (by decide) h0) ?_
 rw [hh]
 unfold prP
 walk_at "l3"
 refine u_reached_within ha hl fun p1 rs hp1 hrs => ?_
 walk_at "l3"
 unfold lp_first_cut_off_0
 walk_at "l3"
 refine Lp.by (fun i σ H2 => H2 = upd3 H p1 (.dic (tabP rs))∧(∃ c,σ = [some (.ref a),some (.ref p1),c])∧∀ d∈ps.take i,Conn ps (ps.headD (0,0)) d) ⟨rfl,⟨_,rfl⟩,by simp⟩ (fun i σ H2 _ z => by rw [z.1]; exact upd3_old ha hp1) ?_ ?_
 ·rintro i d σ H2 hd ⟨rfl,⟨c0,rfl⟩,hall⟩
  rw [List.getElem?_map] at hd
  obtain ⟨c,hc,rfl⟩:=Option.map_eq_some_iff.mp hd
  unfold prP
  walk_at "l3"
  refine g_ninD upd3_same ?_
  walk_at "l3"
  refine ifN (fun hnr => ?_) fun hnr => ?_
  ·walk_at "l3"
   have hn':¬ Conn ps (ps.headD (0,0)) c:=fun z => hnr ((hrs c).mpr z)
   rw [cutOff_some hc hall hn'] at h
   exact g_fin h (Sub3.fresh hp1)
  ·walk_at "l3"
   refine ⟨rfl,⟨_,rfl⟩,fun d hd => ?_⟩
   rw [List.take_add_one,hc,List.mem_append] at hd
   rcases hd with hd | hd
   ·exact hall d hd
   ·have:d = c:=by simpa using hd
    rw [this]; exact (hrs c).mp hnr
 ·rintro σ H2 ⟨rfl,⟨c0,rfl⟩,hall⟩
  rw [List.length_map,List.take_length] at hall
  walk_at "l3"
  rw [cutOff_none hall] at h
  exact g_fin h (Sub3.fresh hp1)
noncomputable def setl (ps:List Pt):List Pt:=ps.map (addP (-minL (ps.map Prod.fst),-minL (ps.map Prod.snd)))
noncomputable def sp_settled:Sp3:=fun ds H Q => ∃ xs,ds = [.tup xs]∧((match ptsOf xs with
  | some ps => (ps≠[]∧ps.length≤1000)∧Q (.tup ((setl ps).map prP)) H
  | none => False))
theorem u_settled {ps:List Pt} {H:Hp3} {Q:VK3} (hn:ps≠[]) (hl:ps.length≤1000) (h:Q (.tup ((setl ps).map prP)) H):sp_settled [.tup (ps.map prP)] H Q:=by
 refine ⟨_,rfl,?_⟩
 simp only [ptsOf_map]; exact ⟨⟨hn,hl⟩,h⟩
theorem len_settled:∀ (ds:List D) (H:Hp3) (Q:VK3),sp_settled ds H Q→ds.length = P_settled.length:=by
 intro ds H Q h
 obtain ⟨_,rfl,_⟩:=h
 rfl
noncomputable def t_settled:TS3:=(sq3 (st3 1 (cb3 r3min (cons3 (cp3 (it3 (v3 0)) (gn3 0) yes3 (o3 r3ix (v3 0) (c3 (.int 0))) ["cell"] []) nil3)))
  (sq3 (st3 2 (cb3 r3min (cons3 (cp3 (it3 (v3 0)) (gn3 0) yes3 (o3 r3ix (v3 0) (c3 (.int 1))) ["cell"] []) nil3)))
  (rt3 (cb3 sp_moved (cons3 (v3 0) (cons3 (tp3 (cons3 (u3 r3neg (v3 1)) (cons3 (u3 r3neg (v3 2)) nil3))) nil3))))))
theorem rd_settled:∀ (ds:List D) (H:Hp3) (Q:VK3),sp_settled ds H Q→t_settled (fin3 Q) (start3 N_settled ds) H:=by
 intro ds H Q h
 obtain ⟨xs,rfl,h⟩:=h
 split at h
 case h_2 => exact h.elim
 rename_i ps e
 have e':=ptsOf_inv e
 subst e'
 obtain ⟨⟨hn,hl⟩,h⟩:=h
 simp only [t_settled,start3,N_settled,List.map_cons,List.map_nil,List.length_cons,List.length_nil,Nat.reduceAdd,Nat.reduceSub,Nat.zero_add,List.replicate,List.cons_append,List.nil_append]
 walk_at "l3"
 refine Cp.map (fun p => D.int p.1) (fun _ _ => trivial) hl ?_ ?_
 ·intro i p hp R H2 hs hR
  unfold prP
  walk_at "l3"
  exact hR H2 Sub3.refl
 intro p1 hp1
 walk_at "l3"
 refine g_min (ns:=ps.map Prod.fst) (by rw [upd3_same,List.map_map]; rfl) (by simpa using hn) ?_
 walk_at "l3"
 refine Cp.map (fun p => D.int p.2) (fun _ _ => trivial) hl ?_ ?_
 ·intro i p hp R H2 hs hR
  unfold prP
  walk_at "l3"
  exact hR H2 Sub3.refl
 intro p2 hp2
 walk_at "l3"
 refine g_min (ns:=ps.map Prod.snd) (by rw [upd3_same,List.map_map]; rfl) (by simpa using hn) ?_
 walk_at "l3"
 refine u_moved hl ?_
 walk_at "l3"
 exact g_fin h ((Sub3.fresh hp1).trans (Sub3.fresh hp2))
noncomputable def sp_l_is_piece:Sp3:=fun ds H Q => ∃ xs y,ds = [.tup xs,y]∧(seqH H y = some xs∧(∃ ps:List Pt,xs = ps.map prP∧ps.length≤1000)∧Q (.bl true) H)
theorem u_l_is_piece {ps:List Pt} {y:D} {H:Hp3} {Q:VK3} (hy:seqH H y = some (ps.map prP)) (hl:ps.length≤1000) (h:Q (.bl true) H):sp_l_is_piece [.tup (ps.map prP),y] H Q:=⟨_,_,rfl,⟨hy,⟨ps,rfl,hl⟩,h⟩⟩
theorem len_l_is_piece:∀ (ds:List D) (H:Hp3) (Q:VK3),sp_l_is_piece ds H Q→ds.length = P_l_is_piece.length:=by
 intro ds H Q h
 obtain ⟨_,_,rfl,_⟩:=h
 rfl
noncomputable def lp_l_is_piece_0:TS3:=fo3 (ir1 (cb3 r3len (cons3 (v3 1) nil3))) (gn3 2) (is3 (or3 (no3 (ts3 (cb3 sp_l_is_pair (cons3 (o3 r3ix (v3 0) (v3 2)) nil3)))) (ts3 (o3 r3ne (o3 r3ix (v3 0) (v3 2)) (o3 r3ix (v3 1) (v3 2))))) (rt3 (c3 (.bl false))) nx3)
noncomputable def t_l_is_piece:TS3:=(sq3 (is3 (or3 (no3 (ts3 (cb3 r3isi (cons3 (v3 0) (cons3 (c3 (.ty "tuple")) nil3))))) (ts3 (o3 r3ne (cb3 r3len (cons3 (v3 0) nil3)) (cb3 r3len (cons3 (v3 1) nil3))))) (rt3 (c3 (.bl false))) nx3)
  (sq3 lp_l_is_piece_0
  (rt3 (c3 (.bl true)))))
theorem rd_l_is_piece:∀ (ds:List D) (H:Hp3) (Q:VK3),sp_l_is_piece ds H Q→t_l_is_piece (fin3 Q) (start3 N_l_is_piece ds) H:=by
 intro ds H Q h
 obtain ⟨xs,y,rfl,h⟩:=h
 obtain ⟨hy,⟨ps,rfl,hl⟩,h⟩:=h
 simp only [t_l_is_piece,start3,N_l_is_piece,List.map_cons,List.map_nil,List.length_cons,List.length_nil,Nat.reduceAdd,Nat.reduceSub,Nat.zero_add,List.replicate,List.cons_append,List.nil_append]
 walk_at "l3"
 refine ifX rfl ?_
 walk_at "l3"
 refine g_lenS hy ?_
 walk_at "l3"
 refine ifN (fun z => absurd rfl z) fun _ => ?_
 walk_at "l3"
 unfold lp_l_is_piece_0
 walk_at "l3"
 refine g_lenS hy ?_
 have el:(((ps.map prP).length:Nat):Int) = ps.length:=by rw [List.length_map]
 rw [el]
 refine g_rg1 ?_
 refine Lp.rng (fun i σ H2 => H2 = H∧∃ k,σ = [some (.tup (ps.map prP)),some y,k]) ⟨rfl,_,rfl⟩ ?_ ?_
 ·rintro i σ H2 hi ⟨rfl,k,rfl⟩
  have hi':((0:Int) + (i:Int)).toNat < ps.length:=by simp only [Int.toNat_natCast] at hi; omega
  walk_at "l3"
  refine g_ixT (atI_map (by omega) hi') ?_
  unfold prP
  walk_at "l3"
  refine ifX rfl ?_
  walk_at "l3"
  refine g_ixT (atI_map (by omega) hi') ?_
  walk_at "l3"
  refine g_ixS hy (atI_map (by omega) hi') ?_
  unfold prP
  walk_at "l3"
  refine ifN (fun z => absurd rfl z) fun _ => ?_
  walk_at "l3"
  exact ⟨rfl,_,rfl⟩
 ·rintro σ H2 ⟨rfl,k,rfl⟩
  walk_at "l3"
  exact g_fin h Sub3.refl
noncomputable def sp_l_rows:Sp3:=fun ds H Q => ∃ xs,ds = [.fl xs]∧((match intsOf xs with
  | some ns => ns.length≤63∧∀ p (ls:List (List Nat)),H p = none→(ls≠[]∧ls.length≤5∧∀ l∈ls,l.length≤5∧∀ c∈l,c = 35∨c = 46)→Q (.ref p) (upd3 H p (.lst ((ls.map mkZ).map D.str)))
  | none => False))
theorem u_l_rows {ns:List Int} {H:Hp3} {Q:VK3} (hl:ns.length≤63) (h:∀ p (ls:List (List Nat)),H p = none→(ls≠[]∧ls.length≤5∧∀ l∈ls,l.length≤5∧∀ c∈l,c = 35∨c = 46)→Q (.ref p) (upd3 H p (.lst ((ls.map mkZ).map D.str)))):sp_l_rows [.fl (ns.map D.int)] H Q:=by
 refine ⟨_,rfl,?_⟩
 simp only [intsOf_map]; exact ⟨hl,h⟩
theorem five_at {i:Int} (h0:0≤i) (h1:i < 5):∃ c,atI (Str.ofString "#.##.").cps.toList i = some c∧(c = 35∨c = 46):=by
 have:i = 0∨i = 1∨i = 2∨i = 3∨i = 4:=by omega
 rcases this with rfl | rfl | rfl | rfl | rfl <;> exact ⟨_,rfl,by decide⟩
theorem len_l_rows:∀ (ds:List D) (H:Hp3) (Q:VK3),sp_l_rows ds H Q→ds.length = P_l_rows.length:=by
 intro ds H Q h
 obtain ⟨_,rfl,_⟩:=h
 rfl
noncomputable def lp_l_rows_0:TS3:=fo3 (ir1 (v3 1)) (gn3 5) (st3 4 (o3 r3add (v3 4) (o3 r3ix (c3 (.str "#.##.")) (o3 i3mod (cb3 sp_l_mix (cons3 (v3 0) (cons3 (o3 r3add (o3 r3add (c3 (.int 5)) (o3 i3mul (c3 (.int 5)) (v3 3))) (v3 5)) nil3))) (o3 r3add (c3 (.int 3)) (o3 i3mod (cb3 sp_l_cell_at (cons3 (v3 0) (cons3 (c3 (.int 3)) nil3))) (c3 (.int 3))))))))
noncomputable def lp_l_rows_1:TS3:=fo3 (ir1 (o3 r3add (c3 (.int 1)) (o3 i3mod (cb3 sp_l_cell_at (cons3 (v3 0) (cons3 (c3 (.int 2)) nil3))) (c3 (.int 5))))) (gn3 3) (sq3 (st3 4 (c3 (.str "")))
  (sq3 lp_l_rows_0
  (dr3 (m3 r3app (v3 2) (cons3 (v3 4) nil3)))))
noncomputable def t_l_rows:TS3:=(sq3 (st3 1 (o3 r3add (c3 (.int 1)) (o3 i3mod (cb3 sp_l_cell_at (cons3 (v3 0) (cons3 (c3 (.int 1)) nil3))) (c3 (.int 5)))))
  (sq3 (st3 2 (ls3 nil3))
  (sq3 lp_l_rows_1
  (rt3 (v3 2)))))
theorem rd_l_rows:∀ (ds:List D) (H:Hp3) (Q:VK3),sp_l_rows ds H Q→t_l_rows (fin3 Q) (start3 N_l_rows ds) H:=by
 intro ds H Q h
 obtain ⟨xs,rfl,h⟩:=h
 split at h
 case h_2 => exact h.elim
 rename_i ns e
 have e':=intsOf_inv e
 subst e'
 obtain ⟨hl,h⟩:=h
 simp only [t_l_rows,start3,N_l_rows,List.map_cons,List.map_nil,List.length_cons,List.length_nil,Nat.reduceAdd,Nat.reduceSub,Nat.zero_add,List.replicate,List.cons_append,List.nil_append]
 walk_at "l3"
 have w0:0≤ns.getD (Int.toNat 1) 0 % 5:=Int.emod_nonneg _ (by omega)
 have w1:ns.getD (Int.toNat 1) 0 % 5 < 5:=Int.emod_lt_of_pos _ (by omega)
 generalize ns.getD (Int.toNat 1) 0 % 5 = w at w0 w1
 walk_at "l3"
 intro p hp
 walk_at "l3"
 unfold lp_l_rows_1
 walk_at "l3"
 have v0:0≤ns.getD (Int.toNat 2) 0 % 5:=Int.emod_nonneg _ (by omega)
 have v1:ns.getD (Int.toNat 2) 0 % 5 < 5:=Int.emod_lt_of_pos _ (by omega)
 generalize ns.getD (Int.toNat 2) 0 % 5 = v at v0 v1
 refine Lp.rng (fun i σ H2 => ∃ ls:List (List Nat),(ls.length = i∧Sub3 H H2∧∀ l∈ls,l.length≤5∧∀ c∈l,c = 35∨c = 46)∧H2 p = some (.lst ((ls.map mkZ).map D.str))∧∃ a b c,σ = [some (.fl (ns.map D.int)),some (.int (1 + w)),some (.ref p),a,b,c]) ⟨[],⟨rfl,Sub3.fresh hp,by simp⟩,upd3_same,_,_,_,rfl⟩ ?_ ?_
 ·rintro i σ H2 hi ⟨ls,⟨hll,hs,hg⟩,hH,a,b,c,rfl⟩
  have hi':(i:Int) < 5:=by omega
  walk_at "l3"
  unfold lp_l_rows_0
  walk_at "l3"
  refine Lp.rng (fun j σ H3 => (H3 = H2∧j≤5)∧∃ l:List Nat,(l.length = j∧∀ c∈l,c = 35∨c = 46)∧∃ c,σ = [some (.fl (ns.map D.int)),some (.int (1 + w)),some (.ref p),some (.int (0 + (i:Int))),some (.str (mkZ l)),c]) ⟨⟨rfl,by omega⟩,[],⟨rfl,by simp⟩,_,rfl⟩ ?_ ?_
  ·rintro j σ H3 hj ⟨⟨rfl,hj5⟩,l,⟨hl5,hc⟩,c,rfl⟩
   have hj':(j:Int) < 5:=by omega
   walk_at "l3"
   refine u_l_mix (by omega) (by omega) ?_
   walk_at "l3"
   generalize mix ns (5 + 5 * (0 + (i:Int)) + (0 + (j:Int))) = mm
   have q0:0≤ns.getD (Int.toNat 3) 0 % 3:=Int.emod_nonneg _ (by omega)
   have q1:ns.getD (Int.toNat 3) 0 % 3 < 3:=Int.emod_lt_of_pos _ (by omega)
   generalize ns.getD (Int.toNat 3) 0 % 3 = q at q0 q1
   walk_at "l3"
   have u0:0≤mm % (3 + q):=Int.emod_nonneg _ (by omega)
   have u1:mm % (3 + q) < 3 + q:=Int.emod_lt_of_pos _ (by omega)
   generalize mm % (3 + q) = u at u0 u1
   obtain ⟨x,ex,ox⟩:=five_at u0 (by omega)
   refine g_ixZ (by rw [sizeLine_n]; decide) ex ?_
   walk_at "l3"
   refine g_addZ (b:=[x]) (by simp; omega) ?_
   walk_at "l3"
   refine ⟨⟨rfl,by omega⟩,l++[x],⟨by rw [List.length_append,hl5]; rfl,fun c hc' => ?_⟩,_,rfl⟩
   rcases List.mem_append.mp hc' with z | z
   ·exact hc c z
   ·rw [List.mem_singleton.mp z]; exact ox
  rintro σ H3 ⟨⟨rfl,hj5⟩,l,⟨hl5,hc⟩,c,rfl⟩
  walk_at "l3"
  refine g_app hH (small1000' (by rw [List.length_map,List.length_map]; omega)) ?_
  walk_at "l3"
  refine ⟨ls++[l],⟨by rw [List.length_append,hll]; rfl,hs.upd hp,fun x hx => ?_⟩,?_,_,_,_,rfl⟩
  ·rcases List.mem_append.mp hx with z | z
   ·exact hg x z
   ·rw [List.mem_singleton.mp z]; exact ⟨by omega,hc⟩
  ·rw [upd3_same,List.map_append,List.map_append]; rfl
 rintro σ H2 ⟨ls,⟨hll,hs,hg⟩,hH,a,b,c,rfl⟩
 walk_at "l3"
 exact g_fin (h p ls hp ⟨fun z => by rw [z] at hll; simp at hll; omega,by omega,hg⟩) (sub_upd hs hH)
inductive Rz where
 | np | tm | ap (c:Pt) | ho (c:Pt) | ok
noncomputable def rzOf (cs:List Pt):Rz:=if cs = [] then .np else if 10 < cs.length then .tm else match cutOff cs with
 | some c => .ap c
 | none => (match cutOff (boxE cs) with
  | some c => .ho c
  | none => .ok)
section
variable {cs:List Pt}
theorem rz_np (h:cs = []):rzOf cs = .np:=if_pos h
theorem rz_tm (h:cs≠[]) (h1:10 < cs.length):rzOf cs = .tm:=by unfold rzOf; rw [if_neg h,if_pos h1]
theorem rz_ap {c:Pt} (h:cs≠[]) (h1:¬ 10 < cs.length) (h2:cutOff cs = some c):rzOf cs = .ap c:=by unfold rzOf; rw [if_neg h,if_neg h1,h2]
theorem rz_ho {c:Pt} (h:cs≠[]) (h1:¬ 10 < cs.length) (h2:cutOff cs = none) (h3:cutOff (boxE cs) = some c):rzOf cs = .ho c:=by unfold rzOf; rw [if_neg h,if_neg h1,h2]; show (match cutOff (boxE cs) with | some c => Rz.ho c | none => Rz.ok) = _; rw [h3]
theorem rz_ok (h:cs≠[]) (h1:¬ 10 < cs.length) (h2:cutOff cs = none) (h3:cutOff (boxE cs) = none):rzOf cs = .ok:=by unfold rzOf; rw [if_neg h,if_neg h1,h2]; show (match cutOff (boxE cs) with | some c => Rz.ho c | none => Rz.ok) = _; rw [h3]
end
theorem head_in {T:List Pt} (h:T≠[]):T.headD (0,0)∈T:=by
 cases T with
 | nil => exact absurd rfl h
 | cons a T => exact List.mem_cons_self
theorem conn_iv {S:List Pt} {s c:Pt} {φ:Pt→Int} (hφ:∀ c n,n∈around4 c→φ n≤φ c + 1) (hs:s∈S) (h:Conn S s c):∀ x,φ s≤x→x≤φ c→∃ d∈S,φ d = x:=by
 induction h with
 | refl => intro x h1 h2; exact ⟨s,hs,by omega⟩
 | @step c n _ hn hm ih =>
  intro x h1 h2
  by_cases z:x≤φ c
  ·exact ih x h1 z
  ·have:=hφ c n hn
   exact ⟨n,hm,by omega⟩
theorem conn_span {S:List Pt} {s c:Pt} {φ:Pt→Int} (hφ:∀ c n,n∈around4 c→φ n≤φ c + 1) (hs:s∈S) (h:Conn S s c):φ c - φ s + 1≤S.length:=by
 have iv:=conn_iv hφ hs h
 have key:∀ k:Nat,φ s + k≤φ c→∃ l:List Pt,l.Nodup∧(∀ d∈l,d∈S∧φ d≤φ s + k)∧l.length = k + 1:=by
  intro k
  induction k with
  | zero => exact fun _ => ⟨[s],by simp,fun d hd => by rw [List.mem_singleton.mp hd]; exact ⟨hs,by omega⟩,rfl⟩
  | succ k ih =>
   intro hk
   obtain ⟨l,l1,l2,l3⟩:=ih (by omega)
   obtain ⟨d,d1,d2⟩:=iv (φ s + k + 1) (by omega) (by omega)
   refine ⟨d::l,List.nodup_cons.mpr ⟨fun z => ?_,l1⟩,fun e he => ?_,by rw [List.length_cons,l3]⟩
   ·have:=(l2 d z).2; omega
   ·rcases List.mem_cons.mp he with rfl | he
    ·exact ⟨d1,by omega⟩
    ·have:=l2 e he; exact ⟨this.1,by omega⟩
 by_cases z:φ s≤φ c
 ·obtain ⟨l,l1,l2,l3⟩:=key (φ c - φ s).toNat (by omega)
  have:=nodup_len l1 fun d hd => (l2 d hd).1
  omega
 ·omega
theorem cut_all {ps:List Pt} (h:cutOff ps = none):∀ d∈ps,Conn ps (ps.headD (0,0)) d:=by
 classical
 unfold cutOff at h
 rw [List.find?_eq_none] at h
 intro d hd
 simpa using h d hd
theorem mem4 {c n:Pt}:n∈around4 c↔n = (c.1 + 1,c.2)∨n = (c.1,c.2 + 1)∨n = (c.1 - 1,c.2)∨n = (c.1,c.2 - 1):=by simp [around4]
theorem box_small {cs:List Pt} (hn:cs≠[]) (hl:cs.length≤10) (h:cutOff cs = none):hei cs * wid cs≤900:=by
 have al:=cut_all h
 have hs:=head_in hn
 generalize cs.headD (0,0) = s at al hs
 have x1:∀ d∈cs,d.1 - s.1 + 1≤cs.length:=fun d hd => conn_span (φ:=fun p => p.1) (fun c n hn => by rcases mem4.mp hn with rfl | rfl | rfl | rfl <;> dsimp only <;> omega) hs (al d hd)
 have x2:∀ d∈cs,-d.1 - -s.1 + 1≤cs.length:=fun d hd => conn_span (φ:=fun p => -p.1) (fun c n hn => by rcases mem4.mp hn with rfl | rfl | rfl | rfl <;> dsimp only <;> omega) hs (al d hd)
 have y1:∀ d∈cs,d.2 - s.2 + 1≤cs.length:=fun d hd => conn_span (φ:=fun p => p.2) (fun c n hn => by rcases mem4.mp hn with rfl | rfl | rfl | rfl <;> dsimp only <;> omega) hs (al d hd)
 have y2:∀ d∈cs,-d.2 - -s.2 + 1≤cs.length:=fun d hd => conn_span (φ:=fun p => -p.2) (fun c n hn => by rcases mem4.mp hn with rfl | rfl | rfl | rfl <;> dsimp only <;> omega) hs (al d hd)
 obtain ⟨a,ha,ea⟩:=List.mem_map.mp (minL_mem' (ns:=cs.map Prod.fst) (by simpa using hn))
 obtain ⟨b,hb,eb⟩:=List.mem_map.mp (maxL_mem' (ns:=cs.map Prod.fst) (by simpa using hn))
 obtain ⟨c,hc,ec⟩:=List.mem_map.mp (minL_mem' (ns:=cs.map Prod.snd) (by simpa using hn))
 obtain ⟨d,hd,ed⟩:=List.mem_map.mp (maxL_mem' (ns:=cs.map Prod.snd) (by simpa using hn))
 have w:wid cs≤30:=by
  unfold wid minX maxX
  have:=x1 b hb; have:=x2 a ha
  omega
 have e:hei cs≤30:=by
  unfold hei minY maxY
  have:=y1 d hd; have:=y2 c hc
  omega
 exact Nat.mul_le_mul e w
theorem mem_row {x0 y:Int} {n:Nat} {c:Pt}:c∈rowP x0 n y↔x0≤c.1∧c.1 < x0 + n∧c.2 = y:=by
 unfold rowP
 rw [List.mem_map]
 constructor
 ·rintro ⟨i,hi,rfl⟩
  rw [List.mem_range] at hi
  exact ⟨by dsimp only; omega,by dsimp only; omega,rfl⟩
 ·rintro ⟨h1,h2,h3⟩
  exact ⟨(c.1 - x0).toNat,List.mem_range.mpr (by omega),Prod.ext (by dsimp only; omega) h3.symm⟩
theorem mem_rect {x0 y0:Int} {n:Nat} {c:Pt}:∀ {m:Nat},c∈rect x0 n y0 m↔x0≤c.1∧c.1 < x0 + n∧y0≤c.2∧c.2 < y0 + m
 | 0 => by simp only [rect,List.not_mem_nil,false_iff]; omega
 | m + 1 => by
  rw [rect,List.mem_append,mem_rect,mem_row]
  omega
theorem box_ne {cs:List Pt} (hn:cs≠[]):boxE cs≠[]:=by
 have h1:∀ d∈cs,minX cs≤d.1:=fun d hd => minL_le' (List.mem_map.mpr ⟨d,hd,rfl⟩)
 have h2:∀ d∈cs,d.1≤maxX cs:=fun d hd => maxL_ge' (List.mem_map.mpr ⟨d,hd,rfl⟩)
 have h3:∀ d∈cs,minY cs≤d.2:=fun d hd => minL_le' (List.mem_map.mpr ⟨d,hd,rfl⟩)
 have h4:∀ d∈cs,d.2≤maxY cs:=fun d hd => maxL_ge' (List.mem_map.mpr ⟨d,hd,rfl⟩)
 have hs:=head_in hn
 have a1:=h1 _ hs; have a2:=h2 _ hs; have a3:=h3 _ hs; have a4:=h4 _ hs
 refine List.ne_nil_of_mem (a:=(minX cs - 1,minY cs - 1)) (List.mem_filter.mpr ⟨mem_rect.mpr ?_,?_⟩)
 ·unfold wid hei; dsimp only; omega
 ·have:((minX cs - 1,minY cs - 1):Pt)∉cs:=fun z => by have:=h1 _ z; dsimp only at this; omega
  simp [this]
theorem box_len {cs:List Pt} (h:hei cs * wid cs≤900):(boxE cs).length≤900:=by
 have e1:=List.length_filter_le (fun c => !decide (c∈cs)) (rect (minX cs - 1) (wid cs) (minY cs - 1) (hei cs))
 rw [rect_len] at e1
 unfold boxE offP
 omega
noncomputable def DueAt (H:Hp3) (p:Addr) (cs:List Pt):Prop:=(rzOf cs = .np∧H p = some (.lst [.str "NoPiece",.non]))∨(rzOf cs = .tm∧H p = some (.lst [.str "TooMany",.non]))∨(∃ c:Pt,rzOf cs = .ap c∧H p = some (.lst [.str "Apart",.tup [.int c.1,.int c.2]])) ∨
 (∃ c:Pt,rzOf cs = .ho c∧H p = some (.lst [.str "Hole",.tup [.int c.1,.int c.2]]))∨∃ q,rzOf cs = .ok∧H p = some (.lst [.str "made",.ref q])∧H q = some (.lst ((setl cs).map prP))
noncomputable def sp_l_due:Sp3:=fun ds H Q => ∃ x,ds = [x]∧match x with
 | .non => ∀ p,H p = none→Q (.ref p) (upd3 H p (.lst [.str "NoDrawing",.non]))
 | .ref a => ∃ cs:List Pt,(H a = some (.lst (cs.map prP))∧cs.length < 64)∧∀ p H2,H p = none→Sub3 H H2→DueAt H2 p cs→Q (.ref p) H2
 | _ => False
theorem u_l_due {cs:List Pt} {a:Addr} {H:Hp3} {Q:VK3} (ha:H a = some (.lst (cs.map prP))) (hl:cs.length < 64) (h:∀ p H2,H p = none→Sub3 H H2→DueAt H2 p cs→Q (.ref p) H2):sp_l_due [.ref a] H Q:=⟨_,rfl,cs,⟨ha,hl⟩,h⟩
theorem u_l_due0 {H:Hp3} {Q:VK3} (h:∀ p,H p = none→Q (.ref p) (upd3 H p (.lst [.str "NoDrawing",.non]))):sp_l_due [.non] H Q:=⟨_,rfl,h⟩
theorem len_l_due:∀ (ds:List D) (H:Hp3) (Q:VK3),sp_l_due ds H Q→ds.length = P_l_due.length:=by
 intro ds H Q h
 obtain ⟨_,rfl,_⟩:=h
 rfl
noncomputable def lp_l_due_0:TS3:=fo3 (il3 (v3 0)) (gn3 2) (is3 (ts3 (o3 (r3inX true) (v3 2) (v3 1))) (rt3 (ls3 (cons3 (c3 (.str "Apart")) (cons3 (v3 2) nil3)))) nx3)
noncomputable def lp_l_due_1:TS3:=fo3 (il3 (v3 3)) (gn3 2) (is3 (ts3 (o3 (r3inX true) (v3 2) (v3 1))) (rt3 (ls3 (cons3 (c3 (.str "Hole")) (cons3 (v3 2) nil3)))) nx3)
noncomputable def t_l_due:TS3:=(sq3 (is3 (ts3 (o3 r3isN (v3 0) (c3 .non))) (rt3 (ls3 (cons3 (c3 (.str "NoDrawing")) (cons3 (c3 .non) nil3)))) nx3)
  (sq3 (is3 (ts3 (o3 r3eq (cb3 r3len (cons3 (v3 0) nil3)) (c3 (.int 0)))) (rt3 (ls3 (cons3 (c3 (.str "NoPiece")) (cons3 (c3 .non) nil3)))) nx3)
  (sq3 (is3 (ts3 (o3 i3gt (cb3 r3len (cons3 (v3 0) nil3)) (c3 (.int 10)))) (rt3 (ls3 (cons3 (c3 (.str "TooMany")) (cons3 (c3 .non) nil3)))) nx3)
  (sq3 (st3 1 (cb3 sp_l_reached (cons3 (o3 r3ix (v3 0) (c3 (.int 0))) (cons3 (v3 0) nil3))))
  (sq3 lp_l_due_0
  (sq3 (st3 3 (cb3 sp_l_empties (cons3 (v3 0) nil3)))
  (sq3 (st3 1 (cb3 sp_l_reached (cons3 (o3 r3ix (v3 3) (c3 (.int 0))) (cons3 (v3 3) nil3))))
  (sq3 lp_l_due_1
  (sq3 (st3 4 (cb3 r3min (cons3 (cp3 (il3 (v3 0)) (gn3 0) yes3 (o3 r3ix (v3 0) (c3 (.int 0))) ["_law_cell"] []) nil3)))
  (sq3 (st3 5 (cb3 r3min (cons3 (cp3 (il3 (v3 0)) (gn3 0) yes3 (o3 r3ix (v3 0) (c3 (.int 1))) ["_law_cell"] []) nil3)))
  (rt3 (ls3 (cons3 (c3 (.str "made")) (cons3 (cp3 (il3 (v3 0)) (gn3 0) yes3 (tp3 (cons3 (o3 i3sub (o3 r3ix (v3 0) (c3 (.int 0))) (v3 1)) (cons3 (o3 i3sub (o3 r3ix (v3 0) (c3 (.int 1))) (v3 2)) nil3))) ["_law_cell"] [(4, "_law_west"),(5, "_law_low")]) nil3))))))))))))))
theorem rd_l_due:∀ (ds:List D) (H:Hp3) (Q:VK3),sp_l_due ds H Q→t_l_due (fin3 Q) (start3 N_l_due ds) H:=by
 intro ds H Q h
 obtain ⟨x,rfl,h⟩:=h
 split at h
 case h_3 => exact h.elim
 ·simp only [t_l_due,start3,N_l_due,List.map_cons,List.map_nil,List.length_cons,List.length_nil,Nat.reduceAdd,Nat.reduceSub,Nat.zero_add,List.replicate,List.cons_append,List.nil_append]
  walk_at "l3"
  refine ifY rfl ?_
  walk_at "l3"
  intro p hp
  exact g_rt ⟨_,Sub3.refl,h p hp⟩
 rename_i p1
 obtain ⟨cs,⟨k1,hul⟩,h⟩:=h
 have sb:Sub3 H H:=Sub3.refl
 simp only [t_l_due,start3,N_l_due,List.map_cons,List.map_nil,List.length_cons,List.length_nil,Nat.reduceAdd,Nat.reduceSub,Nat.zero_add,List.replicate,List.cons_append,List.nil_append]
 walk_at "l3"
 refine ifX rfl ?_
 walk_at "l3"
 refine ifD (fun hz => ?_) fun hz => ?_
 ·rw [List.length_map] at hz
  walk_at "l3"
  intro p3 hp3
  refine g_rt ?_
  exact ⟨_,Sub3.refl,h p3 _ (sub_back sb hp3) (sb.trans (Sub3.fresh hp3)) (.inl ⟨rz_np (List.eq_nil_of_length_eq_zero (by omega)),upd3_same⟩)⟩
 rw [List.length_map] at hz
 have hn:cs≠[]:=fun z => hz (by rw [z]; rfl)
 walk_at "l3"
 refine ifD (fun ht => ?_) fun ht => ?_
 ·rw [List.length_map] at ht
  walk_at "l3"
  intro p3 hp3
  refine g_rt ?_
  exact ⟨_,Sub3.refl,h p3 _ (sub_back sb hp3) (sb.trans (Sub3.fresh hp3)) (.inr (.inl ⟨rz_tm hn (by omega),upd3_same⟩))⟩
 rw [List.length_map] at ht
 have ht':¬ 10 < cs.length:=by omega
 obtain ⟨H2,eH2⟩:∃ H2,H2 = H:=⟨_,rfl⟩
 rw [← eH2]
 rw [← eH2] at k1
 have sb:Sub3 H H2:=eH2▸Sub3.refl
 clear eH2
 have g0:∀ {T:List Pt},T≠[]→atI (T.map prP) 0 = some (.tup [.int (T.headD (0,0)).1,.int (T.headD (0,0)).2]):=fun {T} hT => by
  cases T with
  | nil => exact absurd rfl hT
  | cons c T => rw [atI_map (by decide) (by show 0 < _; simp)]; rfl
 walk_at "l3"
 refine g_ixL k1 (g0 hn) ?_
 walk_at "l3"
 refine u_l_reached k1 (by omega) fun p3 rs hp3 hrs => ?_
 have k1':upd3 H2 p3 (.dic (tabP rs)) p1 = some (.lst (cs.map prP)):=upd3_old k1 hp3
 have k3:upd3 H2 p3 (.dic (tabP rs)) p3 = some (.dic (tabP rs)):=upd3_same
 have sb3:Sub3 H (upd3 H2 p3 (.dic (tabP rs))):=sb.trans (Sub3.fresh hp3)
 generalize upd3 H2 p3 (.dic (tabP rs)) = H3 at k1' k3 sb3
 walk_at "l3"
 unfold lp_l_due_0
 walk_at "l3"
 refine Lp.by (fun i σ H4 => H4 = H3∧(∃ c,σ = [some (.ref p1),some (.ref p3),c,none,none,none])∧∀ d∈cs.take i,Conn cs (cs.headD (0,0)) d) ⟨rfl,⟨_,rfl⟩,by simp⟩ (fun i σ H4 _ z => by rw [z.1]; exact k1') ?_ ?_
 ·rintro i d σ H4 hd ⟨rfl,⟨c0,rfl⟩,hall⟩
  rw [List.getElem?_map] at hd
  obtain ⟨c,hc,rfl⟩:=Option.map_eq_some_iff.mp hd
  unfold prP
  walk_at "l3"
  refine g_ninD k3 ?_
  walk_at "l3"
  refine ifN (fun hnr => ?_) fun hnr => ?_
  ·have hn':¬ Conn cs (cs.headD (0,0)) c:=fun z => hnr ((hrs c).mpr z)
   walk_at "l3"
   intro p4 hp4
   refine g_rt ?_
   exact ⟨_,Sub3.refl,h p4 _ (sub_back sb3 hp4) (sb3.trans (Sub3.fresh hp4)) (.inr (.inr (.inl ⟨c,rz_ap hn ht' (cutOff_some hc hall hn'),upd3_same⟩)))⟩
  ·refine g_nx3 (g_nx ?_)
   refine ⟨rfl,⟨_,rfl⟩,fun d hd => ?_⟩
   rw [List.take_add_one,hc,List.mem_append] at hd
   rcases hd with hd | hd
   ·exact hall d hd
   ·have:d = c:=by simpa using hd
    rw [this]; exact (hrs c).mp hnr
 rintro σ H4 ⟨rfl,⟨c0,rfl⟩,hall⟩
 rw [List.length_map,List.take_length] at hall
 have hcut:cutOff cs = none:=cutOff_none hall
 have hb:=box_small hn (by omega) hcut
 clear hrs k3 hall
 walk_at "l3"
 refine u_l_empties k1' hn (by omega) hb fun p5 hp5 => ?_
 have k1'':upd3 H4 p5 (.lst ((boxE cs).map prP)) p1 = some (.lst (cs.map prP)):=upd3_old k1' hp5
 have k5:upd3 H4 p5 (.lst ((boxE cs).map prP)) p5 = some (.lst ((boxE cs).map prP)):=upd3_same
 have sb5:Sub3 H (upd3 H4 p5 (.lst ((boxE cs).map prP))):=sb3.trans (Sub3.fresh hp5)
 generalize upd3 H4 p5 (.lst ((boxE cs).map prP)) = H5 at k1'' k5 sb5
 walk_at "l3"
 refine g_ixL k5 (g0 (box_ne hn)) ?_
 walk_at "l3"
 refine u_l_reached k5 (box_len hb) fun p6 rs hp6 hrs => ?_
 have m1:upd3 H5 p6 (.dic (tabP rs)) p1 = some (.lst (cs.map prP)):=upd3_old k1'' hp6
 have m5:upd3 H5 p6 (.dic (tabP rs)) p5 = some (.lst ((boxE cs).map prP)):=upd3_old k5 hp6
 have m6:upd3 H5 p6 (.dic (tabP rs)) p6 = some (.dic (tabP rs)):=upd3_same
 have sb6:Sub3 H (upd3 H5 p6 (.dic (tabP rs))):=sb5.trans (Sub3.fresh hp6)
 generalize upd3 H5 p6 (.dic (tabP rs)) = H6 at m1 m5 m6 sb6
 walk_at "l3"
 unfold lp_l_due_1
 walk_at "l3"
 refine Lp.by (fun i σ H7 => H7 = H6∧(∃ c,σ = [some (.ref p1),some (.ref p6),c,some (.ref p5),none,none])∧∀ d∈(boxE cs).take i,Conn (boxE cs) ((boxE cs).headD (0,0)) d) ⟨rfl,⟨_,rfl⟩,by simp⟩ (fun i σ H7 _ z => by rw [z.1]; exact m5) ?_ ?_
 ·rintro i d σ H7 hd ⟨rfl,⟨c0,rfl⟩,hall⟩
  rw [List.getElem?_map] at hd
  obtain ⟨c,hc,rfl⟩:=Option.map_eq_some_iff.mp hd
  unfold prP
  walk_at "l3"
  refine g_ninD m6 ?_
  walk_at "l3"
  refine ifN (fun hnr => ?_) fun hnr => ?_
  ·have hn':¬ Conn (boxE cs) ((boxE cs).headD (0,0)) c:=fun z => hnr ((hrs c).mpr z)
   walk_at "l3"
   intro p4 hp4
   refine g_rt ?_
   exact ⟨_,Sub3.refl,h p4 _ (sub_back sb6 hp4) (sb6.trans (Sub3.fresh hp4)) (.inr (.inr (.inr (.inl ⟨c,rz_ho hn ht' hcut (cutOff_some hc hall hn'),upd3_same⟩))))⟩
  ·refine g_nx3 (g_nx ?_)
   refine ⟨rfl,⟨_,rfl⟩,fun d hd => ?_⟩
   rw [List.take_add_one,hc,List.mem_append] at hd
   rcases hd with hd | hd
   ·exact hall d hd
   ·have:d = c:=by simpa using hd
    rw [this]; exact (hrs c).mp hnr
 rintro σ H7 ⟨rfl,⟨c0,rfl⟩,hall⟩
 rw [List.length_map,List.take_length] at hall
 have hok:=rz_ok hn ht' hcut (cutOff_none hall)
 clear hall m5 m6 hrs k5
 walk_at "l3"
 refine Cp.map (E:=prP) (as:=cs) (fun p => D.int p.1) (fun H8 hs => hs _ _ m1) (by omega) ?_ ?_
 ·intro i p hp R H8 hs hR
  unfold prP
  walk_at "l3"
  exact hR H8 Sub3.refl
 intro p7 hp7
 walk_at "l3"
 refine g_min (ns:=cs.map Prod.fst) (by rw [upd3_same,List.map_map]; rfl) (by simpa using hn) ?_
 have sb7:Sub3 H (upd3 H7 p7 (.lst (cs.map fun p => D.int p.1))):=sb6.trans (Sub3.fresh hp7)
 have m7:upd3 H7 p7 (.lst (cs.map fun p => D.int p.1)) p1 = some (.lst (cs.map prP)):=upd3_old m1 hp7
 generalize upd3 H7 p7 (.lst (cs.map fun p => D.int p.1)) = H8 at sb7 m7
 walk_at "l3"
 refine Cp.map (E:=prP) (as:=cs) (fun p => D.int p.2) (fun H9 hs => hs _ _ m7) (by omega) ?_ ?_
 ·intro i p hp R H9 hs hR
  unfold prP
  walk_at "l3"
  exact hR H9 Sub3.refl
 intro p8 hp8
 walk_at "l3"
 refine g_min (ns:=cs.map Prod.snd) (by rw [upd3_same,List.map_map]; rfl) (by simpa using hn) ?_
 have sb8:Sub3 H (upd3 H8 p8 (.lst (cs.map fun p => D.int p.2))):=sb7.trans (Sub3.fresh hp8)
 have m8:upd3 H8 p8 (.lst (cs.map fun p => D.int p.2)) p1 = some (.lst (cs.map prP)):=upd3_old m7 hp8
 generalize upd3 H8 p8 (.lst (cs.map fun p => D.int p.2)) = H9 at sb8 m8
 walk_at "l3"
 refine Cp.mapP (addP (-minL (cs.map Prod.fst),-minL (cs.map Prod.snd))) (fun H10 hs => hs _ _ m8) (by omega) ?_ ?_
 ·intro i q hq R H10 hs hR
  unfold prP
  walk_at "l3"
  exact hR H10 Sub3.refl
 intro p9 hp9
 walk_at "l3"
 intro p10 hp10
 refine g_rt ?_
 exact ⟨_,Sub3.refl,h p10 _ (sub_back (sb8.trans (Sub3.fresh hp9)) hp10) ((sb8.trans (Sub3.fresh hp9)).trans (Sub3.fresh hp10)) (.inr (.inr (.inr (.inr ⟨p9,hok,upd3_same,upd3_old upd3_same hp10⟩))))⟩
noncomputable def sp_in_order:Sp3:=fun ds H Q => ∃ a,ds = [.ref a]∧((match H a with
  | some (.lst xs) => (match ptsOf xs with
   | some ps => ps.length < 64∧∀ p,H p = none→Q (.ref p) (upd3 H p (.lst ((isort ps).map prP)))
   | none => False)
  | _ => False))
theorem u_in_order {ps:List Pt} {a:Addr} {H:Hp3} {Q:VK3} (ha:H a = some (.lst (ps.map prP))) (hl:ps.length < 64) (h:∀ p,H p = none→Q (.ref p) (upd3 H p (.lst ((isort ps).map prP)))):sp_in_order [.ref a] H Q:=by
 refine ⟨_,rfl,?_⟩
 simp only [ha,ptsOf_map]; exact ⟨hl,h⟩
theorem len_in_order:∀ (ds:List D) (H:Hp3) (Q:VK3),sp_in_order ds H Q→ds.length = P_in_order.length:=by
 intro ds H Q h
 obtain ⟨_,rfl,_⟩:=h
 rfl
noncomputable def t_in_order:TS3:=(rt3 (so3 sp_rank_of (v3 0)))
theorem rd_in_order:∀ (ds:List D) (H:Hp3) (Q:VK3),sp_in_order ds H Q→t_in_order (fin3 Q) (start3 N_in_order ds) H:=by
 intro ds H Q h
 obtain ⟨a,rfl,h⟩:=h
 split at h
 case h_2 => exact h.elim
 rename_i xs ha
 split at h
 case h_2 => exact h.elim
 rename_i ps e
 have e':=ptsOf_inv e
 subst e'
 obtain ⟨hl,h⟩:=h
 simp only [t_in_order,start3,N_in_order,List.map_cons,List.map_nil,List.length_cons,List.length_nil,Nat.reduceAdd,Nat.reduceSub,Nat.zero_add,List.replicate,List.cons_append,List.nil_append]
 walk_at "l3"
 refine g_sok ha key_rank hl fun p hp => ?_
 exact g_fin (h p hp) Sub3.refl
noncomputable def ustep (acc:List Pt) (c:Pt):List Pt:=if acc.getLast? = some c then acc else acc++[c]
noncomputable def uniq (ps:List Pt):List Pt:=ps.foldl ustep []
theorem uniq_take {ps:List Pt} {i:Nat} {c:Pt} (h:ps[i]? = some c):uniq (ps.take (i + 1)) = ustep (uniq (ps.take i)) c:=by
 unfold uniq; rw [List.take_add_one,h,List.foldl_append]; rfl
theorem ustep_len (acc:List Pt) (c:Pt):(ustep acc c).length≤acc.length + 1:=by unfold ustep; split <;> simp
theorem foldl_ustep_len:∀ (ps acc:List Pt),(ps.foldl ustep acc).length≤acc.length + ps.length
 | [],acc => by simp
 | p::ps,acc => by
  rw [List.foldl_cons]
  have:=foldl_ustep_len ps (ustep acc p)
  have:=ustep_len acc p
  rw [List.length_cons]; omega
theorem uniq_len (ps:List Pt):(uniq ps).length≤ps.length:=by have:=foldl_ustep_len ps []; simpa [uniq] using this
theorem atI_getLast {acc:List Pt} {c:Pt} (h:acc.getLast? = some c):atI (acc.map prP) (-1) = some (prP c):=by
 have hn:acc≠[]:=by intro z; rw [z] at h; simp at h
 have hl:0 < acc.length:=List.length_pos_iff.mpr hn
 unfold atI ixN
 rw [if_neg (by omega),if_pos (by rw [List.length_map]; omega),Option.bind_some,List.length_map,show ((-1:Int) + (acc.length:Int)).toNat = acc.length - 1 by omega,List.getElem?_map,← List.getLast?_eq_getElem?,h]
 rfl
noncomputable def sp_unlike_in_order:Sp3:=fun ds H Q => ∃ a,ds = [.ref a]∧((match H a with
  | some (.lst xs) => (match ptsOf xs with
   | some ps => ps.length < 64∧∀ p,H p = none→Q (.ref p) (upd3 H p (.lst ((uniq (isort ps)).map prP)))
   | none => False)
  | _ => False))
theorem u_unlike_in_order {ps:List Pt} {a:Addr} {H:Hp3} {Q:VK3} (ha:H a = some (.lst (ps.map prP))) (hl:ps.length < 64) (h:∀ p,H p = none→Q (.ref p) (upd3 H p (.lst ((uniq (isort ps)).map prP)))):sp_unlike_in_order [.ref a] H Q:=by
 refine ⟨_,rfl,?_⟩
 simp only [ha,ptsOf_map]; exact ⟨hl,h⟩
theorem len_unlike_in_order:∀ (ds:List D) (H:Hp3) (Q:VK3),sp_unlike_in_order ds H Q→ds.length = P_unlike_in_order.length:=by
 intro ds H Q h
 obtain ⟨_,rfl,_⟩:=h
 rfl
noncomputable def lp_unlike_in_order_0:TS3:=fo3 (il3 (cb3 sp_in_order (cons3 (v3 0) nil3))) (gn3 2) (is3 (or3 (ts3 (o3 r3eq (cb3 r3len (cons3 (v3 1) nil3)) (c3 (.int 0)))) (ts3 (o3 r3ne (o3 r3ix (v3 1) (u3 r3neg (c3 (.int 1)))) (v3 2)))) (dr3 (m3 r3app (v3 1) (cons3 (v3 2) nil3))) nx3)
noncomputable def t_unlike_in_order:TS3:=(sq3 (st3 1 (ls3 nil3))
  (sq3 lp_unlike_in_order_0
  (rt3 (v3 1))))
theorem rd_unlike_in_order:∀ (ds:List D) (H:Hp3) (Q:VK3),sp_unlike_in_order ds H Q→t_unlike_in_order (fin3 Q) (start3 N_unlike_in_order ds) H:=by
 intro ds H Q h
 obtain ⟨a,rfl,h⟩:=h
 split at h
 case h_2 => exact h.elim
 rename_i xs ha
 split at h
 case h_2 => exact h.elim
 rename_i ps e
 have e':=ptsOf_inv e
 subst e'
 obtain ⟨hl,h⟩:=h
 simp only [t_unlike_in_order,start3,N_unlike_in_order,List.map_cons,List.map_nil,List.length_cons,List.length_nil,Nat.reduceAdd,Nat.reduceSub,Nat.zero_add,List.replicate,List.cons_append,List.nil_append]
 walk_at "l3"
 intro p1 hp1
 walk_at "l3"
 unfold lp_unlike_in_order_0
 walk_at "l3"
 refine u_in_order (ps:=ps) (by walk_at "l3h") hl fun p2 hp2 => ?_
 have hsl:(isort ps).length < 64:=by rw [isort_len]; exact hl
 generalize isort ps = qs at h hsl
 walk_at "l3"
 have n12:p1≠p2:=fun z => by rw [z,upd3_same] at hp2; cases hp2
 refine Lp.by (fun i σ H2 => Sub3 H H2∧H2 p2 = some (.lst (qs.map prP))∧H2 p1 = some (.lst ((uniq (qs.take i)).map prP))∧∃ c,σ = [some (.ref a),some (.ref p1),c])
  ⟨(Sub3.fresh hp1).trans (Sub3.fresh hp2),upd3_same,upd3_old upd3_same hp2,_,rfl⟩ (fun i σ H2 _ z => z.2.1) ?_ ?_
 ·rintro i d σ H2 hd ⟨hs,h2,h1,c0,rfl⟩
  rw [List.getElem?_map] at hd
  obtain ⟨c,hc,rfl⟩:=Option.map_eq_some_iff.mp hd
  have hi:i < qs.length:=(List.getElem?_eq_some_iff.mp hc).1
  have hul:(uniq (qs.take i)).length≤64:=by have:=uniq_len (qs.take i); rw [List.length_take] at this; omega
  rw [uniq_take hc]
  revert h1
  generalize uniq (qs.take i) = acc at hul
  intro h1
  have app:∀ D0:Ends3,acc.getLast?≠some c→(∀ H3,Sub3 H H3∧H3 p2 = some (.lst (qs.map prP))∧H3 p1 = some (.lst ((ustep acc c).map prP))→D0.nx [some (.ref a),some (.ref p1),some (prP c)] H3)→dr3 (m3 r3app (v3 1) (cons3 (v3 2) nil3)) D0 [some (.ref a),some (.ref p1),some (prP c)] H2:=fun D0 hne k => by
   walk_at "l3"
   refine g_app h1 (small1000' (by rw [List.length_map]; omega)) ?_
   refine k _ ⟨fun b o hb => ?_,?_,?_⟩
   ·rw [upd3_ne (ne3 hb hp1)]; exact hs b o hb
   ·rw [upd3_ne (Ne.symm n12)]; exact h2
   ·unfold ustep; rw [if_neg hne,upd3_same,List.map_append]; rfl
  walk_at "l3"
  refine ifD (fun hz => ?_) fun hz => ?_
  ·have hn:acc = []:=by rw [List.length_map] at hz; exact List.eq_nil_of_length_eq_zero (by omega)
   refine ifY rfl ?_
   refine app _ (by rw [hn]; simp) fun H3 z => ?_
   walk_at "l3"
   exact ⟨z.1,z.2.1,z.2.2,_,rfl⟩
  ·have hn:acc≠[]:=fun z => hz (by rw [z]; rfl)
   obtain ⟨e0,he0⟩:∃ e0,acc.getLast? = some e0:=by
    cases hg:acc.getLast? with
    | none => exact absurd (List.getLast?_eq_none_iff.mp hg) hn
    | some e0 => exact ⟨e0,rfl⟩
   walk_at "l3"
   refine g_ixL h1 (atI_getLast he0) ?_
   unfold prP
   walk_at "l3"
   refine ifN (fun hne => ?_) fun hne => ?_
   ·refine app _ (by rw [he0]; exact fun z => hne (by cases z; rfl)) fun H3 z => ?_
    walk_at "l3"
    exact ⟨z.1,z.2.1,z.2.2,_,rfl⟩
   ·walk_at "l3"
    refine ⟨hs,h2,?_,_,rfl⟩
    have ec:e0 = c:=hne
    unfold ustep
    rw [if_pos (by rw [he0,ec])]
    exact h1
 ·rintro σ H2 ⟨hs,h2,h1,c0,rfl⟩
  rw [List.length_map,List.take_length] at h1
  walk_at "l3"
  exact g_fin (h p1 hp1) (sub_upd hs h1)
noncomputable def sp_piece_of:SpE:=fun ds H Q E => ∃ a,ds = [.ref a]∧∃ ps:List Pt,(H a = some (.lst (ps.map prP))∧ps.length < 64)∧(rzOf (uniq (isort ps)) = .np→E ⟨"NoPiece",[]⟩ H)∧(rzOf (uniq (isort ps)) = .tm→E ⟨"TooMany",[]⟩ H) ∧
 (∀ c,rzOf (uniq (isort ps)) = .ap c→E ⟨"Apart",[("cell",.tup [.int c.1,.int c.2])]⟩ H)∧(∀ c,rzOf (uniq (isort ps)) = .ho c→E ⟨"Hole",[("cell",.tup [.int c.1,.int c.2])]⟩ H)∧(rzOf (uniq (isort ps)) = .ok→Q (.tup ((uniq (isort ps)).map prP)) H)
theorem u_piece_of {ps:List Pt} {a:Addr} {H:Hp3} {Q:VK3} {E:EK3} (ha:H a = some (.lst (ps.map prP))) (hl:ps.length < 64) (h1:rzOf (uniq (isort ps)) = .np→E ⟨"NoPiece",[]⟩ H) (h2:rzOf (uniq (isort ps)) = .tm→E ⟨"TooMany",[]⟩ H)
  (h3:∀ c,rzOf (uniq (isort ps)) = .ap c→E ⟨"Apart",[("cell",.tup [.int c.1,.int c.2])]⟩ H) (h4:∀ c,rzOf (uniq (isort ps)) = .ho c→E ⟨"Hole",[("cell",.tup [.int c.1,.int c.2])]⟩ H) (h5:rzOf (uniq (isort ps)) = .ok→Q (.tup ((uniq (isort ps)).map prP)) H):sp_piece_of [.ref a] H Q E :=
 ⟨_,rfl,ps,⟨ha,hl⟩,h1,h2,h3,h4,h5⟩
theorem len_piece_of:∀ (ds:List D) (H:Hp3) (Q:VK3) (E:EK3),sp_piece_of ds H Q E→ds.length = P_piece_of.length:=by
 intro ds H Q E h
 obtain ⟨_,rfl,_⟩:=h
 rfl
noncomputable def t_piece_of (E:EK3):TS3:=(sq3 (st3 1 (cb3 sp_unlike_in_order (cons3 (v3 0) nil3)))
  (sq3 (is3 (ts3 (o3 r3eq (cb3 r3len (cons3 (v3 1) nil3)) (c3 (.int 0)))) (rz3 E "NoPiece" (c3 (.str "there is no cell"))) nx3)
  (sq3 (is3 (ts3 (o3 i3gt (cb3 r3len (cons3 (v3 1) nil3)) (c3 (.int 10)))) (rz3 E "TooMany" (c3 (.str "there are more than ten unlike cells"))) nx3)
  (sq3 (st3 2 (cb3 sp_first_cut_off (cons3 (v3 1) nil3)))
  (sq3 (is3 (ts3 (o3 r3notN (v3 2) (c3 .non))) (rf3 E "Apart" "cell" (v3 2)) nx3)
  (sq3 (st3 3 (cb3 sp_first_cut_off (cons3 (cb3 sp_empty_in_box (cons3 (v3 1) nil3)) nil3)))
  (sq3 (is3 (ts3 (o3 r3notN (v3 3) (c3 .non))) (rf3 E "Hole" "cell" (v3 3)) nx3)
  (rt3 (cb3 r3tuple (cons3 (v3 1) nil3))))))))))
theorem rd_piece_of:∀ (ds:List D) (H:Hp3) (Q:VK3) (E:EK3),sp_piece_of ds H Q E→t_piece_of E (fin3 Q) (start3 N_piece_of ds) H:=by
 intro ds H Q E h
 obtain ⟨a,rfl,ps,⟨ha,hl⟩,h1,h2,h3,h4,h5⟩:=h
 simp only [t_piece_of,start3,N_piece_of,List.map_cons,List.map_nil,List.length_cons,List.length_nil,Nat.reduceAdd,Nat.reduceSub,Nat.zero_add,List.replicate,List.cons_append,List.nil_append]
 walk_at "l3"
 refine u_unlike_in_order ha hl fun p1 hp1 => ?_
 generalize uniq (isort ps) = cs at h1 h2 h3 h4 h5
 walk_at "l3"
 refine ifD (fun hz => ?_) fun hz => ?_
 ·rw [List.length_map] at hz
  walk_at "l3"
  exact ⟨H,Sub3.fresh hp1,h1 (rz_np (List.eq_nil_of_length_eq_zero (by omega)))⟩
 rw [List.length_map] at hz
 have hn:cs≠[]:=fun z => hz (by rw [z]; rfl)
 walk_at "l3"
 refine ifD (fun ht => ?_) fun ht => ?_
 ·rw [List.length_map] at ht
  walk_at "l3"
  exact ⟨H,Sub3.fresh hp1,h2 (rz_tm hn (by omega))⟩
 rw [List.length_map] at ht
 have ht':¬ 10 < cs.length:=by omega
 walk_at "l3"
 refine u_first_cut_off upd3_same hn (by omega) ?_
 cases hc:cutOff cs with
 | some c =>
  unfold optD
  walk_at "l3"
  refine ifY rfl ?_
  walk_at "l3"
  exact ⟨H,Sub3.fresh hp1,h3 c (rz_ap hn ht' hc)⟩
 | none =>
  unfold optD
  walk_at "l3"
  refine ifX rfl ?_
  walk_at "l3"
  have hb:=box_small hn (by omega) hc
  refine u_empty_in_box upd3_same hn (by omega) hb fun p2 hp2 => ?_
  walk_at "l3"
  refine u_first_cut_off upd3_same (box_ne hn) (box_len hb) ?_
  cases hc2:cutOff (boxE cs) with
  | some c =>
   unfold optD
   walk_at "l3"
   refine ifY rfl ?_
   walk_at "l3"
   exact ⟨H,(Sub3.fresh hp1).trans (Sub3.fresh hp2),h4 c (rz_ho hn ht' hc hc2)⟩
  | none =>
   unfold optD
   walk_at "l3"
   refine ifX rfl ?_
   walk_at "l3"
   exact g_fin (h5 (rz_ok hn ht' hc hc2)) ((Sub3.fresh hp1).trans (Sub3.fresh hp2))
theorem leP_refl (a:Pt):leP a a:=by unfold leP; rw [ltc_false]; omega
theorem foldl_uniq:∀ (ps acc:List Pt),ps.Pairwise leP→acc.Pairwise leP→acc.Nodup→(∀ a∈acc,∀ p∈ps,leP a p) →
  (ps.foldl ustep acc).Pairwise leP∧(ps.foldl ustep acc).Nodup∧∀ x,x∈ps.foldl ustep acc↔x∈acc∨x∈ps
 | [],acc,_,h2,h3,_ => ⟨h2,h3,fun x => by simp⟩
 | p::ps,acc,h1,h2,h3,h4 => by
  rw [List.foldl_cons]
  obtain ⟨hp,hps⟩:=List.pairwise_cons.mp h1
  by_cases e:acc.getLast? = some p
  ·rw [show ustep acc p = acc from if_pos e]
   obtain ⟨k1,k2,k3⟩:=foldl_uniq ps acc hps h2 h3 fun a ha q hq => h4 a ha q (List.mem_cons_of_mem _ hq)
   refine ⟨k1,k2,fun x => ?_⟩
   rw [k3,List.mem_cons]
   have hm:p∈acc:=List.mem_of_getLast? e
   constructor
   ·rintro (z | z)
    ·exact .inl z
    ·exact .inr (.inr z)
   ·rintro (z | z | z)
    ·exact .inl z
    ·exact .inl (z▸hm)
    ·exact .inr z
  ·rw [show ustep acc p = acc++[p] from if_neg e]
   have hn:p∉acc:=fun z => by
    rcases List.eq_nil_or_concat acc with hz | ⟨ys,l,rfl⟩
    ·rw [hz] at z; cases z
    ·rw [List.concat_eq_append] at z h2 h4 e
     have hlp:leP l p:=h4 l (by simp) p (by simp)
     have hpl:leP p l:=by
      rcases List.mem_append.mp z with z | z
      ·exact (List.pairwise_append.mp h2).2.2 p z l (by simp)
      ·rw [List.mem_singleton.mp z]; exact leP_refl l
     exact e (by rw [leP_antisymm hlp hpl]; simp)
   obtain ⟨k1,k2,k3⟩:=foldl_uniq ps (acc++[p]) hps
    (List.pairwise_append.mpr ⟨h2,by simp,fun a ha b hb => by rw [List.mem_singleton.mp hb]; exact h4 a ha p (by simp)⟩)
    (List.nodup_append.mpr ⟨h3,by simp,fun a ha b hb => by rw [List.mem_singleton.mp hb]; exact fun z => hn (z▸ha)⟩)
    fun a ha q hq => by
     rcases List.mem_append.mp ha with ha | ha
     ·exact h4 a ha q (List.mem_cons_of_mem _ hq)
     ·rw [List.mem_singleton.mp ha]; exact hp q hq
   refine ⟨k1,k2,fun x => ?_⟩
   rw [k3,List.mem_append,List.mem_singleton,List.mem_cons,or_assoc]
theorem uniq_isort {hs cs:List Pt} (nd:cs.Nodup) (hm:∀ x,x∈hs↔x∈cs):uniq (isort hs) = isort cs:=by
 obtain ⟨k1,k2,k3⟩:=foldl_uniq (isort hs) [] (isort_sorted hs) List.Pairwise.nil List.nodup_nil (fun a ha => by cases ha)
 have n2:(isort cs).Nodup:=(isort_perm cs).nodup_iff.mpr nd
 refine sorted_unique ((List.perm_ext_iff_of_nodup k2 n2).mpr fun x => ?_) k1 (isort_sorted cs)
 rw [k3,(isort_perm hs).mem_iff,(isort_perm cs).mem_iff,hm]
 simp
theorem rowC_nodup (l:List Nat) (y:Int) (n:Nat):(rowC l y n).Nodup:=by
 unfold rowC
 refine List.Pairwise.map _ (fun a b hab z => hab ?_) (List.nodup_range.filter _)
 have:=congrArg Prod.fst z
 dsimp only at this
 omega
theorem allC_nodup (rs:List (List Nat)):∀ m,(allC rs m).Nodup
 | 0 => by simp [allC]
 | m + 1 => by
  rw [allC_succ,List.nodup_append]
  refine ⟨allC_nodup rs m,rowC_nodup _ _ _,fun a ha b hb z => ?_⟩
  obtain ⟨y,hy,h1⟩:=mem_allC.mp ha
  have e1:=(mem_rowC.mp h1).1
  have e2:=(mem_rowC.mp hb).1
  rw [z,e2] at e1
  omega
theorem cells_uniq (ls:List (List Nat)):uniq (isort (cellsR ls)) = isort (cellsR ls):=uniq_isort (allC_nodup _ _) fun _ => Iff.rfl
theorem cells_few {ls:List (List Nat)} (t:Txr ls):(cellsR ls).length < 64:=by
 have h1:=allC_len (rs:=ls.reverse) (w:=6) (fun l hl => t.row l (List.mem_reverse.mp hl)) ls.length
 have h2:=t.len
 unfold cellsR
 omega
noncomputable def sp_read_drawing:SpE:=fun ds H Q E => ∃ ls:List (List Nat),ds = [.str (mkZ (joinL ls))]∧(Txr ls∧ls≠[])∧(¬ OkR ls→∀ H2,Sub3 H H2→E ⟨"NoDrawing",[]⟩ H2)∧(OkR ls→(rzOf (isort (cellsR ls)) = .np→∀ H2,Sub3 H H2→E ⟨"NoPiece",[]⟩ H2)∧(rzOf (isort (cellsR ls)) = .tm→∀ H2,Sub3 H H2→E ⟨"TooMany",[]⟩ H2) ∧
 (∀ c,rzOf (isort (cellsR ls)) = .ap c→∀ H2,Sub3 H H2→E ⟨"Apart",[("cell",.tup [.int c.1,.int c.2])]⟩ H2)∧(∀ c,rzOf (isort (cellsR ls)) = .ho c→∀ H2,Sub3 H H2→E ⟨"Hole",[("cell",.tup [.int c.1,.int c.2])]⟩ H2)∧(rzOf (isort (cellsR ls)) = .ok→Q (.tup ((setl (isort (cellsR ls))).map prP)) H))
theorem u_read_drawing {ls:List (List Nat)} {H:Hp3} {Q:VK3} {E:EK3} (ht:Txr ls) (hn:ls≠[]) (h1:¬ OkR ls→∀ H2,Sub3 H H2→E ⟨"NoDrawing",[]⟩ H2) (h2:OkR ls→(rzOf (isort (cellsR ls)) = .np→∀ H2,Sub3 H H2→E ⟨"NoPiece",[]⟩ H2)∧(rzOf (isort (cellsR ls)) = .tm→∀ H2,Sub3 H H2→E ⟨"TooMany",[]⟩ H2) ∧
 (∀ c,rzOf (isort (cellsR ls)) = .ap c→∀ H2,Sub3 H H2→E ⟨"Apart",[("cell",.tup [.int c.1,.int c.2])]⟩ H2)∧(∀ c,rzOf (isort (cellsR ls)) = .ho c→∀ H2,Sub3 H H2→E ⟨"Hole",[("cell",.tup [.int c.1,.int c.2])]⟩ H2)∧(rzOf (isort (cellsR ls)) = .ok→Q (.tup ((setl (isort (cellsR ls))).map prP)) H)):sp_read_drawing [.str (mkZ (joinL ls))] H Q E:=⟨ls,rfl,⟨ht,hn⟩,h1,h2⟩
theorem len_read_drawing:∀ (ds:List D) (H:Hp3) (Q:VK3) (E:EK3),sp_read_drawing ds H Q E→ds.length = P_read_drawing.length:=by
 intro ds H Q E h
 obtain ⟨_,rfl,_⟩:=h
 rfl
noncomputable def t_read_drawing (E:EK3):TS3:=(rt3 (cb3 sp_settled (cons3 (cbE sp_piece_of (cons3 (cb3 sp_cells_in (cons3 (cbE sp_rows_of (cons3 (v3 0) nil3) E) nil3)) nil3) E) nil3)))
theorem rd_read_drawing:∀ (ds:List D) (H:Hp3) (Q:VK3) (E:EK3),sp_read_drawing ds H Q E→t_read_drawing E (fin3 Q) (start3 N_read_drawing ds) H:=by
 intro ds H Q E h
 obtain ⟨ls,rfl,⟨ht,hn⟩,h1,h2⟩:=h
 simp only [t_read_drawing,start3,N_read_drawing,List.map_cons,List.map_nil,List.length_cons,List.length_nil,Nat.reduceAdd,Nat.reduceSub,Nat.zero_add,List.replicate,List.cons_append,List.nil_append]
 walk_at "l3"
 refine u_rows_of ht hn (fun o => h1 o _ Sub3.refl) fun o p1 hp1 => ?_
 obtain ⟨g1,g2,g3,g4,g5⟩:=h2 o
 have hr:=ht.rows hn o
 walk_at "l3"
 refine u_cells_in hr upd3_same fun p2 hp2 => ?_
 have hl:=cells_few ht
 have sb:=(Sub3.fresh (o:=.lst ((ls.map mkZ).map D.str)) hp1).trans (Sub3.fresh (o:=.lst ((cellsR ls).map prP)) hp2)
 walk_at "l3"
 have eu:=cells_uniq ls
 refine u_piece_of (ps:=cellsR ls) upd3_same hl (fun z => g1 (by rw [← eu]; exact z) _ sb) (fun z => g2 (by rw [← eu]; exact z) _ sb) (fun c z => g3 c (by rw [← eu]; exact z) _ sb) (fun c z => g4 c (by rw [← eu]; exact z) _ sb) fun z => ?_
 rw [eu] at z ⊢
 walk_at "l3"
 refine u_settled (fun e => by rw [rz_np e] at z; cases z) (by rw [isort_len]; omega) ?_
 walk_at "l3"
 exact g_fin (g5 z) sb
theorem g_neX {a b:Addr} {x:Str} {H:Hp3} {Q:VK3} (ha:H a = some (.lst [.str x])) (hb:H b = some (.lst [.str x])) (hx:PyData.strOk x = true) (q:Q (.bl false) H):r3ne (.ref a) (.ref b) H Q:=by
 (delta r3ne pyH; simp only [ha,hb,mapO,pyN,hx,if_true,Option.map_some,PyData.eqv,PyData.eqvAll,Bool.and_true,beq_self_eq_true,Bool.not_true]); exact q
theorem g_eqXs {x:Str} {H:Hp3} {Q:VK3} (hx:PyData.strOk x = true) (q:Q (.bl true) H):r3eq (.str x) (.str x) H Q:=by
 (delta r3eq pyH; simp only [pyN,hx,if_true,PyData.eqv,beq_self_eq_true]); exact q
noncomputable def sp_law:Sp3:=fun ds H Q => ∃ xs,ds = [.fl xs]∧((match intsOf xs with
  | some ns => ns.length≤63∧∀ H':Hp3,Q (.bl true) H'
  | none => False))
theorem begin_law {ns:List Int} (h:ns.length≤63):sp_law [.fl (ns.map D.int)] (fun _ => none) (fun d _ => d = .bl true):=by
 refine ⟨_,rfl,?_⟩
 simp only [intsOf_map]
 exact ⟨h,fun _ => trivial⟩
theorem Txr.one:Txr [[]]:=⟨by decide,by simp,by simp⟩
theorem Txr.some {ls:List (List Nat)} (t:Txr ls):∃ ls3,mkZ (joinL ls) = mkZ (joinL ls3)∧Txr ls3∧ls3≠[]:=by
 cases ls with
 | nil => exact ⟨[[]],rfl,Txr.one,by simp⟩
 | cons a b => exact ⟨_,rfl,t,by simp⟩
theorem len_law:∀ (ds:List D) (H:Hp3) (Q:VK3),sp_law ds H Q→ds.length = P_law.length:=by
 intro ds H Q h
 obtain ⟨_,rfl,_⟩:=h
 rfl
noncomputable def t_law:TS3:=(sq3 (st3 1 (cb3 sp_l_spoilt (cons3 (cb3 sp_l_rows (cons3 (v3 0) nil3)) (cons3 (o3 i3mod (cb3 sp_l_cell_at (cons3 (v3 0) (cons3 (c3 (.int 0)) nil3))) (c3 (.int 3))) (cons3 (cb3 sp_l_mix (cons3 (v3 0) (cons3 (c3 (.int 4)) nil3))) nil3)))))
  (sq3 (st3 2 (mz3 r3join (c3 (.str "/")) (cons3 (v3 1) nil3)))
  (sq3 (is3 (ts3 (o3 r3eq (o3 i3mod (o3 i3div (cb3 sp_l_cell_at (cons3 (v3 0) (cons3 (c3 (.int 0)) nil3))) (c3 (.int 3))) (c3 (.int 8))) (c3 (.int 5)))) (st3 2 (c3 (.str ""))) nx3)
  (sq3 (st3 3 (cb3 sp_l_due (cons3 (cb3 sp_l_cells (cons3 (v3 2) nil3)) nil3)))
  (sq3 (st3 4 (c3 .non))
  (sq3 (st3 5 (c3 .non))
  (sq3 (trA3 (sxS 5 (cbE sp_read_drawing (cons3 (v3 2) nil3))) ["NoPiece", "TooMany", "Apart", "Hole", "NoDrawing"] 6 (st3 4 (v3 6)))
  (sq3 (is3 (ts3 (o3 r3isN (v3 4) (c3 .non))) (rt3 (av3 (o3 r3eq (o3 r3ix (v3 3) (c3 (.int 0))) (c3 (.str "made"))) (cb3 sp_l_is_piece (cons3 (v3 5) (cons3 (o3 r3ix (v3 3) (c3 (.int 1))) nil3))))) nx3)
  (sq3 (is3 (ts3 (o3 r3ne (cb3 sp_l_kinds (cons3 (v3 4) nil3)) (ls3 (cons3 (o3 r3ix (v3 3) (c3 (.int 0))) nil3)))) (rt3 (c3 (.bl false))) nx3)
  (sq3 (is3 (ts3 (o3 r3isN (o3 r3ix (v3 3) (c3 (.int 1))) (c3 .non))) (rt3 (c3 (.bl true))) nx3)
  (rt3 (av3 (cb3 sp_l_is_pair (cons3 (xg3 ["Apart", "Hole"] "cell" (v3 4)) nil3)) (o3 r3eq (xg3 ["Apart", "Hole"] "cell" (v3 4)) (o3 r3ix (v3 3) (c3 (.int 1))))))))))))))))
theorem rd_law:∀ (ds:List D) (H:Hp3) (Q:VK3),sp_law ds H Q→t_law (fin3 Q) (start3 N_law ds) H:=by
 intro ds H Q h
 obtain ⟨xs,rfl,h⟩:=h
 split at h
 case h_2 => exact h.elim
 rename_i ns e
 have e':=intsOf_inv e
 subst e'
 obtain ⟨hl,h⟩:=h
 simp only [t_law,start3,N_law,List.map_cons,List.map_nil,List.length_cons,List.length_nil,Nat.reduceAdd,Nat.reduceSub,Nat.zero_add,List.replicate,List.cons_append,List.nil_append]
 walk_at "l3"
 refine u_l_rows hl fun p1 ls hp1 hls => ?_
 walk_at "l3"
 refine u_l_mix (by omega) (by omega) ?_
 walk_at "l3"
 refine u_l_spoilt upd3_same hls fun H2 ls2 k1 t2 => ?_
 walk_at "l3"
 refine join_r k1 (by have:=t2.len; omega) t2.row (by decide) ?_
 walk_at "l3"
 refine ifD (fun z => ?_) fun z => ?_
 case' refine_1 =>
  walk_at "l3"
  have e3:Str.ofString "" = mkZ (joinL [[]]):=rfl
  rw [e3]
  have t3:=Txr.one
  have n3:([[]]:List (List Nat))≠[]:=by simp
  generalize ([[]]:List (List Nat)) = ls3 at t3 n3
 case' refine_2 =>
  obtain ⟨ls3,e3,t3,n3⟩:=t2.some
  rw [e3]
  refine g_nx3 (g_nx ?_)
 all_goals
  walk_at "l3"
  refine u_l_cells t3 n3 (fun o => ?_) fun o p2 hp2 => ?_
  ·walk_at "l3"
   refine u_l_due0 fun p3 hp3 => ?_
   walk_at "l3"
   refine u_read_drawing t3 n3 (fun _ H4 s4 => ⟨by simp,fun x hx => ?_⟩) fun o2 => absurd o2 o
   have hd:=s4 _ _ upd3_same
   have hd':upd3 H4 x (.exc "NoDrawing" []) p3 = _:=upd3_old hd hx
   walk_at "l3"
   refine ifX rfl ?_
   walk_at "l3"
   refine u_l_kinds 4 (by decide) (fs:=[]) upd3_same fun p4 hp4 => ?_
   walk_at "l3"
   refine g_ixL (upd3_old hd' hp4) (d:=.str "NoDrawing") rfl ?_
   walk_at "l3"
   intro p5 hp5
   walk_at "l3"
   refine g_neX (x := "NoDrawing") (upd3_old upd3_same hp5) upd3_same (by decide +kernel) ?_
   walk_at "l3"
   refine ifX rfl ?_
   walk_at "l3"
   refine g_ixL (upd3_old (upd3_old hd' hp4) hp5) (d:=.non) rfl ?_
   walk_at "l3"
   refine ifY rfl ?_
   walk_at "l3"
   exact g_fin (h _) Sub3.refl
  walk_at "l3"
  refine u_l_due (cs:=isort (cellsR ls3)) upd3_same (by rw [isort_len]; exact cells_few t3) fun p3 H3 hp3 s3 due => ?_
  have hfew:=cells_few t3
  have hil:=isort_len (cellsR ls3)
  walk_at "l3"
  rcases due with ⟨e,hd⟩ | ⟨e,hd⟩ | ⟨c,e,hd⟩ | ⟨c,e,hd⟩ | ⟨q,e,hd,hq⟩
  ·refine u_read_drawing t3 n3 (fun o2 => absurd o o2) fun _ => ⟨fun _ H4 s4 => ⟨by simp,fun x hx => ?_⟩,(fun z => by rw [e] at z; cases z),(fun c z => by rw [e] at z; cases z),(fun c z => by rw [e] at z; cases z),(fun z => by rw [e] at z; cases z)⟩
   replace hd:=s4 _ _ hd
   have hd':upd3 H4 x (.exc "NoPiece" []) p3 = _:=upd3_old hd hx
   walk_at "l3"
   refine ifX rfl ?_
   walk_at "l3"
   refine u_l_kinds 0 (by decide) (fs:=[]) upd3_same fun p4 hp4 => ?_
   walk_at "l3"
   refine g_ixL (upd3_old hd' hp4) (d:=.str "NoPiece") rfl ?_
   walk_at "l3"
   intro p5 hp5
   walk_at "l3"
   refine g_neX (x := "NoPiece") (upd3_old upd3_same hp5) upd3_same (by decide +kernel) ?_
   walk_at "l3"
   refine ifX rfl ?_
   walk_at "l3"
   refine g_ixL (upd3_old (upd3_old hd' hp4) hp5) (d:=.non) rfl ?_
   walk_at "l3"
   refine ifY rfl ?_
   walk_at "l3"
   exact g_fin (h _) Sub3.refl
  ·refine u_read_drawing t3 n3 (fun o2 => absurd o o2) fun _ => ⟨(fun z => by rw [e] at z; cases z),fun _ H4 s4 => ⟨by simp,fun x hx => ?_⟩,(fun c z => by rw [e] at z; cases z),(fun c z => by rw [e] at z; cases z),(fun z => by rw [e] at z; cases z)⟩
   replace hd:=s4 _ _ hd
   have hd':upd3 H4 x (.exc "TooMany" []) p3 = _:=upd3_old hd hx
   walk_at "l3"
   refine ifX rfl ?_
   walk_at "l3"
   refine u_l_kinds 1 (by decide) (fs:=[]) upd3_same fun p4 hp4 => ?_
   walk_at "l3"
   refine g_ixL (upd3_old hd' hp4) (d:=.str "TooMany") rfl ?_
   walk_at "l3"
   intro p5 hp5
   walk_at "l3"
   refine g_neX (x := "TooMany") (upd3_old upd3_same hp5) upd3_same (by decide +kernel) ?_
   walk_at "l3"
   refine ifX rfl ?_
   walk_at "l3"
   refine g_ixL (upd3_old (upd3_old hd' hp4) hp5) (d:=.non) rfl ?_
   walk_at "l3"
   refine ifY rfl ?_
   walk_at "l3"
   exact g_fin (h _) Sub3.refl
  ·refine u_read_drawing t3 n3 (fun o2 => absurd o o2) fun _ => ⟨(fun z => by rw [e] at z; cases z),(fun z => by rw [e] at z; cases z),fun c1 z1 H4 s4 => ⟨by simp,fun x hx => ?_⟩,(fun c z => by rw [e] at z; cases z),(fun z => by rw [e] at z; cases z)⟩
   replace hd:=s4 _ _ hd
   obtain rfl:c1 = c:=by rw [e] at z1; cases z1; rfl
   have hd':upd3 H4 x (.exc "Apart" [("cell",.tup [.int c1.1,.int c1.2])]) p3 = _:=upd3_old hd hx
   walk_at "l3"
   refine ifX rfl ?_
   walk_at "l3"
   refine u_l_kinds 2 (by decide) (fs:=[("cell",.tup [.int c1.1,.int c1.2])]) upd3_same fun p4 hp4 => ?_
   walk_at "l3"
   refine g_ixL (upd3_old hd' hp4) (d:=.str "Apart") rfl ?_
   walk_at "l3"
   intro p5 hp5
   walk_at "l3"
   refine g_neX (x := "Apart") (upd3_old upd3_same hp5) upd3_same (by decide +kernel) ?_
   walk_at "l3"
   refine ifX rfl ?_
   walk_at "l3"
   refine g_ixL (upd3_old (upd3_old hd' hp4) hp5) (d:=.tup [.int c1.1,.int c1.2]) rfl ?_
   walk_at "l3"
   refine ifX rfl ?_
   walk_at "l3"
   refine g_xgk (upd3_old (upd3_old upd3_same hp4) hp5) (d:=.tup [.int c1.1,.int c1.2]) rfl (by simp) ?_
   walk_at "l3"
   refine ifY rfl ?_
   walk_at "l3"
   refine g_xgk (upd3_old (upd3_old upd3_same hp4) hp5) (d:=.tup [.int c1.1,.int c1.2]) rfl (by simp) ?_
   walk_at "l3"
   refine g_ixL (upd3_old (upd3_old hd' hp4) hp5) (d:=.tup [.int c1.1,.int c1.2]) rfl ?_
   walk_at "l3"
   rw [decide_eq_true rfl]
   exact g_fin (h _) Sub3.refl
  ·refine u_read_drawing t3 n3 (fun o2 => absurd o o2) fun _ => ⟨(fun z => by rw [e] at z; cases z),(fun z => by rw [e] at z; cases z),(fun c z => by rw [e] at z; cases z),fun c1 z1 H4 s4 => ⟨by simp,fun x hx => ?_⟩,(fun z => by rw [e] at z; cases z)⟩
   replace hd:=s4 _ _ hd
   obtain rfl:c1 = c:=by rw [e] at z1; cases z1; rfl
   have hd':upd3 H4 x (.exc "Hole" [("cell",.tup [.int c1.1,.int c1.2])]) p3 = _:=upd3_old hd hx
   walk_at "l3"
   refine ifX rfl ?_
   walk_at "l3"
   refine u_l_kinds 3 (by decide) (fs:=[("cell",.tup [.int c1.1,.int c1.2])]) upd3_same fun p4 hp4 => ?_
   walk_at "l3"
   refine g_ixL (upd3_old hd' hp4) (d:=.str "Hole") rfl ?_
   walk_at "l3"
   intro p5 hp5
   walk_at "l3"
   refine g_neX (x := "Hole") (upd3_old upd3_same hp5) upd3_same (by decide +kernel) ?_
   walk_at "l3"
   refine ifX rfl ?_
   walk_at "l3"
   refine g_ixL (upd3_old (upd3_old hd' hp4) hp5) (d:=.tup [.int c1.1,.int c1.2]) rfl ?_
   walk_at "l3"
   refine ifX rfl ?_
   walk_at "l3"
   refine g_xgk (upd3_old (upd3_old upd3_same hp4) hp5) (d:=.tup [.int c1.1,.int c1.2]) rfl (by simp) ?_
   walk_at "l3"
   refine ifY rfl ?_
   walk_at "l3"
   refine g_xgk (upd3_old (upd3_old upd3_same hp4) hp5) (d:=.tup [.int c1.1,.int c1.2]) rfl (by simp) ?_
   walk_at "l3"
   refine g_ixL (upd3_old (upd3_old hd' hp4) hp5) (d:=.tup [.int c1.1,.int c1.2]) rfl ?_
   walk_at "l3"
   rw [decide_eq_true rfl]
   exact g_fin (h _) Sub3.refl
  ·refine u_read_drawing t3 n3 (fun o2 => absurd o o2) fun _ => ⟨(fun z => by rw [e] at z; cases z),(fun z => by rw [e] at z; cases z),(fun c z => by rw [e] at z; cases z),(fun c z => by rw [e] at z; cases z),fun _ => ?_⟩
   walk_at "l3"
   refine ifY rfl ?_
   walk_at "l3"
   refine g_ixL hd (d:=.str "made") rfl ?_
   walk_at "l3"
   refine g_eqXs (by decide +kernel) ?_
   walk_at "l3"
   refine ifY rfl ?_
   walk_at "l3"
   refine g_ixL hd (d:=.ref q) rfl ?_
   walk_at "l3"
   refine u_l_is_piece (seq_ref hq) (by unfold setl; rw [List.length_map]; omega) ?_
   walk_at "l3"
   exact g_fin (h _) Sub3.refl
noncomputable abbrev s_rank_of:Stmt:=top 17
noncomputable abbrev s_in_order:Stmt:=top 18
noncomputable abbrev s_around:Stmt:=top 19
noncomputable abbrev s_added:Stmt:=top 20
noncomputable abbrev s_unlike_in_order:Stmt:=top 23
noncomputable abbrev s_reached_within:Stmt:=top 24
noncomputable abbrev s_first_cut_off:Stmt:=top 25
noncomputable abbrev s_empty_in_box:Stmt:=top 26
noncomputable abbrev s_piece_of:Stmt:=top 27
noncomputable abbrev s_moved:Stmt:=top 28
noncomputable abbrev s_settled:Stmt:=top 29
noncomputable abbrev s_rows_of:Stmt:=top 34
noncomputable abbrev s_cells_in:Stmt:=top 35
noncomputable abbrev s_read_drawing:Stmt:=top 36
noncomputable abbrev s_l_cell_at:Stmt:=top 38
noncomputable abbrev s_l_mix:Stmt:=top 39
noncomputable abbrev s_l_whole:Stmt:=top 40
noncomputable abbrev s_l_is_pair:Stmt:=top 41
noncomputable abbrev s_l_is_piece:Stmt:=top 42
noncomputable abbrev s_l_sorted:Stmt:=top 43
noncomputable abbrev s_l_beside:Stmt:=top 44
noncomputable abbrev s_l_reached:Stmt:=top 45
noncomputable abbrev s_l_empties:Stmt:=top 46
noncomputable abbrev s_l_kinds:Stmt:=top 47
noncomputable abbrev s_l_rows:Stmt:=top 48
noncomputable abbrev s_l_spoilt:Stmt:=top 49
noncomputable abbrev s_l_cells:Stmt:=top 50
noncomputable abbrev s_l_due:Stmt:=top 51
noncomputable abbrev s_law:Stmt:=top 52
noncomputable abbrev s_Apart_init:Stmt:=inClass (top 11) 0
noncomputable abbrev s_Hole_init:Stmt:=inClass (top 12) 0
theorem sc_rank_of:FnScope N_rank_of P_rank_of (defScope s_rank_of):=⟨rfl,rfl,rfl,by decide +kernel,rfl,by decide +kernel,by decide +kernel⟩
theorem sc_in_order:FnScope N_in_order P_in_order (defScope s_in_order):=⟨rfl,rfl,rfl,by decide +kernel,rfl,by decide +kernel,by decide +kernel⟩
theorem sc_around:FnScope N_around P_around (defScope s_around):=⟨rfl,rfl,rfl,by decide +kernel,rfl,by decide +kernel,by decide +kernel⟩
theorem sc_added:FnScope N_added P_added (defScope s_added):=⟨rfl,rfl,rfl,by decide +kernel,rfl,by decide +kernel,by decide +kernel⟩
theorem sc_unlike_in_order:FnScope N_unlike_in_order P_unlike_in_order (defScope s_unlike_in_order):=⟨rfl,rfl,rfl,by decide +kernel,rfl,by decide +kernel,by decide +kernel⟩
theorem sc_reached_within:FnScope N_reached_within P_reached_within (defScope s_reached_within):=⟨rfl,rfl,rfl,by decide +kernel,rfl,by decide +kernel,by decide +kernel⟩
theorem sc_first_cut_off:FnScope N_first_cut_off P_first_cut_off (defScope s_first_cut_off):=⟨rfl,rfl,rfl,by decide +kernel,rfl,by decide +kernel,by decide +kernel⟩
theorem sc_empty_in_box:FnScope N_empty_in_box P_empty_in_box (defScope s_empty_in_box):=⟨rfl,rfl,rfl,by decide +kernel,rfl,by decide +kernel,by decide +kernel⟩
theorem sc_piece_of:FnScope N_piece_of P_piece_of (defScope s_piece_of):=⟨rfl,rfl,rfl,by decide +kernel,rfl,by decide +kernel,by decide +kernel⟩
theorem sc_moved:FnScope N_moved P_moved (defScope s_moved):=⟨rfl,rfl,rfl,by decide +kernel,rfl,by decide +kernel,by decide +kernel⟩
theorem sc_settled:FnScope N_settled P_settled (defScope s_settled):=⟨rfl,rfl,rfl,by decide +kernel,rfl,by decide +kernel,by decide +kernel⟩
theorem sc_rows_of:FnScope N_rows_of P_rows_of (defScope s_rows_of):=⟨rfl,rfl,rfl,by decide +kernel,rfl,by decide +kernel,by decide +kernel⟩
theorem sc_cells_in:FnScope N_cells_in P_cells_in (defScope s_cells_in):=⟨rfl,rfl,rfl,by decide +kernel,rfl,by decide +kernel,by decide +kernel⟩
theorem sc_read_drawing:FnScope N_read_drawing P_read_drawing (defScope s_read_drawing):=⟨rfl,rfl,rfl,by decide +kernel,rfl,by decide +kernel,by decide +kernel⟩
theorem sc_l_cell_at:FnScope N_l_cell_at P_l_cell_at (defScope s_l_cell_at):=⟨rfl,rfl,rfl,by decide +kernel,rfl,by decide +kernel,by decide +kernel⟩
theorem sc_l_mix:FnScope N_l_mix P_l_mix (defScope s_l_mix):=⟨rfl,rfl,rfl,by decide +kernel,rfl,by decide +kernel,by decide +kernel⟩
theorem sc_l_whole:FnScope N_l_whole P_l_whole (defScope s_l_whole):=⟨rfl,rfl,rfl,by decide +kernel,rfl,by decide +kernel,by decide +kernel⟩
theorem sc_l_is_pair:FnScope N_l_is_pair P_l_is_pair (defScope s_l_is_pair):=⟨rfl,rfl,rfl,by decide +kernel,rfl,by decide +kernel,by decide +kernel⟩
theorem sc_l_is_piece:FnScope N_l_is_piece P_l_is_piece (defScope s_l_is_piece):=⟨rfl,rfl,rfl,by decide +kernel,rfl,by decide +kernel,by decide +kernel⟩
theorem sc_l_sorted:FnScope N_l_sorted P_l_sorted (defScope s_l_sorted):=⟨rfl,rfl,rfl,by decide +kernel,rfl,by decide +kernel,by decide +kernel⟩
theorem sc_l_beside:FnScope N_l_beside P_l_beside (defScope s_l_beside):=⟨rfl,rfl,rfl,by decide +kernel,rfl,by decide +kernel,by decide +kernel⟩
theorem sc_l_reached:FnScope N_l_reached P_l_reached (defScope s_l_reached):=⟨rfl,rfl,rfl,by decide +kernel,rfl,by decide +kernel,by decide +kernel⟩
theorem sc_l_empties:FnScope N_l_empties P_l_empties (defScope s_l_empties):=⟨rfl,rfl,rfl,by decide +kernel,rfl,by decide +kernel,by decide +kernel⟩
theorem sc_l_kinds:FnScope N_l_kinds P_l_kinds (defScope s_l_kinds):=⟨rfl,rfl,rfl,by decide +kernel,rfl,by decide +kernel,by decide +kernel⟩
theorem sc_l_rows:FnScope N_l_rows P_l_rows (defScope s_l_rows):=⟨rfl,rfl,rfl,by decide +kernel,rfl,by decide +kernel,by decide +kernel⟩
theorem sc_l_spoilt:FnScope N_l_spoilt P_l_spoilt (defScope s_l_spoilt):=⟨rfl,rfl,rfl,by decide +kernel,rfl,by decide +kernel,by decide +kernel⟩
theorem sc_l_cells:FnScope N_l_cells P_l_cells (defScope s_l_cells):=⟨rfl,rfl,rfl,by decide +kernel,rfl,by decide +kernel,by decide +kernel⟩
theorem sc_l_due:FnScope N_l_due P_l_due (defScope s_l_due):=⟨rfl,rfl,rfl,by decide +kernel,rfl,by decide +kernel,by decide +kernel⟩
theorem sc_law:FnScope N_law P_law (defScope s_law):=⟨rfl,rfl,rfl,by decide +kernel,rfl,by decide +kernel,by decide +kernel⟩
theorem sc_Apart_init:FnScope N_Apart_init P_Apart_init (defScope s_Apart_init):=⟨rfl,rfl,rfl,by decide +kernel,rfl,by decide +kernel,by decide +kernel⟩
theorem sc_Hole_init:FnScope N_Hole_init P_Hole_init (defScope s_Hole_init):=⟨rfl,rfl,rfl,by decide +kernel,rfl,by decide +kernel,by decide +kernel⟩
theorem bd_rank_of:Bnd "rank_of" "rank_of" s_rank_of P_rank_of:=fun _ _ _ _ _ _ _ => rfl
theorem bd_in_order:Bnd "in_order" "in_order" s_in_order P_in_order:=fun _ _ _ _ _ _ _ => rfl
theorem bd_around:Bnd "around" "around" s_around P_around:=fun _ _ _ _ _ _ _ => rfl
theorem bd_added:Bnd "added" "added" s_added P_added:=fun _ _ _ _ _ _ _ _ => rfl
theorem bd_unlike_in_order:Bnd "unlike_in_order" "unlike_in_order" s_unlike_in_order P_unlike_in_order:=fun _ _ _ _ _ _ _ => rfl
theorem bd_reached_within:Bnd "reached_within" "reached_within" s_reached_within P_reached_within:=fun _ _ _ _ _ _ _ _ => rfl
theorem bd_first_cut_off:Bnd "first_cut_off" "first_cut_off" s_first_cut_off P_first_cut_off:=fun _ _ _ _ _ _ _ => rfl
theorem bd_empty_in_box:Bnd "empty_in_box" "empty_in_box" s_empty_in_box P_empty_in_box:=fun _ _ _ _ _ _ _ => rfl
theorem bd_piece_of:Bnd "piece_of" "piece_of" s_piece_of P_piece_of:=fun _ _ _ _ _ _ _ => rfl
theorem bd_moved:Bnd "moved" "moved" s_moved P_moved:=fun _ _ _ _ _ _ _ _ => rfl
theorem bd_settled:Bnd "settled" "settled" s_settled P_settled:=fun _ _ _ _ _ _ _ => rfl
theorem bd_rows_of:Bnd "rows_of" "rows_of" s_rows_of P_rows_of:=fun _ _ _ _ _ _ _ => rfl
theorem bd_cells_in:Bnd "cells_in" "cells_in" s_cells_in P_cells_in:=fun _ _ _ _ _ _ _ => rfl
theorem bd_read_drawing:Bnd "read_drawing" "read_drawing" s_read_drawing P_read_drawing:=fun _ _ _ _ _ _ _ => rfl
theorem bd_l_cell_at:Bnd "_law_cell_at" "_law_cell_at" s_l_cell_at P_l_cell_at:=fun _ _ _ _ _ _ _ _ => rfl
theorem bd_l_mix:Bnd "_law_mix" "_law_mix" s_l_mix P_l_mix:=fun _ _ _ _ _ _ _ _ => rfl
theorem bd_l_whole:Bnd "_law_whole" "_law_whole" s_l_whole P_l_whole:=fun _ _ _ _ _ _ _ => rfl
theorem bd_l_is_pair:Bnd "_law_is_pair" "_law_is_pair" s_l_is_pair P_l_is_pair:=fun _ _ _ _ _ _ _ => rfl
theorem bd_l_is_piece:Bnd "_law_is_piece" "_law_is_piece" s_l_is_piece P_l_is_piece:=fun _ _ _ _ _ _ _ _ => rfl
theorem bd_l_sorted:Bnd "_law_sorted" "_law_sorted" s_l_sorted P_l_sorted:=fun _ _ _ _ _ _ _ => rfl
theorem bd_l_beside:Bnd "_law_beside" "_law_beside" s_l_beside P_l_beside:=fun _ _ _ _ _ _ _ => rfl
theorem bd_l_reached:Bnd "_law_reached" "_law_reached" s_l_reached P_l_reached:=fun _ _ _ _ _ _ _ _ => rfl
theorem bd_l_empties:Bnd "_law_empties" "_law_empties" s_l_empties P_l_empties:=fun _ _ _ _ _ _ _ => rfl
theorem bd_l_kinds:Bnd "_law_kinds" "_law_kinds" s_l_kinds P_l_kinds:=fun _ _ _ _ _ _ _ => rfl
theorem bd_l_rows:Bnd "_law_rows" "_law_rows" s_l_rows P_l_rows:=fun _ _ _ _ _ _ _ => rfl
theorem bd_l_spoilt:Bnd "_law_spoilt" "_law_spoilt" s_l_spoilt P_l_spoilt:=fun _ _ _ _ _ _ _ _ _ => rfl
theorem bd_l_cells:Bnd "_law_cells" "_law_cells" s_l_cells P_l_cells:=fun _ _ _ _ _ _ _ => rfl
theorem bd_l_due:Bnd "_law_due" "_law_due" s_l_due P_l_due:=fun _ _ _ _ _ _ _ => rfl
theorem bd_Apart_init:Bnd "__init__" "Apart.__init__" s_Apart_init P_Apart_init:=fun _ _ _ _ _ _ _ _ => rfl
theorem bd_Hole_init:Bnd "__init__" "Hole.__init__" s_Hole_init P_Hole_init:=fun _ _ _ _ _ _ _ _ => rfl
structure Tx (K:PySem.W.Frag) (mg:Str→Option Value) (w:World):Prop where
 f_rank_of:FnIn K mg "rank_of" s_rank_of P_rank_of
 f_in_order:FnIn K mg "in_order" s_in_order P_in_order
 f_around:FnIn K mg "around" s_around P_around
 f_added:FnIn K mg "added" s_added P_added
 f_unlike_in_order:FnIn K mg "unlike_in_order" s_unlike_in_order P_unlike_in_order
 f_reached_within:FnIn K mg "reached_within" s_reached_within P_reached_within
 f_first_cut_off:FnIn K mg "first_cut_off" s_first_cut_off P_first_cut_off
 f_empty_in_box:FnIn K mg "empty_in_box" s_empty_in_box P_empty_in_box
 f_piece_of:FnIn K mg "piece_of" s_piece_of P_piece_of
 f_moved:FnIn K mg "moved" s_moved P_moved
 f_settled:FnIn K mg "settled" s_settled P_settled
 f_rows_of:FnIn K mg "rows_of" s_rows_of P_rows_of
 f_cells_in:FnIn K mg "cells_in" s_cells_in P_cells_in
 f_read_drawing:FnIn K mg "read_drawing" s_read_drawing P_read_drawing
 f_l_cell_at:FnIn K mg "_law_cell_at" s_l_cell_at P_l_cell_at
 f_l_mix:FnIn K mg "_law_mix" s_l_mix P_l_mix
 f_l_whole:FnIn K mg "_law_whole" s_l_whole P_l_whole
 f_l_is_pair:FnIn K mg "_law_is_pair" s_l_is_pair P_l_is_pair
 f_l_is_piece:FnIn K mg "_law_is_piece" s_l_is_piece P_l_is_piece
 f_l_sorted:FnIn K mg "_law_sorted" s_l_sorted P_l_sorted
 f_l_beside:FnIn K mg "_law_beside" s_l_beside P_l_beside
 f_l_reached:FnIn K mg "_law_reached" s_l_reached P_l_reached
 f_l_empties:FnIn K mg "_law_empties" s_l_empties P_l_empties
 f_l_kinds:FnIn K mg "_law_kinds" s_l_kinds P_l_kinds
 f_l_rows:FnIn K mg "_law_rows" s_l_rows P_l_rows
 f_l_spoilt:FnIn K mg "_law_spoilt" s_l_spoilt P_l_spoilt
 f_l_cells:FnIn K mg "_law_cells" s_l_cells P_l_cells
 f_l_due:FnIn K mg "_law_due" s_l_due P_l_due
 m_ValueError:mg "ValueError" = none
 m_bool:mg "bool" = none
 m_dict:mg "dict" = none
 m_enumerate:mg "enumerate" = none
 m_int:mg "int" = none
 m_isinstance:mg "isinstance" = none
 m_len:mg "len" = none
 m_max:mg "max" = none
 m_min:mg "min" = none
 m_range:mg "range" = none
 m_reversed:mg "reversed" = none
 m_sorted:mg "sorted" = none
 m_tuple:mg "tuple" = none
 x_NoDrawing:ExcOk K "NoDrawing"
 x_NoPiece:ExcOk K "NoPiece"
 x_TooMany:ExcOk K "TooMany"
 s_Apart_FloorError:SubX K "Apart" "FloorError"
 s_Hole_FloorError:SubX K "Hole" "FloorError"
 s_NoDrawing_FloorError:SubX K "NoDrawing" "FloorError"
 s_NoPiece_FloorError:SubX K "NoPiece" "FloorError"
 s_TooMany_FloorError:SubX K "TooMany" "FloorError"
 i_Apart_Apart:IsX K "Apart" "Apart" true
 i_Apart_Backward:IsX K "Apart" "Backward" false
 i_Apart_Crossed:IsX K "Apart" "Crossed" false
 i_Apart_Hole:IsX K "Apart" "Hole" false
 i_Apart_NoDrawing:IsX K "Apart" "NoDrawing" false
 i_Apart_NoFloor:IsX K "Apart" "NoFloor" false
 i_Apart_NoGrid:IsX K "Apart" "NoGrid" false
 i_Apart_NoLine:IsX K "Apart" "NoLine" false
 i_Apart_NoPiece:IsX K "Apart" "NoPiece" false
 i_Apart_NoWord:IsX K "Apart" "NoWord" false
 i_Apart_NotAsMany:IsX K "Apart" "NotAsMany" false
 i_Apart_Nothing:IsX K "Apart" "Nothing" false
 i_Apart_Open:IsX K "Apart" "Open" false
 i_Apart_TooMany:IsX K "Apart" "TooMany" false
 i_Apart_ValueError:IsB K "Apart" "ValueError" true
 i_Hole_Apart:IsX K "Hole" "Apart" false
 i_Hole_Backward:IsX K "Hole" "Backward" false
 i_Hole_Crossed:IsX K "Hole" "Crossed" false
 i_Hole_Hole:IsX K "Hole" "Hole" true
 i_Hole_NoDrawing:IsX K "Hole" "NoDrawing" false
 i_Hole_NoFloor:IsX K "Hole" "NoFloor" false
 i_Hole_NoGrid:IsX K "Hole" "NoGrid" false
 i_Hole_NoLine:IsX K "Hole" "NoLine" false
 i_Hole_NoPiece:IsX K "Hole" "NoPiece" false
 i_Hole_NoWord:IsX K "Hole" "NoWord" false
 i_Hole_NotAsMany:IsX K "Hole" "NotAsMany" false
 i_Hole_Nothing:IsX K "Hole" "Nothing" false
 i_Hole_Open:IsX K "Hole" "Open" false
 i_Hole_TooMany:IsX K "Hole" "TooMany" false
 i_Hole_ValueError:IsB K "Hole" "ValueError" true
 i_NoDrawing_Apart:IsX K "NoDrawing" "Apart" false
 i_NoDrawing_Backward:IsX K "NoDrawing" "Backward" false
 i_NoDrawing_Crossed:IsX K "NoDrawing" "Crossed" false
 i_NoDrawing_Hole:IsX K "NoDrawing" "Hole" false
 i_NoDrawing_NoDrawing:IsX K "NoDrawing" "NoDrawing" true
 i_NoDrawing_NoFloor:IsX K "NoDrawing" "NoFloor" false
 i_NoDrawing_NoGrid:IsX K "NoDrawing" "NoGrid" false
 i_NoDrawing_NoLine:IsX K "NoDrawing" "NoLine" false
 i_NoDrawing_NoPiece:IsX K "NoDrawing" "NoPiece" false
 i_NoDrawing_NoWord:IsX K "NoDrawing" "NoWord" false
 i_NoDrawing_NotAsMany:IsX K "NoDrawing" "NotAsMany" false
 i_NoDrawing_Nothing:IsX K "NoDrawing" "Nothing" false
 i_NoDrawing_Open:IsX K "NoDrawing" "Open" false
 i_NoDrawing_TooMany:IsX K "NoDrawing" "TooMany" false
 i_NoDrawing_ValueError:IsB K "NoDrawing" "ValueError" true
 i_NoPiece_Apart:IsX K "NoPiece" "Apart" false
 i_NoPiece_Backward:IsX K "NoPiece" "Backward" false
 i_NoPiece_Crossed:IsX K "NoPiece" "Crossed" false
 i_NoPiece_Hole:IsX K "NoPiece" "Hole" false
 i_NoPiece_NoDrawing:IsX K "NoPiece" "NoDrawing" false
 i_NoPiece_NoFloor:IsX K "NoPiece" "NoFloor" false
 i_NoPiece_NoGrid:IsX K "NoPiece" "NoGrid" false
 i_NoPiece_NoLine:IsX K "NoPiece" "NoLine" false
 i_NoPiece_NoPiece:IsX K "NoPiece" "NoPiece" true
 i_NoPiece_NoWord:IsX K "NoPiece" "NoWord" false
 i_NoPiece_NotAsMany:IsX K "NoPiece" "NotAsMany" false
 i_NoPiece_Nothing:IsX K "NoPiece" "Nothing" false
 i_NoPiece_Open:IsX K "NoPiece" "Open" false
 i_NoPiece_TooMany:IsX K "NoPiece" "TooMany" false
 i_NoPiece_ValueError:IsB K "NoPiece" "ValueError" true
 i_TooMany_Apart:IsX K "TooMany" "Apart" false
 i_TooMany_Backward:IsX K "TooMany" "Backward" false
 i_TooMany_Crossed:IsX K "TooMany" "Crossed" false
 i_TooMany_Hole:IsX K "TooMany" "Hole" false
 i_TooMany_NoDrawing:IsX K "TooMany" "NoDrawing" false
 i_TooMany_NoFloor:IsX K "TooMany" "NoFloor" false
 i_TooMany_NoGrid:IsX K "TooMany" "NoGrid" false
 i_TooMany_NoLine:IsX K "TooMany" "NoLine" false
 i_TooMany_NoPiece:IsX K "TooMany" "NoPiece" false
 i_TooMany_NoWord:IsX K "TooMany" "NoWord" false
 i_TooMany_NotAsMany:IsX K "TooMany" "NotAsMany" false
 i_TooMany_Nothing:IsX K "TooMany" "Nothing" false
 i_TooMany_Open:IsX K "TooMany" "Open" false
 i_TooMany_TooMany:IsX K "TooMany" "TooMany" true
 i_TooMany_ValueError:IsB K "TooMany" "ValueError" true
 xk_Apart:XkIn K "Apart" "cell" "Apart.__init__" s_Apart_init P_Apart_init
 xk_Hole:XkIn K "Hole" "cell" "Hole.__init__" s_Hole_init P_Hole_init
 xb_FloorError:XBs K mg "FloorError"
 xf_cell:XfOk K ["Apart", "Hole"] "cell"
 c_MOST_CELLS:∃ tk,mg "MOST_CELLS" = some (.int 10 tk)
 c_CROSS:∃ tk,mg "CROSS" = some (.str "#" tk)
 c_POINT:∃ tk,mg "POINT" = some (.str "." tk)
 c_PARTER:∃ tk,mg "PARTER" = some (.str "/" tk)
section
variable {P:Program} {w:World} {K:PySem.W.Frag} {mg:Str→Option Value} {base:Heap}
theorem okx_Apart (T:Tx K mg w):XInit P w K mg base 1 "Apart" "cell" :=
 xinit3i T.xk_Apart sc_Apart_init rfl fun g cdv A outer s H E => pss_cons (ps_expr (pe_xini (pl:=_) T.xb_FloorError (pa_cons (pv 0) (pa_cons pe_str pa_nil)))) (pss_one (ps_xfld (pv 0) (pv 1)))
theorem okx_Hole (T:Tx K mg w):XInit P w K mg base 1 "Hole" "cell" :=
 xinit3i T.xk_Hole sc_Hole_init rfl fun g cdv A outer s H E => pss_cons (ps_expr (pe_xini (pl:=_) T.xb_FloorError (pa_cons (pv 0) (pa_cons pe_str pa_nil)))) (pss_one (ps_xfld (pv 0) (pv 1)))
theorem ok_rank_of (T:Tx K mg w):Fn P w K mg base 1 "rank_of" P_rank_of sp_rank_of :=
 fn3i (t:=t_rank_of) T.f_rank_of sc_rank_of len_rank_of (fun f cdv A outer s H E hr => (s3_one (s3_ret (p3_tup (a3_cons (p3_ix ix3 (p3_var 0) p3_int) (a3_cons (p3_ix ix3 (p3_var 0) p3_int) a3_nil)))))) rd_rank_of
theorem ok_around (T:Tx K mg w):Fn P w K mg base 1 "around" P_around sp_around :=
 fn3i (t:=t_around) T.f_around sc_around len_around (fun f cdv A outer s H E hr => (s3_cons (s3_set 1 sc_around.nd (p3_ix ix3 (p3_var 0) p3_int))
   (s3_cons (s3_set 2 sc_around.nd (p3_ix ix3 (p3_var 0) p3_int))
   (s3_one (s3_ret (p3_lst (a3_cons (p3_tup (a3_cons (p3_op op3_add (p3_var 1) p3_int) (a3_cons (p3_var 2) a3_nil))) (a3_cons (p3_tup (a3_cons (p3_var 1) (a3_cons (p3_op op3_add (p3_var 2) p3_int) a3_nil))) (a3_cons (p3_tup (a3_cons (p3_op op3_sub (p3_var 1) p3_int) (a3_cons (p3_var 2) a3_nil))) (a3_cons (p3_tup (a3_cons (p3_var 1) (a3_cons (p3_op op3_sub (p3_var 2) p3_int) a3_nil))) a3_nil)))))))))) rd_around
theorem ok_added (T:Tx K mg w):Fn P w K mg base 1 "added" P_added sp_added :=
 fn3i (t:=t_added) T.f_added sc_added len_added (fun f cdv A outer s H E hr => (s3_one (s3_ret (p3_tup (a3_cons (p3_op op3_add (p3_ix ix3 (p3_var 0) p3_int) (p3_ix ix3 (p3_var 1) p3_int)) (a3_cons (p3_op op3_add (p3_ix ix3 (p3_var 0) p3_int) (p3_ix ix3 (p3_var 1) p3_int)) a3_nil)))))) rd_added
theorem ok_empty_in_box (T:Tx K mg w):Fn P w K mg base 1 "empty_in_box" P_empty_in_box sp_empty_in_box :=
 fn3i (t:=t_empty_in_box) T.f_empty_in_box sc_empty_in_box len_empty_in_box (fun f cdv A outer s H E hr => (s3_cons (s3_setcomp (fv:=[]) 1 sc_empty_in_box.nd (by show CompOk (defScope s_empty_in_box) N_empty_in_box _ _ _ _; exact ⟨rfl,by decide +kernel,by decide +kernel,by decide +kernel,rfl,by decide +kernel,by decide +kernel⟩) rfl (i3_list (p3_var 0)) (fun pins cl s1 H1 fp => ifs3_nil) (fun pins cl s1 H1 fp => (p3_ix ix3 (p3_var 0) p3_int)))
   (s3_cons (s3_setcomp (fv:=[]) 2 sc_empty_in_box.nd (by show CompOk (defScope s_empty_in_box) N_empty_in_box _ _ _ _; exact ⟨rfl,by decide +kernel,by decide +kernel,by decide +kernel,rfl,by decide +kernel,by decide +kernel⟩) rfl (i3_list (p3_var 0)) (fun pins cl s1 H1 fp => ifs3_nil) (fun pins cl s1 H1 fp => (p3_ix ix3 (p3_var 0) p3_int)))
   (s3_cons (s3_set 3 sc_empty_in_box.nd (p3_lst a3_nil))
   (s3_cons (s3_for PassesOwn.never rfl (i3_rng2 T.m_range (p3_op op3_sub (p3_callB (cb3_min rfl) rfl T.m_min (by rfl) (a3_cons (p3_var 2) a3_nil)) p3_int) (p3_op op3_add (p3_callB (cb3_max rfl) rfl T.m_max (by rfl) (a3_cons (p3_var 2) a3_nil)) p3_int)) (g3_name 4 sc_empty_in_box.nd) (s3_one (s3_for PassesOwn.never rfl (i3_rng2 T.m_range (p3_op op3_sub (p3_callB (cb3_min rfl) rfl T.m_min (by rfl) (a3_cons (p3_var 1) a3_nil)) p3_int) (p3_op op3_add (p3_callB (cb3_max rfl) rfl T.m_max (by rfl) (a3_cons (p3_var 1) a3_nil)) p3_int)) (g3_name 5 sc_empty_in_box.nd) (s3_one (s3_if (p3_tcmp (op3_notInX hr.units) (p3_tup (a3_cons (p3_var 5) (a3_cons (p3_var 4) a3_nil))) (p3_var 0)) (s3_one (s3_expr (p3_bm PySem.F.slot_list_append PySem.F.type_list_append mt3_app (p3_var 3) (a3_cons (p3_tup (a3_cons (p3_var 5) (a3_cons (p3_var 4) a3_nil))) a3_nil)))) s3_nil)))))
   (s3_one (s3_ret (p3_var 3)))))))) rd_empty_in_box
theorem okE_rows_of (T:Tx K mg w):FnE P w K mg base 1 "rows_of" P_rows_of sp_rows_of :=
 fnE3i (te:=t_rows_of) T.f_rows_of sc_rows_of len_rows_of (fun f cdv A outer s H E E3 hr kx => (s3_cons (s3_nox (s3_set 1 sc_rows_of.nd (p3_zm PySem.F.slot_str_split PySem.F.type_str_split mt3_split (p3_var 0) (a3_cons (p3_globT rfl T.c_PARTER) a3_nil))))
   (s3_cons (s3_for PassesOwn.leaving rfl (i3_list (p3_var 1)) (g3_name 2 sc_rows_of.nd) (s3_cons (s3_if (t3_nox (p3_tcmp (op3_eq hr.units) (p3_var 2) p3_str)) (s3_one (s3_raise rises_def kx T.x_NoDrawing rfl p3_str)) s3_nil)
   (s3_cons (s3_if (t3_nox (p3_tcmp (op3_ne hr.units) (p3_callB cb3_len rfl T.m_len (by rfl) (a3_cons (p3_var 2) a3_nil)) (p3_callB cb3_len rfl T.m_len (by rfl) (a3_cons (p3_ix ix3 (p3_var 1) p3_int) a3_nil)))) (s3_one (s3_raise rises_def kx T.x_NoDrawing rfl p3_str)) s3_nil)
   (s3_one (s3_if (t3_nox (p3_tcmp (op3_ne hr.units) (p3_op op3_add (p3_zm PySem.F.slot_str_count PySem.F.type_str_count mt3_count (p3_var 2) (a3_cons (p3_globT rfl T.c_CROSS) a3_nil)) (p3_zm PySem.F.slot_str_count PySem.F.type_str_count mt3_count (p3_var 2) (a3_cons (p3_globT rfl T.c_POINT) a3_nil))) (p3_callB cb3_len rfl T.m_len (by rfl) (a3_cons (p3_var 2) a3_nil)))) (s3_one (s3_raise rises_def kx T.x_NoDrawing rfl p3_str)) s3_nil)))))
   (s3_one (s3_nox (s3_ret (p3_var 1))))))) rd_rows_of
theorem ok_cells_in (T:Tx K mg w):Fn P w K mg base 1 "cells_in" P_cells_in sp_cells_in :=
 fn3i (t:=t_cells_in) T.f_cells_in sc_cells_in len_cells_in (fun f cdv A outer s H E hr => (s3_cons (s3_set 1 sc_cells_in.nd (p3_lst a3_nil))
   (s3_cons (s3_for PassesOwn.never rfl (i3_enumR T.m_enumerate T.m_reversed (p3_var 0)) (g3_pair 2 3 rfl sc_cells_in.nd) (s3_one (s3_for PassesOwn.never rfl (i3_enumZ T.m_enumerate (p3_var 3)) (g3_pair 4 5 rfl sc_cells_in.nd) (s3_one (s3_if (p3_tcmp (op3_eq hr.units) (p3_var 5) (p3_globT rfl T.c_CROSS)) (s3_one (s3_expr (p3_bm PySem.F.slot_list_append PySem.F.type_list_append mt3_app (p3_var 1) (a3_cons (p3_tup (a3_cons (p3_var 4) (a3_cons (p3_var 2) a3_nil))) a3_nil)))) s3_nil)))))
   (s3_one (s3_ret (p3_var 1)))))) rd_cells_in
theorem ok_l_cell_at (T:Tx K mg w):Fn P w K mg base 1 "_law_cell_at" P_l_cell_at sp_l_cell_at :=
 fn3i (t:=t_l_cell_at) T.f_l_cell_at sc_l_cell_at len_l_cell_at (fun f cdv A outer s H E hr => (s3_cons (s3_if (p3_tcmp (op3_lt hr.units0) (p3_var 1) (p3_callB cb3_len rfl T.m_len (by rfl) (a3_cons (p3_var 0) a3_nil))) (s3_one (s3_ret (p3_ix ix3 (p3_var 0) (p3_var 1)))) s3_nil)
   (s3_one (s3_ret p3_int)))) rd_l_cell_at
theorem ok_l_whole (T:Tx K mg w):Fn P w K mg base 1 "_law_whole" P_l_whole sp_l_whole :=
 fn3i (t:=t_l_whole) T.f_l_whole sc_l_whole len_l_whole (fun f cdv A outer s H E hr => (s3_one (s3_ret (p3_and (p3_callB cb3_isi rfl T.m_isinstance (by rfl) (a3_cons (p3_var 0) (a3_cons (p3_ty rfl T.m_int (by rfl)) a3_nil))) (p3_one (p3_not (p3_callB cb3_isi rfl T.m_isinstance (by rfl) (a3_cons (p3_var 0) (a3_cons (p3_ty rfl T.m_bool (by rfl)) a3_nil))))))))) rd_l_whole
theorem ok_l_sorted (T:Tx K mg w):Fn P w K mg base 1 "_law_sorted" P_l_sorted sp_l_sorted :=
 fn3i (t:=t_l_sorted) T.f_l_sorted sc_l_sorted len_l_sorted (fun f cdv A outer s H E hr => (s3_cons (s3_set 1 sc_l_sorted.nd (p3_lst a3_nil))
   (s3_cons (s3_for PassesOwn.never rfl (i3_list (p3_var 0)) (g3_name 2 sc_l_sorted.nd) (s3_cons (s3_set 3 sc_l_sorted.nd p3_int)
   (s3_cons (s3_while PassesOwn.never (p3_tw (p3_wand (p3_tcmp (op3_lt hr.units0) (p3_var 3) (p3_callB cb3_len rfl T.m_len (by rfl) (a3_cons (p3_var 1) a3_nil))) (p3_wand1 (p3_tcmp (op3_lt hr.units0) (p3_tup (a3_cons (p3_ix ix3 (p3_ix ix3 (p3_var 1) (p3_var 3)) p3_int) (a3_cons (p3_ix ix3 (p3_ix ix3 (p3_var 1) (p3_var 3)) p3_int) a3_nil))) (p3_tup (a3_cons (p3_ix ix3 (p3_var 2) p3_int) (a3_cons (p3_ix ix3 (p3_var 2) p3_int) a3_nil))))))) (s3_one (s3_set 3 sc_l_sorted.nd (p3_op op3_add (p3_var 3) p3_int))))
   (s3_one (s3_expr (p3_bm PySem.F.slot_list_insert PySem.F.type_list_insert mt3_ins (p3_var 1) (a3_cons (p3_var 3) (a3_cons (p3_var 2) a3_nil))))))))
   (s3_one (s3_ret (p3_var 1)))))) rd_l_sorted
theorem ok_l_beside (T:Tx K mg w):Fn P w K mg base 1 "_law_beside" P_l_beside sp_l_beside :=
 fn3i (t:=t_l_beside) T.f_l_beside sc_l_beside len_l_beside (fun f cdv A outer s H E hr => (s3_one (s3_ret (p3_lst (a3_cons (p3_tup (a3_cons (p3_op op3_add (p3_ix ix3 (p3_var 0) p3_int) p3_int) (a3_cons (p3_ix ix3 (p3_var 0) p3_int) a3_nil))) (a3_cons (p3_tup (a3_cons (p3_ix ix3 (p3_var 0) p3_int) (a3_cons (p3_op op3_add (p3_ix ix3 (p3_var 0) p3_int) p3_int) a3_nil))) (a3_cons (p3_tup (a3_cons (p3_op op3_sub (p3_ix ix3 (p3_var 0) p3_int) p3_int) (a3_cons (p3_ix ix3 (p3_var 0) p3_int) a3_nil))) (a3_cons (p3_tup (a3_cons (p3_ix ix3 (p3_var 0) p3_int) (a3_cons (p3_op op3_sub (p3_ix ix3 (p3_var 0) p3_int) p3_int) a3_nil))) a3_nil)))))))) rd_l_beside
theorem ok_l_empties (T:Tx K mg w):Fn P w K mg base 1 "_law_empties" P_l_empties sp_l_empties :=
 fn3i (t:=t_l_empties) T.f_l_empties sc_l_empties len_l_empties (fun f cdv A outer s H E hr => (s3_cons (s3_set 1 sc_l_empties.nd (p3_op op3_sub (p3_callB (cb3_min rfl) rfl T.m_min (by rfl) (a3_cons (p3_comp (fv:=[]) (by show CompOk (defScope s_l_empties) N_l_empties _ _ _ _; exact ⟨rfl,by decide +kernel,by decide +kernel,by decide +kernel,rfl,by decide +kernel,by decide +kernel⟩) rfl (i3_list (p3_var 0)) (fun pins cl s1 H1 fp => ifs3_nil) (fun pins cl s1 H1 fp => (p3_ix ix3 (p3_var 0) p3_int))) a3_nil)) p3_int))
   (s3_cons (s3_set 2 sc_l_empties.nd (p3_op op3_add (p3_callB (cb3_max rfl) rfl T.m_max (by rfl) (a3_cons (p3_comp (fv:=[]) (by show CompOk (defScope s_l_empties) N_l_empties _ _ _ _; exact ⟨rfl,by decide +kernel,by decide +kernel,by decide +kernel,rfl,by decide +kernel,by decide +kernel⟩) rfl (i3_list (p3_var 0)) (fun pins cl s1 H1 fp => ifs3_nil) (fun pins cl s1 H1 fp => (p3_ix ix3 (p3_var 0) p3_int))) a3_nil)) p3_int))
   (s3_cons (s3_set 3 sc_l_empties.nd (p3_op op3_sub (p3_callB (cb3_min rfl) rfl T.m_min (by rfl) (a3_cons (p3_comp (fv:=[]) (by show CompOk (defScope s_l_empties) N_l_empties _ _ _ _; exact ⟨rfl,by decide +kernel,by decide +kernel,by decide +kernel,rfl,by decide +kernel,by decide +kernel⟩) rfl (i3_list (p3_var 0)) (fun pins cl s1 H1 fp => ifs3_nil) (fun pins cl s1 H1 fp => (p3_ix ix3 (p3_var 0) p3_int))) a3_nil)) p3_int))
   (s3_cons (s3_set 4 sc_l_empties.nd (p3_op op3_add (p3_callB (cb3_max rfl) rfl T.m_max (by rfl) (a3_cons (p3_comp (fv:=[]) (by show CompOk (defScope s_l_empties) N_l_empties _ _ _ _; exact ⟨rfl,by decide +kernel,by decide +kernel,by decide +kernel,rfl,by decide +kernel,by decide +kernel⟩) rfl (i3_list (p3_var 0)) (fun pins cl s1 H1 fp => ifs3_nil) (fun pins cl s1 H1 fp => (p3_ix ix3 (p3_var 0) p3_int))) a3_nil)) p3_int))
   (s3_cons (s3_set 5 sc_l_empties.nd (p3_lst a3_nil))
   (s3_cons (s3_for PassesOwn.never rfl (i3_rng2 T.m_range (p3_var 1) (p3_op op3_add (p3_var 2) p3_int)) (g3_name 6 sc_l_empties.nd) (s3_one (s3_expr (p3_bm PySem.F.slot_list_extend PySem.F.type_list_extend mt3_ext (p3_var 5) (a3_cons (p3_comp (fv:=[(0, "_law_cells_here"),(6, "_law_y")]) (by show CompOk (defScope s_l_empties) N_l_empties _ _ _ _; exact ⟨rfl,by decide +kernel,by decide +kernel,by decide +kernel,rfl,by decide +kernel,by decide +kernel⟩) rfl (i3_rng2 T.m_range (p3_var 3) (p3_op op3_add (p3_var 4) p3_int)) (fun pins cl s1 H1 fp => (ifs3_one (p3_tcmp (op3_notInX hr.units) (p3_tup (a3_cons (p3_var 0) (a3_cons (p3_var 2) a3_nil))) (p3_var 1)))) (fun pins cl s1 H1 fp => (p3_tup (a3_cons (p3_var 0) (a3_cons (p3_var 2) a3_nil))))) a3_nil)))))
   (s3_one (s3_ret (p3_var 5)))))))))) rd_l_empties
theorem ok_l_kinds (T:Tx K mg w):Fn P w K mg base 1 "_law_kinds" P_l_kinds sp_l_kinds :=
 fn3i (t:=t_l_kinds) T.f_l_kinds sc_l_kinds len_l_kinds (fun f cdv A outer s H E hr => (s3_cons (s3_set 1 sc_l_kinds.nd (p3_lst (a3_cons (p3_isx (isx_cons T.i_NoPiece_NoPiece (isx_cons T.i_TooMany_NoPiece (isx_cons T.i_Apart_NoPiece (isx_cons T.i_Hole_NoPiece (isx_cons T.i_NoDrawing_NoPiece isx_nil))))) T.m_isinstance (p3_var 0)) (a3_cons (p3_isx (isx_cons T.i_NoPiece_TooMany (isx_cons T.i_TooMany_TooMany (isx_cons T.i_Apart_TooMany (isx_cons T.i_Hole_TooMany (isx_cons T.i_NoDrawing_TooMany isx_nil))))) T.m_isinstance (p3_var 0)) (a3_cons (p3_isx (isx_cons T.i_NoPiece_Apart (isx_cons T.i_TooMany_Apart (isx_cons T.i_Apart_Apart (isx_cons T.i_Hole_Apart (isx_cons T.i_NoDrawing_Apart isx_nil))))) T.m_isinstance (p3_var 0)) (a3_cons (p3_isx (isx_cons T.i_NoPiece_Hole (isx_cons T.i_TooMany_Hole (isx_cons T.i_Apart_Hole (isx_cons T.i_Hole_Hole (isx_cons T.i_NoDrawing_Hole isx_nil))))) T.m_isinstance (p3_var 0)) a3_nil))))))
   (s3_cons (s3_set 1 sc_l_kinds.nd (p3_op op3_add (p3_var 1) (p3_lst (a3_cons (p3_isx (isx_cons T.i_NoPiece_NoDrawing (isx_cons T.i_TooMany_NoDrawing (isx_cons T.i_Apart_NoDrawing (isx_cons T.i_Hole_NoDrawing (isx_cons T.i_NoDrawing_NoDrawing isx_nil))))) T.m_isinstance (p3_var 0)) (a3_cons (p3_isx (isx_cons T.i_NoPiece_Backward (isx_cons T.i_TooMany_Backward (isx_cons T.i_Apart_Backward (isx_cons T.i_Hole_Backward (isx_cons T.i_NoDrawing_Backward isx_nil))))) T.m_isinstance (p3_var 0)) (a3_cons (p3_isx (isx_cons T.i_NoPiece_NoGrid (isx_cons T.i_TooMany_NoGrid (isx_cons T.i_Apart_NoGrid (isx_cons T.i_Hole_NoGrid (isx_cons T.i_NoDrawing_NoGrid isx_nil))))) T.m_isinstance (p3_var 0)) (a3_cons (p3_isx (isx_cons T.i_NoPiece_NotAsMany (isx_cons T.i_TooMany_NotAsMany (isx_cons T.i_Apart_NotAsMany (isx_cons T.i_Hole_NotAsMany (isx_cons T.i_NoDrawing_NotAsMany isx_nil))))) T.m_isinstance (p3_var 0)) a3_nil)))))))
   (s3_cons (s3_set 1 sc_l_kinds.nd (p3_op op3_add (p3_var 1) (p3_lst (a3_cons (p3_isx (isx_cons T.i_NoPiece_NoFloor (isx_cons T.i_TooMany_NoFloor (isx_cons T.i_Apart_NoFloor (isx_cons T.i_Hole_NoFloor (isx_cons T.i_NoDrawing_NoFloor isx_nil))))) T.m_isinstance (p3_var 0)) (a3_cons (p3_isx (isx_cons T.i_NoPiece_NoLine (isx_cons T.i_TooMany_NoLine (isx_cons T.i_Apart_NoLine (isx_cons T.i_Hole_NoLine (isx_cons T.i_NoDrawing_NoLine isx_nil))))) T.m_isinstance (p3_var 0)) (a3_cons (p3_isx (isx_cons T.i_NoPiece_Nothing (isx_cons T.i_TooMany_Nothing (isx_cons T.i_Apart_Nothing (isx_cons T.i_Hole_Nothing (isx_cons T.i_NoDrawing_Nothing isx_nil))))) T.m_isinstance (p3_var 0)) (a3_cons (p3_isx (isx_cons T.i_NoPiece_NoWord (isx_cons T.i_TooMany_NoWord (isx_cons T.i_Apart_NoWord (isx_cons T.i_Hole_NoWord (isx_cons T.i_NoDrawing_NoWord isx_nil))))) T.m_isinstance (p3_var 0)) a3_nil)))))))
   (s3_cons (s3_set 1 sc_l_kinds.nd (p3_op op3_add (p3_var 1) (p3_lst (a3_cons (p3_isx (isx_cons T.i_NoPiece_Crossed (isx_cons T.i_TooMany_Crossed (isx_cons T.i_Apart_Crossed (isx_cons T.i_Hole_Crossed (isx_cons T.i_NoDrawing_Crossed isx_nil))))) T.m_isinstance (p3_var 0)) (a3_cons (p3_isx (isx_cons T.i_NoPiece_Open (isx_cons T.i_TooMany_Open (isx_cons T.i_Apart_Open (isx_cons T.i_Hole_Open (isx_cons T.i_NoDrawing_Open isx_nil))))) T.m_isinstance (p3_var 0)) a3_nil)))))
   (s3_cons (s3_set 2 sc_l_kinds.nd (p3_lst (a3_cons p3_str (a3_cons p3_str (a3_cons p3_str (a3_cons p3_str (a3_cons p3_str (a3_cons p3_str (a3_cons p3_str (a3_cons p3_str (a3_cons p3_str (a3_cons p3_str a3_nil))))))))))))
   (s3_cons (s3_set 2 sc_l_kinds.nd (p3_op op3_add (p3_var 2) (p3_lst (a3_cons p3_str (a3_cons p3_str (a3_cons p3_str (a3_cons p3_str a3_nil)))))))
   (s3_cons (s3_if (p3_tnot (p3_tval (p3_isb (T := "ValueError") (isx_cons T.i_NoPiece_ValueError (isx_cons T.i_TooMany_ValueError (isx_cons T.i_Apart_ValueError (isx_cons T.i_Hole_ValueError (isx_cons T.i_NoDrawing_ValueError isx_nil))))) T.m_isinstance (p3_var 0) T.m_ValueError (by rfl)))) (s3_one (s3_ret (p3_lst (a3_cons p3_str a3_nil)))) s3_nil)
   (s3_one (s3_ret (p3_comp (fv:=[(1, "_law_told"),(2, "_law_names")]) (by show CompOk (defScope s_l_kinds) N_l_kinds _ _ _ _; exact ⟨rfl,by decide +kernel,by decide +kernel,by decide +kernel,rfl,by decide +kernel,by decide +kernel⟩) rfl (i3_rng1 T.m_range p3_int) (fun pins cl s1 H1 fp => (ifs3_one (p3_tval (p3_ix ix3 (p3_var 1) (p3_var 0))))) (fun pins cl s1 H1 fp => (p3_ix ix3 (p3_var 2) (p3_var 0)))))))))))))) rd_l_kinds
theorem ok_l_spoilt (T:Tx K mg w):Fn P w K mg base 1 "_law_spoilt" P_l_spoilt sp_l_spoilt :=
 fn3i (t:=t_l_spoilt) T.f_l_spoilt sc_l_spoilt len_l_spoilt (fun f cdv A outer s H E hr => (s3_cons (s3_set 3 sc_l_spoilt.nd (p3_op op3_mod (p3_var 2) (p3_callB cb3_len rfl T.m_len (by rfl) (a3_cons (p3_var 0) a3_nil))))
   (s3_cons (s3_set 4 sc_l_spoilt.nd (p3_ix ix3 (p3_var 0) (p3_var 3)))
   (s3_cons (s3_set 5 sc_l_spoilt.nd (p3_op op3_mod (p3_op op3_fdiv (p3_var 2) p3_int) (p3_op op3_add (p3_callB cb3_len rfl T.m_len (by rfl) (a3_cons (p3_var 4) a3_nil)) p3_int)))
   (s3_cons (s3_if (p3_tcmp (op3_eq hr.units) (p3_var 1) p3_int) (s3_cons (s3_set 6 sc_l_spoilt.nd (p3_ix ix3 p3_str (p3_op op3_mod (p3_op op3_fdiv (p3_var 2) p3_int) p3_int)))
   (s3_one (s3_asg (p3_op op3_add (p3_op op3_add (p3_slice sl3_text (p3_var 4) po3_none (po3_some (p3_var 5))) (p3_var 6)) (p3_slice sl3_text (p3_var 4) (po3_some (p3_op op3_add (p3_var 5) p3_int)) po3_none)) (g3_lsub (p3_var 0) (p3_var 3))))) s3_nil)
   (s3_cons (s3_if (p3_tw (p3_wand (p3_tcmp (op3_eq hr.units) (p3_var 1) p3_int) (p3_wand1 (p3_tcmp (op3_eq hr.units) (p3_op op3_mod (p3_op op3_fdiv (p3_var 2) p3_int) p3_int) p3_int)))) (s3_one (s3_asg (p3_op op3_add (p3_slice sl3_text (p3_var 4) po3_none (po3_some (p3_var 5))) (p3_slice sl3_text (p3_var 4) (po3_some (p3_op op3_add (p3_var 5) p3_int)) po3_none)) (g3_lsub (p3_var 0) (p3_var 3)))) s3_nil)
   (s3_cons (s3_if (p3_tw (p3_wand (p3_tcmp (op3_eq hr.units) (p3_var 1) p3_int) (p3_wand1 (p3_tcmp (op3_eq hr.units) (p3_op op3_mod (p3_op op3_fdiv (p3_var 2) p3_int) p3_int) p3_int)))) (s3_one (s3_asg (p3_op op3_add (p3_op op3_add (p3_slice sl3_text (p3_var 4) po3_none (po3_some (p3_var 5))) p3_str) (p3_slice sl3_text (p3_var 4) (po3_some (p3_var 5)) po3_none)) (g3_lsub (p3_var 0) (p3_var 3)))) s3_nil)
   (s3_cons (s3_if (p3_tw (p3_wand (p3_tcmp (op3_eq hr.units) (p3_var 1) p3_int) (p3_wand1 (p3_tcmp (op3_eq hr.units) (p3_op op3_mod (p3_op op3_fdiv (p3_var 2) p3_int) p3_int) p3_int)))) (s3_one (s3_expr (p3_bm PySem.F.slot_list_insert PySem.F.type_list_insert mt3_ins (p3_var 0) (a3_cons (p3_var 3) (a3_cons p3_str a3_nil))))) s3_nil)
   (s3_cons (s3_if (p3_tw (p3_wand (p3_tcmp (op3_eq hr.units) (p3_var 1) p3_int) (p3_wand1 (p3_tcmp (op3_eq hr.units) (p3_op op3_mod (p3_op op3_fdiv (p3_var 2) p3_int) p3_int) p3_int)))) (s3_one (s3_expr (p3_bm PySem.F.slot_list_pop PySem.F.type_list_pop mt3_popI (p3_var 0) (a3_cons (p3_var 3) a3_nil)))) s3_nil)
   (s3_one (s3_ret (p3_var 0)))))))))))) rd_l_spoilt
theorem ok_reached_within (T:Tx K mg w):Fn P w K mg base 2 "reached_within" P_reached_within sp_reached_within :=
 fn3i (t:=t_reached_within) T.f_reached_within sc_reached_within len_reached_within (fun f cdv A outer s H E hr => (s3_cons (s3_set 2 sc_reached_within.nd (p3_callTy (cb3_dict rfl hr.units) rfl T.m_dict (by rfl) (a3_cons (p3_comp (fv:=[]) (by show CompOk (defScope s_reached_within) N_reached_within _ _ _ _; exact ⟨rfl,by decide +kernel,by decide +kernel,by decide +kernel,rfl,by decide +kernel,by decide +kernel⟩) rfl (i3_list (p3_var 0)) (fun pins cl s1 H1 fp => ifs3_nil) (fun pins cl s1 H1 fp => (p3_tup (a3_cons (p3_var 0) (a3_cons p3_bl a3_nil))))) a3_nil)))
   (s3_cons (s3_set 3 sc_reached_within.nd (p3_disp1 hr.units0 (p3_var 1) p3_bl))
   (s3_cons (s3_set 4 sc_reached_within.nd (p3_lst (a3_cons (p3_var 1) a3_nil)))
   (s3_cons (s3_while PassesOwn.never (p3_tcmp op3_gt (p3_callB cb3_len rfl T.m_len (by rfl) (a3_cons (p3_var 4) a3_nil)) p3_int) (s3_cons (s3_set 5 sc_reached_within.nd (p3_bm0 PySem.F.slot_list_pop PySem.F.type_list_pop mt3_pop (p3_var 4)))
   (s3_one (s3_for PassesOwn.never rfl (i3_list (p3_call (ok_around T) (hr.mono (by decide)) (a3_cons (p3_var 5) a3_nil))) (g3_name 6 sc_reached_within.nd) (s3_one (s3_if (p3_tw (p3_wand (p3_tcmp (op3_inX hr.units) (p3_var 6) (p3_var 2)) (p3_wand1 (p3_tcmp (op3_notInX hr.units) (p3_var 6) (p3_var 3))))) (s3_cons (s3_dput hr.units (p3_var 3) (p3_var 6) p3_bl)
   (s3_one (s3_expr (p3_bm PySem.F.slot_list_append PySem.F.type_list_append mt3_app (p3_var 4) (a3_cons (p3_var 6) a3_nil))))) s3_nil))))))
   (s3_one (s3_ret (p3_var 3)))))))) rd_reached_within
theorem ok_moved (T:Tx K mg w):Fn P w K mg base 2 "moved" P_moved sp_moved :=
 fn3i (t:=t_moved) T.f_moved sc_moved len_moved (fun f cdv A outer s H E hr => (s3_one (s3_ret (p3_callTy cb3_tuple rfl T.m_tuple (by rfl) (a3_cons (p3_comp (fv:=[(1, "shift")]) (by show CompOk (defScope s_moved) N_moved _ _ _ _; exact ⟨rfl,by decide +kernel,by decide +kernel,by decide +kernel,rfl,by decide +kernel,by decide +kernel⟩) rfl (i3_tup (p3_var 0)) (fun pins cl s1 H1 fp => ifs3_nil) (fun pins cl s1 H1 fp => (p3_call (ok_added T) (hr.mono (by decide)) (a3_cons (p3_var 0) (a3_cons (p3_var 1) a3_nil))))) a3_nil))))) rd_moved
theorem ok_l_mix (T:Tx K mg w):Fn P w K mg base 2 "_law_mix" P_l_mix sp_l_mix :=
 fn3i (t:=t_l_mix) T.f_l_mix sc_l_mix len_l_mix (fun f cdv A outer s H E hr => (s3_one (s3_ret (p3_op op3_mod (p3_op op3_mul (p3_op op3_mod (p3_op op3_mul (p3_op op3_add (p3_op op3_add (p3_call (ok_l_cell_at T) (hr.mono (by decide)) (a3_cons (p3_var 0) (a3_cons (p3_var 1) a3_nil))) (p3_op op3_mul (p3_op op3_mul p3_int (p3_var 1)) (p3_var 1))) p3_int) p3_int) p3_int) p3_int) p3_int)))) rd_l_mix
theorem ok_l_is_pair (T:Tx K mg w):Fn P w K mg base 2 "_law_is_pair" P_l_is_pair sp_l_is_pair :=
 fn3i (t:=t_l_is_pair) T.f_l_is_pair sc_l_is_pair len_l_is_pair (fun f cdv A outer s H E hr => (s3_one (s3_ret (p3_and (p3_callB cb3_isi rfl T.m_isinstance (by rfl) (a3_cons (p3_var 0) (a3_cons (p3_ty rfl T.m_tuple (by rfl)) a3_nil))) (p3_and (p3_cmp (op3_eq hr.units) (p3_callB cb3_len rfl T.m_len (by rfl) (a3_cons (p3_var 0) a3_nil)) p3_int) (p3_and (p3_call (ok_l_whole T) (hr.mono (by decide)) (a3_cons (p3_ix ix3 (p3_var 0) p3_int) a3_nil)) (p3_one (p3_call (ok_l_whole T) (hr.mono (by decide)) (a3_cons (p3_ix ix3 (p3_var 0) p3_int) a3_nil))))))))) rd_l_is_pair
theorem ok_l_reached (T:Tx K mg w):Fn P w K mg base 2 "_law_reached" P_l_reached sp_l_reached :=
 fn3i (t:=t_l_reached) T.f_l_reached sc_l_reached len_l_reached (fun f cdv A outer s H E hr => (s3_cons (s3_set 2 sc_l_reached.nd p3_dnew)
   (s3_cons (s3_for PassesOwn.never rfl (i3_list (p3_var 1)) (g3_name 3 sc_l_reached.nd) (s3_one (s3_dput hr.units (p3_var 2) (p3_var 3) p3_bl)))
   (s3_cons (s3_set 4 sc_l_reached.nd (p3_disp1 hr.units0 (p3_var 0) p3_bl))
   (s3_cons (s3_set 5 sc_l_reached.nd (p3_lst (a3_cons (p3_var 0) a3_nil)))
   (s3_cons (s3_while PassesOwn.never (p3_tcmp op3_gt (p3_callB cb3_len rfl T.m_len (by rfl) (a3_cons (p3_var 5) a3_nil)) p3_int) (s3_one (s3_for PassesOwn.never rfl (i3_list (p3_call (ok_l_beside T) (hr.mono (by decide)) (a3_cons (p3_bm0 PySem.F.slot_list_pop PySem.F.type_list_pop mt3_pop (p3_var 5)) a3_nil))) (g3_name 3 sc_l_reached.nd) (s3_one (s3_if (p3_tw (p3_wand (p3_tcmp (op3_inX hr.units) (p3_var 3) (p3_var 2)) (p3_wand1 (p3_tcmp (op3_notInX hr.units) (p3_var 3) (p3_var 4))))) (s3_cons (s3_dput hr.units (p3_var 4) (p3_var 3) p3_bl)
   (s3_one (s3_expr (p3_bm PySem.F.slot_list_append PySem.F.type_list_append mt3_app (p3_var 5) (a3_cons (p3_var 3) a3_nil))))) s3_nil)))))
   (s3_one (s3_ret (p3_var 4))))))))) rd_l_reached
theorem ok_l_cells (T:Tx K mg w):Fn P w K mg base 2 "_law_cells" P_l_cells sp_l_cells :=
 fn3i (t:=t_l_cells) T.f_l_cells sc_l_cells len_l_cells (fun f cdv A outer s H E hr => (s3_cons (s3_set 1 sc_l_cells.nd (p3_zm PySem.F.slot_str_split PySem.F.type_str_split mt3_split (p3_var 0) (a3_cons p3_str a3_nil)))
   (s3_cons (s3_set 2 sc_l_cells.nd (p3_lst a3_nil))
   (s3_cons (s3_for PassesOwn.never rfl (i3_rng1 T.m_range (p3_callB cb3_len rfl T.m_len (by rfl) (a3_cons (p3_var 1) a3_nil))) (g3_name 3 sc_l_cells.nd) (s3_cons (s3_if (p3_tw (p3_wor (p3_tcmp (op3_eq hr.units) (p3_ix ix3 (p3_var 1) (p3_var 3)) p3_str) (p3_wor1 (p3_tcmp (op3_ne hr.units) (p3_callB cb3_len rfl T.m_len (by rfl) (a3_cons (p3_ix ix3 (p3_var 1) (p3_var 3)) a3_nil)) (p3_callB cb3_len rfl T.m_len (by rfl) (a3_cons (p3_ix ix3 (p3_var 1) p3_int) a3_nil)))))) (s3_one (s3_ret p3_non)) s3_nil)
   (s3_one (s3_for PassesOwn.never rfl (i3_rng1 T.m_range (p3_callB cb3_len rfl T.m_len (by rfl) (a3_cons (p3_ix ix3 (p3_var 1) (p3_var 3)) a3_nil))) (g3_name 4 sc_l_cells.nd) (s3_cons (s3_if (p3_tcmp op3_ninZ (p3_ix ix3 (p3_ix ix3 (p3_var 1) (p3_var 3)) (p3_var 4)) p3_str) (s3_one (s3_ret p3_non)) s3_nil)
   (s3_one (s3_if (p3_tcmp (op3_eq hr.units) (p3_ix ix3 (p3_ix ix3 (p3_var 1) (p3_var 3)) (p3_var 4)) p3_str) (s3_one (s3_expr (p3_bm PySem.F.slot_list_append PySem.F.type_list_append mt3_app (p3_var 2) (a3_cons (p3_tup (a3_cons (p3_var 4) (a3_cons (p3_op op3_sub (p3_op op3_sub (p3_callB cb3_len rfl T.m_len (by rfl) (a3_cons (p3_var 1) a3_nil)) p3_int) (p3_var 3)) a3_nil))) a3_nil)))) s3_nil)))))))
   (s3_one (s3_ret (p3_call (ok_l_sorted T) (hr.mono (by decide)) (a3_cons (p3_var 2) a3_nil)))))))) rd_l_cells
theorem ok_first_cut_off (T:Tx K mg w):Fn P w K mg base 3 "first_cut_off" P_first_cut_off sp_first_cut_off :=
 fn3i (t:=t_first_cut_off) T.f_first_cut_off sc_first_cut_off len_first_cut_off (fun f cdv A outer s H E hr => (s3_cons (s3_set 1 sc_first_cut_off.nd (p3_call (ok_reached_within T) (hr.mono (by decide)) (a3_cons (p3_var 0) (a3_cons (p3_ix ix3 (p3_var 0) p3_int) a3_nil))))
   (s3_cons (s3_for PassesOwn.never rfl (i3_list (p3_var 0)) (g3_name 2 sc_first_cut_off.nd) (s3_one (s3_if (p3_tcmp (op3_notInX hr.units) (p3_var 2) (p3_var 1)) (s3_one (s3_ret (p3_var 2))) s3_nil)))
   (s3_one (s3_ret p3_non))))) rd_first_cut_off
theorem ok_settled (T:Tx K mg w):Fn P w K mg base 3 "settled" P_settled sp_settled :=
 fn3i (t:=t_settled) T.f_settled sc_settled len_settled (fun f cdv A outer s H E hr => (s3_cons (s3_set 1 sc_settled.nd (p3_callB (cb3_min rfl) rfl T.m_min (by rfl) (a3_cons (p3_comp (fv:=[]) (by show CompOk (defScope s_settled) N_settled _ _ _ _; exact ⟨rfl,by decide +kernel,by decide +kernel,by decide +kernel,rfl,by decide +kernel,by decide +kernel⟩) rfl (i3_tup (p3_var 0)) (fun pins cl s1 H1 fp => ifs3_nil) (fun pins cl s1 H1 fp => (p3_ix ix3 (p3_var 0) p3_int))) a3_nil)))
   (s3_cons (s3_set 2 sc_settled.nd (p3_callB (cb3_min rfl) rfl T.m_min (by rfl) (a3_cons (p3_comp (fv:=[]) (by show CompOk (defScope s_settled) N_settled _ _ _ _; exact ⟨rfl,by decide +kernel,by decide +kernel,by decide +kernel,rfl,by decide +kernel,by decide +kernel⟩) rfl (i3_tup (p3_var 0)) (fun pins cl s1 H1 fp => ifs3_nil) (fun pins cl s1 H1 fp => (p3_ix ix3 (p3_var 0) p3_int))) a3_nil)))
   (s3_one (s3_ret (p3_call (ok_moved T) (hr.mono (by decide)) (a3_cons (p3_var 0) (a3_cons (p3_tup (a3_cons (p3_un un3_neg (p3_var 1)) (a3_cons (p3_un un3_neg (p3_var 2)) a3_nil))) a3_nil)))))))) rd_settled
theorem ok_l_is_piece (T:Tx K mg w):Fn P w K mg base 3 "_law_is_piece" P_l_is_piece sp_l_is_piece :=
 fn3i (t:=t_l_is_piece) T.f_l_is_piece sc_l_is_piece len_l_is_piece (fun f cdv A outer s H E hr => (s3_cons (s3_if (p3_tw (p3_wor (p3_tnot (p3_tval (p3_callB cb3_isi rfl T.m_isinstance (by rfl) (a3_cons (p3_var 0) (a3_cons (p3_ty rfl T.m_tuple (by rfl)) a3_nil))))) (p3_wor1 (p3_tcmp (op3_ne hr.units) (p3_callB cb3_len rfl T.m_len (by rfl) (a3_cons (p3_var 0) a3_nil)) (p3_callB cb3_len rfl T.m_len (by rfl) (a3_cons (p3_var 1) a3_nil)))))) (s3_one (s3_ret p3_bl)) s3_nil)
   (s3_cons (s3_for PassesOwn.never rfl (i3_rng1 T.m_range (p3_callB cb3_len rfl T.m_len (by rfl) (a3_cons (p3_var 1) a3_nil))) (g3_name 2 sc_l_is_piece.nd) (s3_one (s3_if (p3_tw (p3_wor (p3_tnot (p3_tval (p3_call (ok_l_is_pair T) (hr.mono (by decide)) (a3_cons (p3_ix ix3 (p3_var 0) (p3_var 2)) a3_nil)))) (p3_wor1 (p3_tcmp (op3_ne hr.units) (p3_ix ix3 (p3_var 0) (p3_var 2)) (p3_ix ix3 (p3_var 1) (p3_var 2)))))) (s3_one (s3_ret p3_bl)) s3_nil)))
   (s3_one (s3_ret p3_bl))))) rd_l_is_piece
theorem ok_l_rows (T:Tx K mg w):Fn P w K mg base 3 "_law_rows" P_l_rows sp_l_rows :=
 fn3i (t:=t_l_rows) T.f_l_rows sc_l_rows len_l_rows (fun f cdv A outer s H E hr => (s3_cons (s3_set 1 sc_l_rows.nd (p3_op op3_add p3_int (p3_op op3_mod (p3_call (ok_l_cell_at T) (hr.mono (by decide)) (a3_cons (p3_var 0) (a3_cons p3_int a3_nil))) p3_int)))
   (s3_cons (s3_set 2 sc_l_rows.nd (p3_lst a3_nil))
   (s3_cons (s3_for PassesOwn.never rfl (i3_rng1 T.m_range (p3_op op3_add p3_int (p3_op op3_mod (p3_call (ok_l_cell_at T) (hr.mono (by decide)) (a3_cons (p3_var 0) (a3_cons p3_int a3_nil))) p3_int))) (g3_name 3 sc_l_rows.nd) (s3_cons (s3_set 4 sc_l_rows.nd p3_str)
   (s3_cons (s3_for PassesOwn.never rfl (i3_rng1 T.m_range (p3_var 1)) (g3_name 5 sc_l_rows.nd) (s3_one (s3_set 4 sc_l_rows.nd (p3_op op3_add (p3_var 4) (p3_ix ix3 p3_str (p3_op op3_mod (p3_call (ok_l_mix T) (hr.mono (by decide)) (a3_cons (p3_var 0) (a3_cons (p3_op op3_add (p3_op op3_add p3_int (p3_op op3_mul p3_int (p3_var 3))) (p3_var 5)) a3_nil))) (p3_op op3_add p3_int (p3_op op3_mod (p3_call (ok_l_cell_at T) (hr.mono (by decide)) (a3_cons (p3_var 0) (a3_cons p3_int a3_nil))) p3_int))))))))
   (s3_one (s3_expr (p3_bm PySem.F.slot_list_append PySem.F.type_list_append mt3_app (p3_var 2) (a3_cons (p3_var 4) a3_nil)))))))
   (s3_one (s3_ret (p3_var 2))))))) rd_l_rows
theorem ok_l_due (T:Tx K mg w):Fn P w K mg base 3 "_law_due" P_l_due sp_l_due :=
 fn3i (t:=t_l_due) T.f_l_due sc_l_due len_l_due (fun f cdv A outer s H E hr => (s3_cons (s3_if (p3_tcmp op3_isN (p3_var 0) p3_non) (s3_one (s3_ret (p3_lst (a3_cons p3_str (a3_cons p3_non a3_nil))))) s3_nil)
   (s3_cons (s3_if (p3_tcmp (op3_eq hr.units) (p3_callB cb3_len rfl T.m_len (by rfl) (a3_cons (p3_var 0) a3_nil)) p3_int) (s3_one (s3_ret (p3_lst (a3_cons p3_str (a3_cons p3_non a3_nil))))) s3_nil)
   (s3_cons (s3_if (p3_tcmp op3_gt (p3_callB cb3_len rfl T.m_len (by rfl) (a3_cons (p3_var 0) a3_nil)) p3_int) (s3_one (s3_ret (p3_lst (a3_cons p3_str (a3_cons p3_non a3_nil))))) s3_nil)
   (s3_cons (s3_set 1 sc_l_due.nd (p3_call (ok_l_reached T) (hr.mono (by decide)) (a3_cons (p3_ix ix3 (p3_var 0) p3_int) (a3_cons (p3_var 0) a3_nil))))
   (s3_cons (s3_for PassesOwn.never rfl (i3_list (p3_var 0)) (g3_name 2 sc_l_due.nd) (s3_one (s3_if (p3_tcmp (op3_notInX hr.units) (p3_var 2) (p3_var 1)) (s3_one (s3_ret (p3_lst (a3_cons p3_str (a3_cons (p3_var 2) a3_nil))))) s3_nil)))
   (s3_cons (s3_set 3 sc_l_due.nd (p3_call (ok_l_empties T) (hr.mono (by decide)) (a3_cons (p3_var 0) a3_nil)))
   (s3_cons (s3_set 1 sc_l_due.nd (p3_call (ok_l_reached T) (hr.mono (by decide)) (a3_cons (p3_ix ix3 (p3_var 3) p3_int) (a3_cons (p3_var 3) a3_nil))))
   (s3_cons (s3_for PassesOwn.never rfl (i3_list (p3_var 3)) (g3_name 2 sc_l_due.nd) (s3_one (s3_if (p3_tcmp (op3_notInX hr.units) (p3_var 2) (p3_var 1)) (s3_one (s3_ret (p3_lst (a3_cons p3_str (a3_cons (p3_var 2) a3_nil))))) s3_nil)))
   (s3_cons (s3_set 4 sc_l_due.nd (p3_callB (cb3_min rfl) rfl T.m_min (by rfl) (a3_cons (p3_comp (fv:=[]) (by show CompOk (defScope s_l_due) N_l_due _ _ _ _; exact ⟨rfl,by decide +kernel,by decide +kernel,by decide +kernel,rfl,by decide +kernel,by decide +kernel⟩) rfl (i3_list (p3_var 0)) (fun pins cl s1 H1 fp => ifs3_nil) (fun pins cl s1 H1 fp => (p3_ix ix3 (p3_var 0) p3_int))) a3_nil)))
   (s3_cons (s3_set 5 sc_l_due.nd (p3_callB (cb3_min rfl) rfl T.m_min (by rfl) (a3_cons (p3_comp (fv:=[]) (by show CompOk (defScope s_l_due) N_l_due _ _ _ _; exact ⟨rfl,by decide +kernel,by decide +kernel,by decide +kernel,rfl,by decide +kernel,by decide +kernel⟩) rfl (i3_list (p3_var 0)) (fun pins cl s1 H1 fp => ifs3_nil) (fun pins cl s1 H1 fp => (p3_ix ix3 (p3_var 0) p3_int))) a3_nil)))
   (s3_one (s3_ret (p3_lst (a3_cons p3_str (a3_cons (p3_comp (fv:=[(4, "_law_west"),(5, "_law_low")]) (by show CompOk (defScope s_l_due) N_l_due _ _ _ _; exact ⟨rfl,by decide +kernel,by decide +kernel,by decide +kernel,rfl,by decide +kernel,by decide +kernel⟩) rfl (i3_list (p3_var 0)) (fun pins cl s1 H1 fp => ifs3_nil) (fun pins cl s1 H1 fp => (p3_tup (a3_cons (p3_op op3_sub (p3_ix ix3 (p3_var 0) p3_int) (p3_var 1)) (a3_cons (p3_op op3_sub (p3_ix ix3 (p3_var 0) p3_int) (p3_var 2)) a3_nil))))) a3_nil)))))))))))))))) rd_l_due
theorem ok_in_order (T:Tx K mg w):Fn P w K mg base 4 "in_order" P_in_order sp_in_order :=
 fn3i (t:=t_in_order) T.f_in_order sc_in_order len_in_order (fun f cdv A outer s H E hr => (s3_one (s3_ret (p3_sortedK (ok_rank_of T) (hr.mono (by decide)) T.m_sorted (p3_var 0))))) rd_in_order
theorem ok_unlike_in_order (T:Tx K mg w):Fn P w K mg base 5 "unlike_in_order" P_unlike_in_order sp_unlike_in_order :=
 fn3i (t:=t_unlike_in_order) T.f_unlike_in_order sc_unlike_in_order len_unlike_in_order (fun f cdv A outer s H E hr => (s3_cons (s3_set 1 sc_unlike_in_order.nd (p3_lst a3_nil))
   (s3_cons (s3_for PassesOwn.never rfl (i3_list (p3_call (ok_in_order T) (hr.mono (by decide)) (a3_cons (p3_var 0) a3_nil))) (g3_name 2 sc_unlike_in_order.nd) (s3_one (s3_if (p3_tw (p3_wor (p3_tcmp (op3_eq hr.units) (p3_callB cb3_len rfl T.m_len (by rfl) (a3_cons (p3_var 1) a3_nil)) p3_int) (p3_wor1 (p3_tcmp (op3_ne hr.units) (p3_ix ix3 (p3_var 1) (p3_un un3_neg p3_int)) (p3_var 2))))) (s3_one (s3_expr (p3_bm PySem.F.slot_list_append PySem.F.type_list_append mt3_app (p3_var 1) (a3_cons (p3_var 2) a3_nil)))) s3_nil)))
   (s3_one (s3_ret (p3_var 1)))))) rd_unlike_in_order
theorem okE_piece_of (T:Tx K mg w):FnE P w K mg base 6 "piece_of" P_piece_of sp_piece_of :=
 fnE3i (te:=t_piece_of) T.f_piece_of sc_piece_of len_piece_of (fun f cdv A outer s H E E3 hr kx => (s3_cons (s3_nox (s3_set 1 sc_piece_of.nd (p3_call (ok_unlike_in_order T) (hr.mono (by decide)) (a3_cons (p3_var 0) a3_nil))))
   (s3_cons (s3_if (t3_nox (p3_tcmp (op3_eq hr.units) (p3_callB cb3_len rfl T.m_len (by rfl) (a3_cons (p3_var 1) a3_nil)) p3_int)) (s3_one (s3_raise rises_def kx T.x_NoPiece rfl p3_str)) s3_nil)
   (s3_cons (s3_if (t3_nox (p3_tcmp op3_gt (p3_callB cb3_len rfl T.m_len (by rfl) (a3_cons (p3_var 1) a3_nil)) (p3_globE rfl T.c_MOST_CELLS))) (s3_one (s3_raise rises_def kx T.x_TooMany rfl p3_str)) s3_nil)
   (s3_cons (s3_nox (s3_set 2 sc_piece_of.nd (p3_call (ok_first_cut_off T) (hr.mono (by decide)) (a3_cons (p3_var 1) a3_nil))))
   (s3_cons (s3_if (t3_nox (p3_tcmp op3_notN (p3_var 2) p3_non)) (s3_one (s3_raiseF rises_def kx (okx_Apart T) (hr.mono (by decide)) rfl (p3_var 2))) s3_nil)
   (s3_cons (s3_nox (s3_set 3 sc_piece_of.nd (p3_call (ok_first_cut_off T) (hr.mono (by decide)) (a3_cons (p3_call (ok_empty_in_box T) (hr.mono (by decide)) (a3_cons (p3_var 1) a3_nil)) a3_nil))))
   (s3_cons (s3_if (t3_nox (p3_tcmp op3_notN (p3_var 3) p3_non)) (s3_one (s3_raiseF rises_def kx (okx_Hole T) (hr.mono (by decide)) rfl (p3_var 3))) s3_nil)
   (s3_one (s3_nox (s3_ret (p3_callTy cb3_tuple rfl T.m_tuple (by rfl) (a3_cons (p3_var 1) a3_nil))))))))))))) rd_piece_of
theorem okE_read_drawing (T:Tx K mg w):FnE P w K mg base 7 "read_drawing" P_read_drawing sp_read_drawing :=
 fnE3i (te:=t_read_drawing) T.f_read_drawing sc_read_drawing len_read_drawing (fun f cdv A outer s H E E3 hr kx => (s3_one (s3_ret (p3_call (ok_settled T) (hr.mono (by decide)) (a3_cons (p3_callX (okE_piece_of T) (hr.mono (by decide)) passes_def kx (a3_cons (p3_call (ok_cells_in T) (hr.mono (by decide)) (a3_cons (pe_of_x (p3_callE (okE_rows_of T) (hr.mono (by decide)) (a3_cons (p3_var 0) a3_nil)) passes_def kx) a3_nil)) a3_nil)) a3_nil))))) rd_read_drawing
theorem law_ok (T:Tx K mg w) {f:Addr} {fd:FuncData} (F:Fun K "law" "law" s_law f fd):FnOk P w K mg base CX0 8 f fd P_law (liftF K sp_law) :=
 fnok3 F sc_law len_law fun cdv A outer s H E hr => ⟨t_law,(s3_cons (s3_set 1 sc_law.nd (p3_call (ok_l_spoilt T) (hr.mono (by decide)) (a3_cons (p3_call (ok_l_rows T) (hr.mono (by decide)) (a3_cons (p3_var 0) a3_nil)) (a3_cons (p3_op op3_mod (p3_call (ok_l_cell_at T) (hr.mono (by decide)) (a3_cons (p3_var 0) (a3_cons p3_int a3_nil))) p3_int) (a3_cons (p3_call (ok_l_mix T) (hr.mono (by decide)) (a3_cons (p3_var 0) (a3_cons p3_int a3_nil))) a3_nil)))))
   (s3_cons (s3_set 2 sc_law.nd (p3_zm PySem.F.slot_str_join PySem.F.type_str_join mt3_join p3_str (a3_cons (p3_var 1) a3_nil)))
   (s3_cons (s3_if (p3_tcmp (op3_eq hr.units) (p3_op op3_mod (p3_op op3_fdiv (p3_call (ok_l_cell_at T) (hr.mono (by decide)) (a3_cons (p3_var 0) (a3_cons p3_int a3_nil))) p3_int) p3_int) p3_int) (s3_one (s3_set 2 sc_law.nd p3_str)) s3_nil)
   (s3_cons (s3_set 3 sc_law.nd (p3_call (ok_l_due T) (hr.mono (by decide)) (a3_cons (p3_call (ok_l_cells T) (hr.mono (by decide)) (a3_cons (p3_var 2) a3_nil)) a3_nil)))
   (s3_cons (s3_set 4 sc_law.nd p3_non)
   (s3_cons (s3_set 5 sc_law.nd p3_non)
   (s3_cons (s3_tryA 6 sc_law.nd (sx_set 5 sc_law.nd (p3_callE (okE_read_drawing T) (hr.mono (by decide)) (a3_cons (p3_var 2) a3_nil))) (subs_cons T.s_NoPiece_FloorError (subs_cons T.s_TooMany_FloorError (subs_cons T.s_Apart_FloorError (subs_cons T.s_Hole_FloorError (subs_cons T.s_NoDrawing_FloorError subs_nil))))) (fun A2 => (s3_one (s3_set 4 sc_law.nd (p3_var 6)))))
   (s3_cons (s3_if (p3_tcmp op3_isN (p3_var 4) p3_non) (s3_one (s3_ret (p3_and (p3_cmp (op3_eq hr.units) (p3_ix ix3 (p3_var 3) p3_int) p3_str) (p3_one (p3_call (ok_l_is_piece T) (hr.mono (by decide)) (a3_cons (p3_var 5) (a3_cons (p3_ix ix3 (p3_var 3) p3_int) a3_nil))))))) s3_nil)
   (s3_cons (s3_if (p3_tcmp (op3_ne hr.units) (p3_call (ok_l_kinds T) (hr.mono (by decide)) (a3_cons (p3_var 4) a3_nil)) (p3_lst (a3_cons (p3_ix ix3 (p3_var 3) p3_int) a3_nil))) (s3_one (s3_ret p3_bl)) s3_nil)
   (s3_cons (s3_if (p3_tcmp op3_isN (p3_ix ix3 (p3_var 3) p3_int) p3_non) (s3_one (s3_ret p3_bl)) s3_nil)
   (s3_one (s3_ret (p3_and (p3_call (ok_l_is_pair T) (hr.mono (by decide)) (a3_cons (p3_xget T.xf_cell (p3_var 4)) a3_nil)) (p3_one (p3_cmp (op3_eq hr.units) (p3_xget T.xf_cell (p3_var 4)) (p3_ix ix3 (p3_var 3) p3_int)))))))))))))))),rd_law⟩
end
theorem all_mk {l:PySem.W.OpenLaw} {w:World} {K:PySem.W.Frag} {h:Heap} {mg:Str→Option Value} {fa f28:Addr} (X:K.In h) (G:h.Ns mainGlobals mg) (hfa:mg "law" = some (.ref fa))
  {od28 an28:Option Addr} {sl28:Array (Option Value)} {oc28 kV28 dc28 pm28 cd28 ct28:Value}
  {tk0 tk1 tk2 tk3:Tok}
  (q0:FnIn K mg "rank_of" s_rank_of P_rank_of)
  (q1:FnIn K mg "in_order" s_in_order P_in_order)
  (q2:FnIn K mg "around" s_around P_around)
  (q3:FnIn K mg "added" s_added P_added)
  (q4:FnIn K mg "unlike_in_order" s_unlike_in_order P_unlike_in_order)
  (q5:FnIn K mg "reached_within" s_reached_within P_reached_within)
  (q6:FnIn K mg "first_cut_off" s_first_cut_off P_first_cut_off)
  (q7:FnIn K mg "empty_in_box" s_empty_in_box P_empty_in_box)
  (q8:FnIn K mg "piece_of" s_piece_of P_piece_of)
  (q9:FnIn K mg "moved" s_moved P_moved)
  (q10:FnIn K mg "settled" s_settled P_settled)
  (q11:FnIn K mg "rows_of" s_rows_of P_rows_of)
  (q12:FnIn K mg "cells_in" s_cells_in P_cells_in)
  (q13:FnIn K mg "read_drawing" s_read_drawing P_read_drawing)
  (q14:FnIn K mg "_law_cell_at" s_l_cell_at P_l_cell_at)
  (q15:FnIn K mg "_law_mix" s_l_mix P_l_mix)
  (q16:FnIn K mg "_law_whole" s_l_whole P_l_whole)
  (q17:FnIn K mg "_law_is_pair" s_l_is_pair P_l_is_pair)
  (q18:FnIn K mg "_law_is_piece" s_l_is_piece P_l_is_piece)
  (q19:FnIn K mg "_law_sorted" s_l_sorted P_l_sorted)
  (q20:FnIn K mg "_law_beside" s_l_beside P_l_beside)
  (q21:FnIn K mg "_law_reached" s_l_reached P_l_reached)
  (q22:FnIn K mg "_law_empties" s_l_empties P_l_empties)
  (q23:FnIn K mg "_law_kinds" s_l_kinds P_l_kinds)
  (q24:FnIn K mg "_law_rows" s_l_rows P_l_rows)
  (q25:FnIn K mg "_law_spoilt" s_l_spoilt P_l_spoilt)
  (q26:FnIn K mg "_law_cells" s_l_cells P_l_cells)
  (q27:FnIn K mg "_law_due" s_l_due P_l_due)
  (a28:PySem.W.nsIn K mainGlobals "law" = some (some (.ref f28))) (l28:K.lookup f28 = some ⟨oc28,od28,.func (PySem.W.fnOf "law" "law" (defArgs s_law) (defBody s_law) (defScope s_law) .none kV28 dc28 pm28 an28 cd28 ct28),sl28⟩) (c28:PySem.W.codeIn K cd28 "law" = true) (k28:PySem.W.keepIn K (.ref f28) = true)
  (z0:PySem.W.nsIn K mainGlobals "ValueError" = some none)
  (z1:PySem.W.nsIn K mainGlobals "bool" = some none)
  (z2:PySem.W.nsIn K mainGlobals "dict" = some none)
  (z3:PySem.W.nsIn K mainGlobals "enumerate" = some none)
  (z4:PySem.W.nsIn K mainGlobals "int" = some none)
  (z5:PySem.W.nsIn K mainGlobals "isinstance" = some none)
  (z6:PySem.W.nsIn K mainGlobals "len" = some none)
  (z7:PySem.W.nsIn K mainGlobals "max" = some none)
  (z8:PySem.W.nsIn K mainGlobals "min" = some none)
  (z9:PySem.W.nsIn K mainGlobals "range" = some none)
  (z10:PySem.W.nsIn K mainGlobals "reversed" = some none)
  (z11:PySem.W.nsIn K mainGlobals "sorted" = some none)
  (z12:PySem.W.nsIn K mainGlobals "tuple" = some none)
  (y0:PySem.W.nsIn K mainGlobals "MOST_CELLS" = some (some (.int 10 tk0)))
  (y1:PySem.W.nsIn K mainGlobals "CROSS" = some (some (.str "#" tk1)))
  (y2:PySem.W.nsIn K mainGlobals "POINT" = some (some (.str "." tk2)))
  (y3:PySem.W.nsIn K mainGlobals "PARTER" = some (some (.str "/" tk3)))
  {XC_Apart XC_Backward XC_Crossed XC_FloorError XC_Hole XC_NoDrawing XC_NoFloor XC_NoGrid XC_NoLine XC_NoPiece XC_NoWord XC_NotAsMany XC_Nothing XC_Open XC_TooMany:Addr}
  (xa_Apart:PySem.W.nsIn K mainGlobals "Apart" = some (some (.ref XC_Apart)))
  (xa_Backward:PySem.W.nsIn K mainGlobals "Backward" = some (some (.ref XC_Backward)))
  (xa_Crossed:PySem.W.nsIn K mainGlobals "Crossed" = some (some (.ref XC_Crossed)))
  (xa_FloorError:PySem.W.nsIn K mainGlobals "FloorError" = some (some (.ref XC_FloorError)))
  (xa_Hole:PySem.W.nsIn K mainGlobals "Hole" = some (some (.ref XC_Hole)))
  (xa_NoDrawing:PySem.W.nsIn K mainGlobals "NoDrawing" = some (some (.ref XC_NoDrawing)))
  (xa_NoFloor:PySem.W.nsIn K mainGlobals "NoFloor" = some (some (.ref XC_NoFloor)))
  (xa_NoGrid:PySem.W.nsIn K mainGlobals "NoGrid" = some (some (.ref XC_NoGrid)))
  (xa_NoLine:PySem.W.nsIn K mainGlobals "NoLine" = some (some (.ref XC_NoLine)))
  (xa_NoPiece:PySem.W.nsIn K mainGlobals "NoPiece" = some (some (.ref XC_NoPiece)))
  (xa_NoWord:PySem.W.nsIn K mainGlobals "NoWord" = some (some (.ref XC_NoWord)))
  (xa_NotAsMany:PySem.W.nsIn K mainGlobals "NotAsMany" = some (some (.ref XC_NotAsMany)))
  (xa_Nothing:PySem.W.nsIn K mainGlobals "Nothing" = some (some (.ref XC_Nothing)))
  (xa_Open:PySem.W.nsIn K mainGlobals "Open" = some (some (.ref XC_Open)))
  (xa_TooMany:PySem.W.nsIn K mainGlobals "TooMany" = some (some (.ref XC_TooMany)))
  (xe_NoDrawing:PySem.W.excIn K XC_NoDrawing [.type "ValueError",.type "Exception",.type "BaseException",.type "object"] "ValueError.__new__" = true)
  (xe_NoPiece:PySem.W.excIn K XC_NoPiece [.type "ValueError",.type "Exception",.type "BaseException",.type "object"] "ValueError.__new__" = true)
  (xe_TooMany:PySem.W.excIn K XC_TooMany [.type "ValueError",.type "Exception",.type "BaseException",.type "object"] "ValueError.__new__" = true)
  (xs_Apart_FloorError:PySem.W.mroIn K XC_Apart (.ref XC_FloorError) = some true)
  (xs_Hole_FloorError:PySem.W.mroIn K XC_Hole (.ref XC_FloorError) = some true)
  (xs_NoDrawing_FloorError:PySem.W.mroIn K XC_NoDrawing (.ref XC_FloorError) = some true)
  (xs_NoPiece_FloorError:PySem.W.mroIn K XC_NoPiece (.ref XC_FloorError) = some true)
  (xs_TooMany_FloorError:PySem.W.mroIn K XC_TooMany (.ref XC_FloorError) = some true)
  (xb_FloorError:PySem.W.mroIn K XC_FloorError (.type "BaseException") = some true) (xt_FloorError:PySem.W.typeIn K (.ref XC_FloorError) = some (.type "type"))
  (x1_Apart:PySem.W.findIn K (.ref XC_Apart) "__getattribute__" = some (some (.builtin "BaseException.__getattribute__")))
  (x2_Apart:PySem.W.findIn K (.ref XC_Apart) "__getattr__" = some none)
  (x3_Apart:PySem.W.findIn K (.ref XC_Apart) "__class__" = some (some (.builtin "object.__class__")))
  (x4_Apart:PySem.W.specialIn K (.builtin "object.__class__") "__get__" = some (some (.builtin "getset_descriptor.__get__")))
  (x5_Apart:PySem.W.takesIn K (.builtin "object.__class__") = some true)
  (x6_Apart:PySem.W.mroIn K XC_Apart (.type "object") = some true)
  (x7_Apart:PySem.W.mroIn K XC_Apart (.type "BaseException") = some true)
  (x1_Hole:PySem.W.findIn K (.ref XC_Hole) "__getattribute__" = some (some (.builtin "BaseException.__getattribute__")))
  (x2_Hole:PySem.W.findIn K (.ref XC_Hole) "__getattr__" = some none)
  (x3_Hole:PySem.W.findIn K (.ref XC_Hole) "__class__" = some (some (.builtin "object.__class__")))
  (x4_Hole:PySem.W.specialIn K (.builtin "object.__class__") "__get__" = some (some (.builtin "getset_descriptor.__get__")))
  (x5_Hole:PySem.W.takesIn K (.builtin "object.__class__") = some true)
  (x6_Hole:PySem.W.mroIn K XC_Hole (.type "object") = some true)
  (x7_Hole:PySem.W.mroIn K XC_Hole (.type "BaseException") = some true)
  (x1_NoDrawing:PySem.W.findIn K (.ref XC_NoDrawing) "__getattribute__" = some (some (.builtin "BaseException.__getattribute__")))
  (x2_NoDrawing:PySem.W.findIn K (.ref XC_NoDrawing) "__getattr__" = some none)
  (x3_NoDrawing:PySem.W.findIn K (.ref XC_NoDrawing) "__class__" = some (some (.builtin "object.__class__")))
  (x4_NoDrawing:PySem.W.specialIn K (.builtin "object.__class__") "__get__" = some (some (.builtin "getset_descriptor.__get__")))
  (x5_NoDrawing:PySem.W.takesIn K (.builtin "object.__class__") = some true)
  (x6_NoDrawing:PySem.W.mroIn K XC_NoDrawing (.type "object") = some true)
  (x7_NoDrawing:PySem.W.mroIn K XC_NoDrawing (.type "BaseException") = some true)
  (x1_NoPiece:PySem.W.findIn K (.ref XC_NoPiece) "__getattribute__" = some (some (.builtin "BaseException.__getattribute__")))
  (x2_NoPiece:PySem.W.findIn K (.ref XC_NoPiece) "__getattr__" = some none)
  (x3_NoPiece:PySem.W.findIn K (.ref XC_NoPiece) "__class__" = some (some (.builtin "object.__class__")))
  (x4_NoPiece:PySem.W.specialIn K (.builtin "object.__class__") "__get__" = some (some (.builtin "getset_descriptor.__get__")))
  (x5_NoPiece:PySem.W.takesIn K (.builtin "object.__class__") = some true)
  (x6_NoPiece:PySem.W.mroIn K XC_NoPiece (.type "object") = some true)
  (x7_NoPiece:PySem.W.mroIn K XC_NoPiece (.type "BaseException") = some true)
  (x1_TooMany:PySem.W.findIn K (.ref XC_TooMany) "__getattribute__" = some (some (.builtin "BaseException.__getattribute__")))
  (x2_TooMany:PySem.W.findIn K (.ref XC_TooMany) "__getattr__" = some none)
  (x3_TooMany:PySem.W.findIn K (.ref XC_TooMany) "__class__" = some (some (.builtin "object.__class__")))
  (x4_TooMany:PySem.W.specialIn K (.builtin "object.__class__") "__get__" = some (some (.builtin "getset_descriptor.__get__")))
  (x5_TooMany:PySem.W.takesIn K (.builtin "object.__class__") = some true)
  (x6_TooMany:PySem.W.mroIn K XC_TooMany (.type "object") = some true)
  (x7_TooMany:PySem.W.mroIn K XC_TooMany (.type "BaseException") = some true)
  (xi_Apart_Apart:PySem.W.kitOne K (.ref XC_Apart) (.ref XC_Apart) = some true)
  (xi_Apart_Backward:PySem.W.kitOne K (.ref XC_Apart) (.ref XC_Backward) = some false)
  (xi_Apart_Crossed:PySem.W.kitOne K (.ref XC_Apart) (.ref XC_Crossed) = some false)
  (xi_Apart_Hole:PySem.W.kitOne K (.ref XC_Apart) (.ref XC_Hole) = some false)
  (xi_Apart_NoDrawing:PySem.W.kitOne K (.ref XC_Apart) (.ref XC_NoDrawing) = some false)
  (xi_Apart_NoFloor:PySem.W.kitOne K (.ref XC_Apart) (.ref XC_NoFloor) = some false)
  (xi_Apart_NoGrid:PySem.W.kitOne K (.ref XC_Apart) (.ref XC_NoGrid) = some false)
  (xi_Apart_NoLine:PySem.W.kitOne K (.ref XC_Apart) (.ref XC_NoLine) = some false)
  (xi_Apart_NoPiece:PySem.W.kitOne K (.ref XC_Apart) (.ref XC_NoPiece) = some false)
  (xi_Apart_NoWord:PySem.W.kitOne K (.ref XC_Apart) (.ref XC_NoWord) = some false)
  (xi_Apart_NotAsMany:PySem.W.kitOne K (.ref XC_Apart) (.ref XC_NotAsMany) = some false)
  (xi_Apart_Nothing:PySem.W.kitOne K (.ref XC_Apart) (.ref XC_Nothing) = some false)
  (xi_Apart_Open:PySem.W.kitOne K (.ref XC_Apart) (.ref XC_Open) = some false)
  (xi_Apart_TooMany:PySem.W.kitOne K (.ref XC_Apart) (.ref XC_TooMany) = some false)
  (xi_Apart_ValueError:PySem.W.kitOne K (.ref XC_Apart) (.type "ValueError") = some true)
  (xi_Hole_Apart:PySem.W.kitOne K (.ref XC_Hole) (.ref XC_Apart) = some false)
  (xi_Hole_Backward:PySem.W.kitOne K (.ref XC_Hole) (.ref XC_Backward) = some false)
  (xi_Hole_Crossed:PySem.W.kitOne K (.ref XC_Hole) (.ref XC_Crossed) = some false)
  (xi_Hole_Hole:PySem.W.kitOne K (.ref XC_Hole) (.ref XC_Hole) = some true)
  (xi_Hole_NoDrawing:PySem.W.kitOne K (.ref XC_Hole) (.ref XC_NoDrawing) = some false)
  (xi_Hole_NoFloor:PySem.W.kitOne K (.ref XC_Hole) (.ref XC_NoFloor) = some false)
  (xi_Hole_NoGrid:PySem.W.kitOne K (.ref XC_Hole) (.ref XC_NoGrid) = some false)
  (xi_Hole_NoLine:PySem.W.kitOne K (.ref XC_Hole) (.ref XC_NoLine) = some false)
  (xi_Hole_NoPiece:PySem.W.kitOne K (.ref XC_Hole) (.ref XC_NoPiece) = some false)
  (xi_Hole_NoWord:PySem.W.kitOne K (.ref XC_Hole) (.ref XC_NoWord) = some false)
  (xi_Hole_NotAsMany:PySem.W.kitOne K (.ref XC_Hole) (.ref XC_NotAsMany) = some false)
  (xi_Hole_Nothing:PySem.W.kitOne K (.ref XC_Hole) (.ref XC_Nothing) = some false)
  (xi_Hole_Open:PySem.W.kitOne K (.ref XC_Hole) (.ref XC_Open) = some false)
  (xi_Hole_TooMany:PySem.W.kitOne K (.ref XC_Hole) (.ref XC_TooMany) = some false)
  (xi_Hole_ValueError:PySem.W.kitOne K (.ref XC_Hole) (.type "ValueError") = some true)
  (xi_NoDrawing_Apart:PySem.W.kitOne K (.ref XC_NoDrawing) (.ref XC_Apart) = some false)
  (xi_NoDrawing_Backward:PySem.W.kitOne K (.ref XC_NoDrawing) (.ref XC_Backward) = some false)
  (xi_NoDrawing_Crossed:PySem.W.kitOne K (.ref XC_NoDrawing) (.ref XC_Crossed) = some false)
  (xi_NoDrawing_Hole:PySem.W.kitOne K (.ref XC_NoDrawing) (.ref XC_Hole) = some false)
  (xi_NoDrawing_NoDrawing:PySem.W.kitOne K (.ref XC_NoDrawing) (.ref XC_NoDrawing) = some true)
  (xi_NoDrawing_NoFloor:PySem.W.kitOne K (.ref XC_NoDrawing) (.ref XC_NoFloor) = some false)
  (xi_NoDrawing_NoGrid:PySem.W.kitOne K (.ref XC_NoDrawing) (.ref XC_NoGrid) = some false)
  (xi_NoDrawing_NoLine:PySem.W.kitOne K (.ref XC_NoDrawing) (.ref XC_NoLine) = some false)
  (xi_NoDrawing_NoPiece:PySem.W.kitOne K (.ref XC_NoDrawing) (.ref XC_NoPiece) = some false)
  (xi_NoDrawing_NoWord:PySem.W.kitOne K (.ref XC_NoDrawing) (.ref XC_NoWord) = some false)
  (xi_NoDrawing_NotAsMany:PySem.W.kitOne K (.ref XC_NoDrawing) (.ref XC_NotAsMany) = some false)
  (xi_NoDrawing_Nothing:PySem.W.kitOne K (.ref XC_NoDrawing) (.ref XC_Nothing) = some false)
  (xi_NoDrawing_Open:PySem.W.kitOne K (.ref XC_NoDrawing) (.ref XC_Open) = some false)
  (xi_NoDrawing_TooMany:PySem.W.kitOne K (.ref XC_NoDrawing) (.ref XC_TooMany) = some false)
  (xi_NoDrawing_ValueError:PySem.W.kitOne K (.ref XC_NoDrawing) (.type "ValueError") = some true)
  (xi_NoPiece_Apart:PySem.W.kitOne K (.ref XC_NoPiece) (.ref XC_Apart) = some false)
  (xi_NoPiece_Backward:PySem.W.kitOne K (.ref XC_NoPiece) (.ref XC_Backward) = some false)
  (xi_NoPiece_Crossed:PySem.W.kitOne K (.ref XC_NoPiece) (.ref XC_Crossed) = some false)
  (xi_NoPiece_Hole:PySem.W.kitOne K (.ref XC_NoPiece) (.ref XC_Hole) = some false)
  (xi_NoPiece_NoDrawing:PySem.W.kitOne K (.ref XC_NoPiece) (.ref XC_NoDrawing) = some false)
  (xi_NoPiece_NoFloor:PySem.W.kitOne K (.ref XC_NoPiece) (.ref XC_NoFloor) = some false)
  (xi_NoPiece_NoGrid:PySem.W.kitOne K (.ref XC_NoPiece) (.ref XC_NoGrid) = some false)
  (xi_NoPiece_NoLine:PySem.W.kitOne K (.ref XC_NoPiece) (.ref XC_NoLine) = some false)
  (xi_NoPiece_NoPiece:PySem.W.kitOne K (.ref XC_NoPiece) (.ref XC_NoPiece) = some true)
  (xi_NoPiece_NoWord:PySem.W.kitOne K (.ref XC_NoPiece) (.ref XC_NoWord) = some false)
  (xi_NoPiece_NotAsMany:PySem.W.kitOne K (.ref XC_NoPiece) (.ref XC_NotAsMany) = some false)
  (xi_NoPiece_Nothing:PySem.W.kitOne K (.ref XC_NoPiece) (.ref XC_Nothing) = some false)
  (xi_NoPiece_Open:PySem.W.kitOne K (.ref XC_NoPiece) (.ref XC_Open) = some false)
  (xi_NoPiece_TooMany:PySem.W.kitOne K (.ref XC_NoPiece) (.ref XC_TooMany) = some false)
  (xi_NoPiece_ValueError:PySem.W.kitOne K (.ref XC_NoPiece) (.type "ValueError") = some true)
  (xi_TooMany_Apart:PySem.W.kitOne K (.ref XC_TooMany) (.ref XC_Apart) = some false)
  (xi_TooMany_Backward:PySem.W.kitOne K (.ref XC_TooMany) (.ref XC_Backward) = some false)
  (xi_TooMany_Crossed:PySem.W.kitOne K (.ref XC_TooMany) (.ref XC_Crossed) = some false)
  (xi_TooMany_Hole:PySem.W.kitOne K (.ref XC_TooMany) (.ref XC_Hole) = some false)
  (xi_TooMany_NoDrawing:PySem.W.kitOne K (.ref XC_TooMany) (.ref XC_NoDrawing) = some false)
  (xi_TooMany_NoFloor:PySem.W.kitOne K (.ref XC_TooMany) (.ref XC_NoFloor) = some false)
  (xi_TooMany_NoGrid:PySem.W.kitOne K (.ref XC_TooMany) (.ref XC_NoGrid) = some false)
  (xi_TooMany_NoLine:PySem.W.kitOne K (.ref XC_TooMany) (.ref XC_NoLine) = some false)
  (xi_TooMany_NoPiece:PySem.W.kitOne K (.ref XC_TooMany) (.ref XC_NoPiece) = some false)
  (xi_TooMany_NoWord:PySem.W.kitOne K (.ref XC_TooMany) (.ref XC_NoWord) = some false)
  (xi_TooMany_NotAsMany:PySem.W.kitOne K (.ref XC_TooMany) (.ref XC_NotAsMany) = some false)
  (xi_TooMany_Nothing:PySem.W.kitOne K (.ref XC_TooMany) (.ref XC_Nothing) = some false)
  (xi_TooMany_Open:PySem.W.kitOne K (.ref XC_TooMany) (.ref XC_Open) = some false)
  (xi_TooMany_TooMany:PySem.W.kitOne K (.ref XC_TooMany) (.ref XC_TooMany) = some true)
  (xi_TooMany_ValueError:PySem.W.kitOne K (.ref XC_TooMany) (.type "ValueError") = some true)
  {XG_Apart XG_Hole:Addr} {XD_Apart XD_Hole:FuncData}
  (xkf_Apart:PySem.W.findIn K (.ref XC_Apart) "__init__" = some (some (.ref XG_Apart))) (xkk_Apart:PySem.W.keepIn K (.ref XC_Apart) = true) (xkc_Apart:xclIn K XC_Apart XG_Apart = true) (xkn_Apart:PySem.W.findIn K (.ref XC_Apart) "cell" = some none)
  (XF_Apart:Fun K "__init__" "Apart.__init__" s_Apart_init XG_Apart XD_Apart)
  (xkf_Hole:PySem.W.findIn K (.ref XC_Hole) "__init__" = some (some (.ref XG_Hole))) (xkk_Hole:PySem.W.keepIn K (.ref XC_Hole) = true) (xkc_Hole:xclIn K XC_Hole XG_Hole = true) (xkn_Hole:PySem.W.findIn K (.ref XC_Hole) "cell" = some none)
  (XF_Hole:Fun K "__init__" "Hole.__init__" s_Hole_init XG_Hole XD_Hole)
  (xbu_FloorError:PySem.W.specialIn K (.ref XC_FloorError) "__getattribute__" = some (some (.builtin "type.__getattribute__"))) (xbv_FloorError:PySem.W.readsIn K XC_FloorError (.type "type") = true) (xbz_FloorError:PySem.W.findCls K (.ref XC_FloorError) (.type "type") "__init__" = some (.val (.builtin "ValueError.__init__")))
  (xfd_cell_Apart:PySem.W.hasDictIn K XC_Apart = true) (xfn_cell_Apart:PySem.W.findIn K (.ref XC_Apart) "cell" = some none)
  (xfd_cell_Hole:PySem.W.hasDictIn K XC_Hole = true) (xfn_cell_Hole:PySem.W.findIn K (.ref XC_Hole) "cell" = some none)
  : ∃ fd:FuncData,(∀ (s:Shared) (v:Value),BindsTo s fd ⟨[v],[]⟩ [("_law_script",v)])∧∀ base:Heap,K.In base→base.Ns mainGlobals mg→FnOk l.prog w K mg base CX0 8 fa fd ["_law_script"] (liftF K sp_law):=by
 have F28:=fun_mk (st:=s_law) l28 c28 k28
 have T:Tx K mg w:=⟨q0,q1,q2,q3,q4,q5,q6,q7,q8,q9,q10,q11,q12,q13,q14,q15,q16,q17,q18,q19,q20,q21,q22,q23,q24,q25,q26,q27,PySem.W.mg_none_of X G z0,PySem.W.mg_none_of X G z1,PySem.W.mg_none_of X G z2,PySem.W.mg_none_of X G z3,PySem.W.mg_none_of X G z4,PySem.W.mg_none_of X G z5,PySem.W.mg_none_of X G z6,PySem.W.mg_none_of X G z7,PySem.W.mg_none_of X G z8,PySem.W.mg_none_of X G z9,PySem.W.mg_none_of X G z10,PySem.W.mg_none_of X G z11,PySem.W.mg_none_of X G z12,⟨_,xa_NoDrawing,xe_NoDrawing⟩,⟨_,xa_NoPiece,xe_NoPiece⟩,⟨_,xa_TooMany,xe_TooMany⟩,⟨_,_,xa_Apart,xa_FloorError,xs_Apart_FloorError,xb_FloorError,xt_FloorError⟩,⟨_,_,xa_Hole,xa_FloorError,xs_Hole_FloorError,xb_FloorError,xt_FloorError⟩,⟨_,_,xa_NoDrawing,xa_FloorError,xs_NoDrawing_FloorError,xb_FloorError,xt_FloorError⟩,⟨_,_,xa_NoPiece,xa_FloorError,xs_NoPiece_FloorError,xb_FloorError,xt_FloorError⟩,⟨_,_,xa_TooMany,xa_FloorError,xs_TooMany_FloorError,xb_FloorError,xt_FloorError⟩,⟨_,_,xa_Apart,xa_Apart,⟨x1_Apart,x2_Apart,x3_Apart,x4_Apart,x5_Apart,x6_Apart,x7_Apart⟩,xi_Apart_Apart⟩,⟨_,_,xa_Apart,xa_Backward,⟨x1_Apart,x2_Apart,x3_Apart,x4_Apart,x5_Apart,x6_Apart,x7_Apart⟩,xi_Apart_Backward⟩,⟨_,_,xa_Apart,xa_Crossed,⟨x1_Apart,x2_Apart,x3_Apart,x4_Apart,x5_Apart,x6_Apart,x7_Apart⟩,xi_Apart_Crossed⟩,⟨_,_,xa_Apart,xa_Hole,⟨x1_Apart,x2_Apart,x3_Apart,x4_Apart,x5_Apart,x6_Apart,x7_Apart⟩,xi_Apart_Hole⟩,⟨_,_,xa_Apart,xa_NoDrawing,⟨x1_Apart,x2_Apart,x3_Apart,x4_Apart,x5_Apart,x6_Apart,x7_Apart⟩,xi_Apart_NoDrawing⟩,⟨_,_,xa_Apart,xa_NoFloor,⟨x1_Apart,x2_Apart,x3_Apart,x4_Apart,x5_Apart,x6_Apart,x7_Apart⟩,xi_Apart_NoFloor⟩,⟨_,_,xa_Apart,xa_NoGrid,⟨x1_Apart,x2_Apart,x3_Apart,x4_Apart,x5_Apart,x6_Apart,x7_Apart⟩,xi_Apart_NoGrid⟩,⟨_,_,xa_Apart,xa_NoLine,⟨x1_Apart,x2_Apart,x3_Apart,x4_Apart,x5_Apart,x6_Apart,x7_Apart⟩,xi_Apart_NoLine⟩,⟨_,_,xa_Apart,xa_NoPiece,⟨x1_Apart,x2_Apart,x3_Apart,x4_Apart,x5_Apart,x6_Apart,x7_Apart⟩,xi_Apart_NoPiece⟩,⟨_,_,xa_Apart,xa_NoWord,⟨x1_Apart,x2_Apart,x3_Apart,x4_Apart,x5_Apart,x6_Apart,x7_Apart⟩,xi_Apart_NoWord⟩,⟨_,_,xa_Apart,xa_NotAsMany,⟨x1_Apart,x2_Apart,x3_Apart,x4_Apart,x5_Apart,x6_Apart,x7_Apart⟩,xi_Apart_NotAsMany⟩,⟨_,_,xa_Apart,xa_Nothing,⟨x1_Apart,x2_Apart,x3_Apart,x4_Apart,x5_Apart,x6_Apart,x7_Apart⟩,xi_Apart_Nothing⟩,⟨_,_,xa_Apart,xa_Open,⟨x1_Apart,x2_Apart,x3_Apart,x4_Apart,x5_Apart,x6_Apart,x7_Apart⟩,xi_Apart_Open⟩,⟨_,_,xa_Apart,xa_TooMany,⟨x1_Apart,x2_Apart,x3_Apart,x4_Apart,x5_Apart,x6_Apart,x7_Apart⟩,xi_Apart_TooMany⟩,⟨_,xa_Apart,⟨x1_Apart,x2_Apart,x3_Apart,x4_Apart,x5_Apart,x6_Apart,x7_Apart⟩,xi_Apart_ValueError⟩,⟨_,_,xa_Hole,xa_Apart,⟨x1_Hole,x2_Hole,x3_Hole,x4_Hole,x5_Hole,x6_Hole,x7_Hole⟩,xi_Hole_Apart⟩,⟨_,_,xa_Hole,xa_Backward,⟨x1_Hole,x2_Hole,x3_Hole,x4_Hole,x5_Hole,x6_Hole,x7_Hole⟩,xi_Hole_Backward⟩,⟨_,_,xa_Hole,xa_Crossed,⟨x1_Hole,x2_Hole,x3_Hole,x4_Hole,x5_Hole,x6_Hole,x7_Hole⟩,xi_Hole_Crossed⟩,⟨_,_,xa_Hole,xa_Hole,⟨x1_Hole,x2_Hole,x3_Hole,x4_Hole,x5_Hole,x6_Hole,x7_Hole⟩,xi_Hole_Hole⟩,⟨_,_,xa_Hole,xa_NoDrawing,⟨x1_Hole,x2_Hole,x3_Hole,x4_Hole,x5_Hole,x6_Hole,x7_Hole⟩,xi_Hole_NoDrawing⟩,⟨_,_,xa_Hole,xa_NoFloor,⟨x1_Hole,x2_Hole,x3_Hole,x4_Hole,x5_Hole,x6_Hole,x7_Hole⟩,xi_Hole_NoFloor⟩,⟨_,_,xa_Hole,xa_NoGrid,⟨x1_Hole,x2_Hole,x3_Hole,x4_Hole,x5_Hole,x6_Hole,x7_Hole⟩,xi_Hole_NoGrid⟩,⟨_,_,xa_Hole,xa_NoLine,⟨x1_Hole,x2_Hole,x3_Hole,x4_Hole,x5_Hole,x6_Hole,x7_Hole⟩,xi_Hole_NoLine⟩,⟨_,_,xa_Hole,xa_NoPiece,⟨x1_Hole,x2_Hole,x3_Hole,x4_Hole,x5_Hole,x6_Hole,x7_Hole⟩,xi_Hole_NoPiece⟩,⟨_,_,xa_Hole,xa_NoWord,⟨x1_Hole,x2_Hole,x3_Hole,x4_Hole,x5_Hole,x6_Hole,x7_Hole⟩,xi_Hole_NoWord⟩,⟨_,_,xa_Hole,xa_NotAsMany,⟨x1_Hole,x2_Hole,x3_Hole,x4_Hole,x5_Hole,x6_Hole,x7_Hole⟩,xi_Hole_NotAsMany⟩,⟨_,_,xa_Hole,xa_Nothing,⟨x1_Hole,x2_Hole,x3_Hole,x4_Hole,x5_Hole,x6_Hole,x7_Hole⟩,xi_Hole_Nothing⟩,⟨_,_,xa_Hole,xa_Open,⟨x1_Hole,x2_Hole,x3_Hole,x4_Hole,x5_Hole,x6_Hole,x7_Hole⟩,xi_Hole_Open⟩,⟨_,_,xa_Hole,xa_TooMany,⟨x1_Hole,x2_Hole,x3_Hole,x4_Hole,x5_Hole,x6_Hole,x7_Hole⟩,xi_Hole_TooMany⟩,⟨_,xa_Hole,⟨x1_Hole,x2_Hole,x3_Hole,x4_Hole,x5_Hole,x6_Hole,x7_Hole⟩,xi_Hole_ValueError⟩,⟨_,_,xa_NoDrawing,xa_Apart,⟨x1_NoDrawing,x2_NoDrawing,x3_NoDrawing,x4_NoDrawing,x5_NoDrawing,x6_NoDrawing,x7_NoDrawing⟩,xi_NoDrawing_Apart⟩,⟨_,_,xa_NoDrawing,xa_Backward,⟨x1_NoDrawing,x2_NoDrawing,x3_NoDrawing,x4_NoDrawing,x5_NoDrawing,x6_NoDrawing,x7_NoDrawing⟩,xi_NoDrawing_Backward⟩,⟨_,_,xa_NoDrawing,xa_Crossed,⟨x1_NoDrawing,x2_NoDrawing,x3_NoDrawing,x4_NoDrawing,x5_NoDrawing,x6_NoDrawing,x7_NoDrawing⟩,xi_NoDrawing_Crossed⟩,⟨_,_,xa_NoDrawing,xa_Hole,⟨x1_NoDrawing,x2_NoDrawing,x3_NoDrawing,x4_NoDrawing,x5_NoDrawing,x6_NoDrawing,x7_NoDrawing⟩,xi_NoDrawing_Hole⟩,⟨_,_,xa_NoDrawing,xa_NoDrawing,⟨x1_NoDrawing,x2_NoDrawing,x3_NoDrawing,x4_NoDrawing,x5_NoDrawing,x6_NoDrawing,x7_NoDrawing⟩,xi_NoDrawing_NoDrawing⟩,⟨_,_,xa_NoDrawing,xa_NoFloor,⟨x1_NoDrawing,x2_NoDrawing,x3_NoDrawing,x4_NoDrawing,x5_NoDrawing,x6_NoDrawing,x7_NoDrawing⟩,xi_NoDrawing_NoFloor⟩,⟨_,_,xa_NoDrawing,xa_NoGrid,⟨x1_NoDrawing,x2_NoDrawing,x3_NoDrawing,x4_NoDrawing,x5_NoDrawing,x6_NoDrawing,x7_NoDrawing⟩,xi_NoDrawing_NoGrid⟩,⟨_,_,xa_NoDrawing,xa_NoLine,⟨x1_NoDrawing,x2_NoDrawing,x3_NoDrawing,x4_NoDrawing,x5_NoDrawing,x6_NoDrawing,x7_NoDrawing⟩,xi_NoDrawing_NoLine⟩,⟨_,_,xa_NoDrawing,xa_NoPiece,⟨x1_NoDrawing,x2_NoDrawing,x3_NoDrawing,x4_NoDrawing,x5_NoDrawing,x6_NoDrawing,x7_NoDrawing⟩,xi_NoDrawing_NoPiece⟩,⟨_,_,xa_NoDrawing,xa_NoWord,⟨x1_NoDrawing,x2_NoDrawing,x3_NoDrawing,x4_NoDrawing,x5_NoDrawing,x6_NoDrawing,x7_NoDrawing⟩,xi_NoDrawing_NoWord⟩,⟨_,_,xa_NoDrawing,xa_NotAsMany,⟨x1_NoDrawing,x2_NoDrawing,x3_NoDrawing,x4_NoDrawing,x5_NoDrawing,x6_NoDrawing,x7_NoDrawing⟩,xi_NoDrawing_NotAsMany⟩,⟨_,_,xa_NoDrawing,xa_Nothing,⟨x1_NoDrawing,x2_NoDrawing,x3_NoDrawing,x4_NoDrawing,x5_NoDrawing,x6_NoDrawing,x7_NoDrawing⟩,xi_NoDrawing_Nothing⟩,⟨_,_,xa_NoDrawing,xa_Open,⟨x1_NoDrawing,x2_NoDrawing,x3_NoDrawing,x4_NoDrawing,x5_NoDrawing,x6_NoDrawing,x7_NoDrawing⟩,xi_NoDrawing_Open⟩,⟨_,_,xa_NoDrawing,xa_TooMany,⟨x1_NoDrawing,x2_NoDrawing,x3_NoDrawing,x4_NoDrawing,x5_NoDrawing,x6_NoDrawing,x7_NoDrawing⟩,xi_NoDrawing_TooMany⟩,⟨_,xa_NoDrawing,⟨x1_NoDrawing,x2_NoDrawing,x3_NoDrawing,x4_NoDrawing,x5_NoDrawing,x6_NoDrawing,x7_NoDrawing⟩,xi_NoDrawing_ValueError⟩,⟨_,_,xa_NoPiece,xa_Apart,⟨x1_NoPiece,x2_NoPiece,x3_NoPiece,x4_NoPiece,x5_NoPiece,x6_NoPiece,x7_NoPiece⟩,xi_NoPiece_Apart⟩,⟨_,_,xa_NoPiece,xa_Backward,⟨x1_NoPiece,x2_NoPiece,x3_NoPiece,x4_NoPiece,x5_NoPiece,x6_NoPiece,x7_NoPiece⟩,xi_NoPiece_Backward⟩,⟨_,_,xa_NoPiece,xa_Crossed,⟨x1_NoPiece,x2_NoPiece,x3_NoPiece,x4_NoPiece,x5_NoPiece,x6_NoPiece,x7_NoPiece⟩,xi_NoPiece_Crossed⟩,⟨_,_,xa_NoPiece,xa_Hole,⟨x1_NoPiece,x2_NoPiece,x3_NoPiece,x4_NoPiece,x5_NoPiece,x6_NoPiece,x7_NoPiece⟩,xi_NoPiece_Hole⟩,⟨_,_,xa_NoPiece,xa_NoDrawing,⟨x1_NoPiece,x2_NoPiece,x3_NoPiece,x4_NoPiece,x5_NoPiece,x6_NoPiece,x7_NoPiece⟩,xi_NoPiece_NoDrawing⟩,⟨_,_,xa_NoPiece,xa_NoFloor,⟨x1_NoPiece,x2_NoPiece,x3_NoPiece,x4_NoPiece,x5_NoPiece,x6_NoPiece,x7_NoPiece⟩,xi_NoPiece_NoFloor⟩,⟨_,_,xa_NoPiece,xa_NoGrid,⟨x1_NoPiece,x2_NoPiece,x3_NoPiece,x4_NoPiece,x5_NoPiece,x6_NoPiece,x7_NoPiece⟩,xi_NoPiece_NoGrid⟩,⟨_,_,xa_NoPiece,xa_NoLine,⟨x1_NoPiece,x2_NoPiece,x3_NoPiece,x4_NoPiece,x5_NoPiece,x6_NoPiece,x7_NoPiece⟩,xi_NoPiece_NoLine⟩,⟨_,_,xa_NoPiece,xa_NoPiece,⟨x1_NoPiece,x2_NoPiece,x3_NoPiece,x4_NoPiece,x5_NoPiece,x6_NoPiece,x7_NoPiece⟩,xi_NoPiece_NoPiece⟩,⟨_,_,xa_NoPiece,xa_NoWord,⟨x1_NoPiece,x2_NoPiece,x3_NoPiece,x4_NoPiece,x5_NoPiece,x6_NoPiece,x7_NoPiece⟩,xi_NoPiece_NoWord⟩,⟨_,_,xa_NoPiece,xa_NotAsMany,⟨x1_NoPiece,x2_NoPiece,x3_NoPiece,x4_NoPiece,x5_NoPiece,x6_NoPiece,x7_NoPiece⟩,xi_NoPiece_NotAsMany⟩,⟨_,_,xa_NoPiece,xa_Nothing,⟨x1_NoPiece,x2_NoPiece,x3_NoPiece,x4_NoPiece,x5_NoPiece,x6_NoPiece,x7_NoPiece⟩,xi_NoPiece_Nothing⟩,⟨_,_,xa_NoPiece,xa_Open,⟨x1_NoPiece,x2_NoPiece,x3_NoPiece,x4_NoPiece,x5_NoPiece,x6_NoPiece,x7_NoPiece⟩,xi_NoPiece_Open⟩,⟨_,_,xa_NoPiece,xa_TooMany,⟨x1_NoPiece,x2_NoPiece,x3_NoPiece,x4_NoPiece,x5_NoPiece,x6_NoPiece,x7_NoPiece⟩,xi_NoPiece_TooMany⟩,⟨_,xa_NoPiece,⟨x1_NoPiece,x2_NoPiece,x3_NoPiece,x4_NoPiece,x5_NoPiece,x6_NoPiece,x7_NoPiece⟩,xi_NoPiece_ValueError⟩,⟨_,_,xa_TooMany,xa_Apart,⟨x1_TooMany,x2_TooMany,x3_TooMany,x4_TooMany,x5_TooMany,x6_TooMany,x7_TooMany⟩,xi_TooMany_Apart⟩,⟨_,_,xa_TooMany,xa_Backward,⟨x1_TooMany,x2_TooMany,x3_TooMany,x4_TooMany,x5_TooMany,x6_TooMany,x7_TooMany⟩,xi_TooMany_Backward⟩,⟨_,_,xa_TooMany,xa_Crossed,⟨x1_TooMany,x2_TooMany,x3_TooMany,x4_TooMany,x5_TooMany,x6_TooMany,x7_TooMany⟩,xi_TooMany_Crossed⟩,⟨_,_,xa_TooMany,xa_Hole,⟨x1_TooMany,x2_TooMany,x3_TooMany,x4_TooMany,x5_TooMany,x6_TooMany,x7_TooMany⟩,xi_TooMany_Hole⟩,⟨_,_,xa_TooMany,xa_NoDrawing,⟨x1_TooMany,x2_TooMany,x3_TooMany,x4_TooMany,x5_TooMany,x6_TooMany,x7_TooMany⟩,xi_TooMany_NoDrawing⟩,⟨_,_,xa_TooMany,xa_NoFloor,⟨x1_TooMany,x2_TooMany,x3_TooMany,x4_TooMany,x5_TooMany,x6_TooMany,x7_TooMany⟩,xi_TooMany_NoFloor⟩,⟨_,_,xa_TooMany,xa_NoGrid,⟨x1_TooMany,x2_TooMany,x3_TooMany,x4_TooMany,x5_TooMany,x6_TooMany,x7_TooMany⟩,xi_TooMany_NoGrid⟩,⟨_,_,xa_TooMany,xa_NoLine,⟨x1_TooMany,x2_TooMany,x3_TooMany,x4_TooMany,x5_TooMany,x6_TooMany,x7_TooMany⟩,xi_TooMany_NoLine⟩,⟨_,_,xa_TooMany,xa_NoPiece,⟨x1_TooMany,x2_TooMany,x3_TooMany,x4_TooMany,x5_TooMany,x6_TooMany,x7_TooMany⟩,xi_TooMany_NoPiece⟩,⟨_,_,xa_TooMany,xa_NoWord,⟨x1_TooMany,x2_TooMany,x3_TooMany,x4_TooMany,x5_TooMany,x6_TooMany,x7_TooMany⟩,xi_TooMany_NoWord⟩,⟨_,_,xa_TooMany,xa_NotAsMany,⟨x1_TooMany,x2_TooMany,x3_TooMany,x4_TooMany,x5_TooMany,x6_TooMany,x7_TooMany⟩,xi_TooMany_NotAsMany⟩,⟨_,_,xa_TooMany,xa_Nothing,⟨x1_TooMany,x2_TooMany,x3_TooMany,x4_TooMany,x5_TooMany,x6_TooMany,x7_TooMany⟩,xi_TooMany_Nothing⟩,⟨_,_,xa_TooMany,xa_Open,⟨x1_TooMany,x2_TooMany,x3_TooMany,x4_TooMany,x5_TooMany,x6_TooMany,x7_TooMany⟩,xi_TooMany_Open⟩,⟨_,_,xa_TooMany,xa_TooMany,⟨x1_TooMany,x2_TooMany,x3_TooMany,x4_TooMany,x5_TooMany,x6_TooMany,x7_TooMany⟩,xi_TooMany_TooMany⟩,⟨_,xa_TooMany,⟨x1_TooMany,x2_TooMany,x3_TooMany,x4_TooMany,x5_TooMany,x6_TooMany,x7_TooMany⟩,xi_TooMany_ValueError⟩,⟨xa_Apart,xkk_Apart,xkc_Apart,xkn_Apart,XF_Apart,bd_Apart_init.of XF_Apart⟩,⟨xa_Hole,xkk_Hole,xkc_Hole,xkn_Hole,XF_Hole,bd_Hole_init.of XF_Hole⟩,xbs_in X G xa_FloorError xbu_FloorError xbv_FloorError xbz_FloorError,(.cons xa_Apart ⟨x1_Apart,x2_Apart,x3_Apart,x4_Apart,x5_Apart,x6_Apart,x7_Apart⟩ xfd_cell_Apart xfn_cell_Apart (.cons xa_Hole ⟨x1_Hole,x2_Hole,x3_Hole,x4_Hole,x5_Hole,x6_Hole,x7_Hole⟩ xfd_cell_Hole xfn_cell_Hole .nil)),⟨_,PySem.W.mg_of X G y0⟩,⟨_,PySem.W.mg_of X G y1⟩,⟨_,PySem.W.mg_of X G y2⟩,⟨_,PySem.W.mg_of X G y3⟩⟩
 have e:=hfa.symm.trans (PySem.W.mg_of X G a28)
 cases e
 refine ⟨PySem.W.fnOf "law" "law" (defArgs s_law) (defBody s_law) (defScope s_law) .none kV28 dc28 pm28 an28 cd28 ct28,fun s v => .of_eq rfl,fun base _ _ => ?_⟩
 exact law_ok T F28
end Law
open PySem PySem.W PyProof.Rows
set_option maxRecDepth 100000 in
set_option maxHeartbeats 0 in
theorem PySem.Challenge.cw_borderfloor_k08_no_drawing_holds : PySem.Challenge.rw_borderfloor_k08_no_drawing.Holds := by
 w_on; o_law
 refine holds_open (r:=OpenLaw.row PySem.Challenge.rw_borderfloor_k08_no_drawing) (q:=Law.vw) (loose:=Law.lo) (Xt:=Law.xT) (XP:=XL Law.vw []) (YP:=(PySem.W.kHook Law.K0 Law.kA Law.kE).says)
  (N:=20100) Law.ld (Hook.of _) (Hook.keeps _) (fun s z => xl_of s (Bool.and_eq_true_iff.mp z).1) XL.keeps (by rfl) (by rfl) (by rfl) (fun s z => recFacts_of (Bool.and_eq_true_iff.mp z).2) (by rfl) (by assumption)
  (by decide +kernel) ⟨rfl,rfl,rfl,rfl,rfl,by decide +kernel⟩ ?hw ?hc
 case hw => w_witness2
 k_fill
 refine L2.walk_ofK (l:=PySem.Challenge.rw_borderfloor_k08_no_drawing) (n:=63) (k:=8) (x := "_law_script") (CX:=L2.CX0) (sp:=fun K => L3.liftF K Law.sp_law) rfl (by decide) rfl ⟨rfl,by decide,by decide⟩ (fun w h Y => PySem.W.kIn_of Y) ?F ?S (fun _ _ _ _ z => z)
 case F =>
  intro w mg fa h KX G hmg
  refine' Law.all_mk KX G hmg (L3.fn_in KX G ?a0 ?l0 ?c0 ?k0 Law.bd_rank_of) (L3.fn_in KX G ?a1 ?l1 ?c1 ?k1 Law.bd_in_order) (L3.fn_in KX G ?a2 ?l2 ?c2 ?k2 Law.bd_around) (L3.fn_in KX G ?a3 ?l3 ?c3 ?k3 Law.bd_added) (L3.fn_in KX G ?a4 ?l4 ?c4 ?k4 Law.bd_unlike_in_order) (L3.fn_in KX G ?a5 ?l5 ?c5 ?k5 Law.bd_reached_within) (L3.fn_in KX G ?a6 ?l6 ?c6 ?k6 Law.bd_first_cut_off) (L3.fn_in KX G ?a7 ?l7 ?c7 ?k7 Law.bd_empty_in_box) (L3.fn_in KX G ?a8 ?l8 ?c8 ?k8 Law.bd_piece_of) (L3.fn_in KX G ?a9 ?l9 ?c9 ?k9 Law.bd_moved) (L3.fn_in KX G ?a10 ?l10 ?c10 ?k10 Law.bd_settled) (L3.fn_in KX G ?a11 ?l11 ?c11 ?k11 Law.bd_rows_of) (L3.fn_in KX G ?a12 ?l12 ?c12 ?k12 Law.bd_cells_in) (L3.fn_in KX G ?a13 ?l13 ?c13 ?k13 Law.bd_read_drawing) (L3.fn_in KX G ?a14 ?l14 ?c14 ?k14 Law.bd_l_cell_at) (L3.fn_in KX G ?a15 ?l15 ?c15 ?k15 Law.bd_l_mix) (L3.fn_in KX G ?a16 ?l16 ?c16 ?k16 Law.bd_l_whole) (L3.fn_in KX G ?a17 ?l17 ?c17 ?k17 Law.bd_l_is_pair) (L3.fn_in KX G ?a18 ?l18 ?c18 ?k18 Law.bd_l_is_piece) (L3.fn_in KX G ?a19 ?l19 ?c19 ?k19 Law.bd_l_sorted) (L3.fn_in KX G ?a20 ?l20 ?c20 ?k20 Law.bd_l_beside) (L3.fn_in KX G ?a21 ?l21 ?c21 ?k21 Law.bd_l_reached) (L3.fn_in KX G ?a22 ?l22 ?c22 ?k22 Law.bd_l_empties) (L3.fn_in KX G ?a23 ?l23 ?c23 ?k23 Law.bd_l_kinds) (L3.fn_in KX G ?a24 ?l24 ?c24 ?k24 Law.bd_l_rows) (L3.fn_in KX G ?a25 ?l25 ?c25 ?k25 Law.bd_l_spoilt) (L3.fn_in KX G ?a26 ?l26 ?c26 ?k26 Law.bd_l_cells) (L3.fn_in KX G ?a27 ?l27 ?c27 ?k27 Law.bd_l_due) ?a28 ?l28 ?c28 ?k28 ?z0 ?z1 ?z2 ?z3 ?z4 ?z5 ?z6 ?z7 ?z8 ?z9 ?z10 ?z11 ?z12 ?y0 ?y1 ?y2 ?y3 ?xa_Apart ?xa_Backward ?xa_Crossed ?xa_FloorError ?xa_Hole ?xa_NoDrawing ?xa_NoFloor ?xa_NoGrid ?xa_NoLine ?xa_NoPiece ?xa_NoWord ?xa_NotAsMany ?xa_Nothing ?xa_Open ?xa_TooMany ?xe_NoDrawing ?xe_NoPiece ?xe_TooMany ?xs_Apart_FloorError ?xs_Hole_FloorError ?xs_NoDrawing_FloorError ?xs_NoPiece_FloorError ?xs_TooMany_FloorError ?xb_FloorError ?xt_FloorError ?x1_Apart ?x2_Apart ?x3_Apart ?x4_Apart ?x5_Apart ?x6_Apart ?x7_Apart ?x1_Hole ?x2_Hole ?x3_Hole ?x4_Hole ?x5_Hole ?x6_Hole ?x7_Hole ?x1_NoDrawing ?x2_NoDrawing ?x3_NoDrawing ?x4_NoDrawing ?x5_NoDrawing ?x6_NoDrawing ?x7_NoDrawing ?x1_NoPiece ?x2_NoPiece ?x3_NoPiece ?x4_NoPiece ?x5_NoPiece ?x6_NoPiece ?x7_NoPiece ?x1_TooMany ?x2_TooMany ?x3_TooMany ?x4_TooMany ?x5_TooMany ?x6_TooMany ?x7_TooMany ?xi_Apart_Apart ?xi_Apart_Backward ?xi_Apart_Crossed ?xi_Apart_Hole ?xi_Apart_NoDrawing ?xi_Apart_NoFloor ?xi_Apart_NoGrid ?xi_Apart_NoLine ?xi_Apart_NoPiece ?xi_Apart_NoWord ?xi_Apart_NotAsMany ?xi_Apart_Nothing ?xi_Apart_Open ?xi_Apart_TooMany ?xi_Apart_ValueError ?xi_Hole_Apart ?xi_Hole_Backward ?xi_Hole_Crossed ?xi_Hole_Hole ?xi_Hole_NoDrawing ?xi_Hole_NoFloor ?xi_Hole_NoGrid ?xi_Hole_NoLine ?xi_Hole_NoPiece ?xi_Hole_NoWord ?xi_Hole_NotAsMany ?xi_Hole_Nothing ?xi_Hole_Open ?xi_Hole_TooMany ?xi_Hole_ValueError ?xi_NoDrawing_Apart ?xi_NoDrawing_Backward ?xi_NoDrawing_Crossed ?xi_NoDrawing_Hole ?xi_NoDrawing_NoDrawing ?xi_NoDrawing_NoFloor ?xi_NoDrawing_NoGrid ?xi_NoDrawing_NoLine ?xi_NoDrawing_NoPiece ?xi_NoDrawing_NoWord ?xi_NoDrawing_NotAsMany ?xi_NoDrawing_Nothing ?xi_NoDrawing_Open ?xi_NoDrawing_TooMany ?xi_NoDrawing_ValueError ?xi_NoPiece_Apart ?xi_NoPiece_Backward ?xi_NoPiece_Crossed ?xi_NoPiece_Hole ?xi_NoPiece_NoDrawing ?xi_NoPiece_NoFloor ?xi_NoPiece_NoGrid ?xi_NoPiece_NoLine ?xi_NoPiece_NoPiece ?xi_NoPiece_NoWord ?xi_NoPiece_NotAsMany ?xi_NoPiece_Nothing ?xi_NoPiece_Open ?xi_NoPiece_TooMany ?xi_NoPiece_ValueError ?xi_TooMany_Apart ?xi_TooMany_Backward ?xi_TooMany_Crossed ?xi_TooMany_Hole ?xi_TooMany_NoDrawing ?xi_TooMany_NoFloor ?xi_TooMany_NoGrid ?xi_TooMany_NoLine ?xi_TooMany_NoPiece ?xi_TooMany_NoWord ?xi_TooMany_NotAsMany ?xi_TooMany_Nothing ?xi_TooMany_Open ?xi_TooMany_TooMany ?xi_TooMany_ValueError ?xkf_Apart ?xkk_Apart ?xkc_Apart ?xkn_Apart (L2.fun_mk ?xl_Apart ?xd_Apart ?xq_Apart) ?xkf_Hole ?xkk_Hole ?xkc_Hole ?xkn_Hole (L2.fun_mk ?xl_Hole ?xd_Hole ?xq_Hole) ?xbu_FloorError ?xbv_FloorError ?xbz_FloorError ?xfd_cell_Apart ?xfn_cell_Apart ?xfd_cell_Hole ?xfn_cell_Hole
  (case a0 => k_is)
  (case l0 => k_is)
  (case c0 => k_is)
  (case k0 => k_is)
  (case a1 => k_is)
  (case l1 => k_is)
  (case c1 => k_is)
  (case k1 => k_is)
  (case a2 => k_is)
  (case l2 => k_is)
  (case c2 => k_is)
  (case k2 => k_is)
  (case a3 => k_is)
  (case l3 => k_is)
  (case c3 => k_is)
  (case k3 => k_is)
  (case a4 => k_is)
  (case l4 => k_is)
  (case c4 => k_is)
  (case k4 => k_is)
  (case a5 => k_is)
  (case l5 => k_is)
  (case c5 => k_is)
  (case k5 => k_is)
  (case a6 => k_is)
  (case l6 => k_is)
  (case c6 => k_is)
  (case k6 => k_is)
  (case a7 => k_is)
  (case l7 => k_is)
  (case c7 => k_is)
  (case k7 => k_is)
  (case a8 => k_is)
  (case l8 => k_is)
  (case c8 => k_is)
  (case k8 => k_is)
  (case a9 => k_is)
  (case l9 => k_is)
  (case c9 => k_is)
  (case k9 => k_is)
  (case a10 => k_is)
  (case l10 => k_is)
  (case c10 => k_is)
  (case k10 => k_is)
  (case a11 => k_is)
  (case l11 => k_is)
  (case c11 => k_is)
  (case k11 => k_is)
  (case a12 => k_is)
  (case l12 => k_is)
  (case c12 => k_is)
  (case k12 => k_is)
  (case a13 => k_is)
  (case l13 => k_is)
  (case c13 => k_is)
  (case k13 => k_is)
  (case a14 => k_is)
  (case l14 => k_is)
  (case c14 => k_is)
  (case k14 => k_is)
  (case a15 => k_is)
  (case l15 => k_is)
  (case c15 => k_is)
  (case k15 => k_is)
  (case a16 => k_is)
  (case l16 => k_is)
  (case c16 => k_is)
  (case k16 => k_is)
  (case a17 => k_is)
  (case l17 => k_is)
  (case c17 => k_is)
  (case k17 => k_is)
  (case a18 => k_is)
  (case l18 => k_is)
  (case c18 => k_is)
  (case k18 => k_is)
  (case a19 => k_is)
  (case l19 => k_is)
  (case c19 => k_is)
  (case k19 => k_is)
  (case a20 => k_is)
  (case l20 => k_is)
  (case c20 => k_is)
  (case k20 => k_is)
  (case a21 => k_is)
  (case l21 => k_is)
  (case c21 => k_is)
  (case k21 => k_is)
  (case a22 => k_is)
  (case l22 => k_is)
  (case c22 => k_is)
  (case k22 => k_is)
  (case a23 => k_is)
  (case l23 => k_is)
  (case c23 => k_is)
  (case k23 => k_is)
  (case a24 => k_is)
  (case l24 => k_is)
  (case c24 => k_is)
  (case k24 => k_is)
  (case a25 => k_is)
  (case l25 => k_is)
  (case c25 => k_is)
  (case k25 => k_is)
  (case a26 => k_is)
  (case l26 => k_is)
  (case c26 => k_is)
  (case k26 => k_is)
  (case a27 => k_is)
  (case l27 => k_is)
  (case c27 => k_is)
  (case k27 => k_is)
  (case a28 => k_is)
  (case l28 => k_is)
  (case c28 => k_is)
  (case k28 => k_is)
  (case z0 => k_is)
  (case z1 => k_is)
  (case z2 => k_is)
  (case z3 => k_is)
  (case z4 => k_is)
  (case z5 => k_is)
  (case z6 => k_is)
  (case z7 => k_is)
  (case z8 => k_is)
  (case z9 => k_is)
  (case z10 => k_is)
  (case z11 => k_is)
  (case z12 => k_is)
  (case y0 => k_is)
  (case y1 => k_is)
  (case y2 => k_is)
  (case y3 => k_is)
  (case xa_Apart => k_is)
  (case xa_Backward => k_is)
  (case xa_Crossed => k_is)
  (case xa_FloorError => k_is)
  (case xa_Hole => k_is)
  (case xa_NoDrawing => k_is)
  (case xa_NoFloor => k_is)
  (case xa_NoGrid => k_is)
  (case xa_NoLine => k_is)
  (case xa_NoPiece => k_is)
  (case xa_NoWord => k_is)
  (case xa_NotAsMany => k_is)
  (case xa_Nothing => k_is)
  (case xa_Open => k_is)
  (case xa_TooMany => k_is)
  (case xe_NoDrawing => k_exc)
  (case xe_NoPiece => k_exc)
  (case xe_TooMany => k_exc)
  (case xs_Apart_FloorError => k_is)
  (case xs_Hole_FloorError => k_is)
  (case xs_NoDrawing_FloorError => k_is)
  (case xs_NoPiece_FloorError => k_is)
  (case xs_TooMany_FloorError => k_is)
  (case xb_FloorError => k_is)
  (case xt_FloorError => k_is)
  (case x1_Apart => k_is)
  (case x2_Apart => k_is)
  (case x3_Apart => k_is)
  (case x4_Apart => k_is)
  (case x5_Apart => k_is)
  (case x6_Apart => k_is)
  (case x7_Apart => k_is)
  (case x1_Hole => k_is)
  (case x2_Hole => k_is)
  (case x3_Hole => k_is)
  (case x4_Hole => k_is)
  (case x5_Hole => k_is)
  (case x6_Hole => k_is)
  (case x7_Hole => k_is)
  (case x1_NoDrawing => k_is)
  (case x2_NoDrawing => k_is)
  (case x3_NoDrawing => k_is)
  (case x4_NoDrawing => k_is)
  (case x5_NoDrawing => k_is)
  (case x6_NoDrawing => k_is)
  (case x7_NoDrawing => k_is)
  (case x1_NoPiece => k_is)
  (case x2_NoPiece => k_is)
  (case x3_NoPiece => k_is)
  (case x4_NoPiece => k_is)
  (case x5_NoPiece => k_is)
  (case x6_NoPiece => k_is)
  (case x7_NoPiece => k_is)
  (case x1_TooMany => k_is)
  (case x2_TooMany => k_is)
  (case x3_TooMany => k_is)
  (case x4_TooMany => k_is)
  (case x5_TooMany => k_is)
  (case x6_TooMany => k_is)
  (case x7_TooMany => k_is)
  (case xi_Apart_Apart => kit_is)
  (case xi_Apart_Backward => kit_is)
  (case xi_Apart_Crossed => kit_is)
  (case xi_Apart_Hole => kit_is)
  (case xi_Apart_NoDrawing => kit_is)
  (case xi_Apart_NoFloor => kit_is)
  (case xi_Apart_NoGrid => kit_is)
  (case xi_Apart_NoLine => kit_is)
  (case xi_Apart_NoPiece => kit_is)
  (case xi_Apart_NoWord => kit_is)
  (case xi_Apart_NotAsMany => kit_is)
  (case xi_Apart_Nothing => kit_is)
  (case xi_Apart_Open => kit_is)
  (case xi_Apart_TooMany => kit_is)
  (case xi_Apart_ValueError => kit_is)
  (case xi_Hole_Apart => kit_is)
  (case xi_Hole_Backward => kit_is)
  (case xi_Hole_Crossed => kit_is)
  (case xi_Hole_Hole => kit_is)
  (case xi_Hole_NoDrawing => kit_is)
  (case xi_Hole_NoFloor => kit_is)
  (case xi_Hole_NoGrid => kit_is)
  (case xi_Hole_NoLine => kit_is)
  (case xi_Hole_NoPiece => kit_is)
  (case xi_Hole_NoWord => kit_is)
  (case xi_Hole_NotAsMany => kit_is)
  (case xi_Hole_Nothing => kit_is)
  (case xi_Hole_Open => kit_is)
  (case xi_Hole_TooMany => kit_is)
  (case xi_Hole_ValueError => kit_is)
  (case xi_NoDrawing_Apart => kit_is)
  (case xi_NoDrawing_Backward => kit_is)
  (case xi_NoDrawing_Crossed => kit_is)
  (case xi_NoDrawing_Hole => kit_is)
  (case xi_NoDrawing_NoDrawing => kit_is)
  (case xi_NoDrawing_NoFloor => kit_is)
  (case xi_NoDrawing_NoGrid => kit_is)
  (case xi_NoDrawing_NoLine => kit_is)
  (case xi_NoDrawing_NoPiece => kit_is)
  (case xi_NoDrawing_NoWord => kit_is)
  (case xi_NoDrawing_NotAsMany => kit_is)
  (case xi_NoDrawing_Nothing => kit_is)
  (case xi_NoDrawing_Open => kit_is)
  (case xi_NoDrawing_TooMany => kit_is)
  (case xi_NoDrawing_ValueError => kit_is)
  (case xi_NoPiece_Apart => kit_is)
  (case xi_NoPiece_Backward => kit_is)
  (case xi_NoPiece_Crossed => kit_is)
  (case xi_NoPiece_Hole => kit_is)
  (case xi_NoPiece_NoDrawing => kit_is)
  (case xi_NoPiece_NoFloor => kit_is)
  (case xi_NoPiece_NoGrid => kit_is)
  (case xi_NoPiece_NoLine => kit_is)
  (case xi_NoPiece_NoPiece => kit_is)
  (case xi_NoPiece_NoWord => kit_is)
  (case xi_NoPiece_NotAsMany => kit_is)
  (case xi_NoPiece_Nothing => kit_is)
  (case xi_NoPiece_Open => kit_is)
  (case xi_NoPiece_TooMany => kit_is)
  (case xi_NoPiece_ValueError => kit_is)
  (case xi_TooMany_Apart => kit_is)
  (case xi_TooMany_Backward => kit_is)
  (case xi_TooMany_Crossed => kit_is)
  (case xi_TooMany_Hole => kit_is)
  (case xi_TooMany_NoDrawing => kit_is)
  (case xi_TooMany_NoFloor => kit_is)
  (case xi_TooMany_NoGrid => kit_is)
  (case xi_TooMany_NoLine => kit_is)
  (case xi_TooMany_NoPiece => kit_is)
  (case xi_TooMany_NoWord => kit_is)
  (case xi_TooMany_NotAsMany => kit_is)
  (case xi_TooMany_Nothing => kit_is)
  (case xi_TooMany_Open => kit_is)
  (case xi_TooMany_TooMany => kit_is)
  (case xi_TooMany_ValueError => kit_is)
  (case xkf_Apart => k_is)
  (case xkk_Apart => k_is)
  (case xkc_Apart => kernel_rfl)
  (case xkn_Apart => k_is)
  (case xl_Apart => k_is)
  (case xd_Apart => k_is)
  (case xq_Apart => k_is)
  (case xkf_Hole => k_is)
  (case xkk_Hole => k_is)
  (case xkc_Hole => kernel_rfl)
  (case xkn_Hole => k_is)
  (case xl_Hole => k_is)
  (case xd_Hole => k_is)
  (case xq_Hole => k_is)
  (case xbu_FloorError => k_is)
  (case xbv_FloorError => k_is)
  (case xbz_FloorError => k_is)
  (case xfd_cell_Apart => k_is)
  (case xfn_cell_Apart => k_is)
  (case xfd_cell_Hole => k_is)
  (case xfn_cell_Hole => k_is)
 case S => exact fun K H a ns hl hO hS => L3.start_law hO hS (Law.begin_law hl)
