import PyProof.Rows.All
import HandS.Head0
import HandS.Head1
import HandS.Head2
import HandS.HeadHook4
import HandS.Property
import HandS.Words
import HandS.Codes
import Wide.All
import OpenK.AllK
import Wide.FinOn
import HandS.ForMost
import HandS.Exc
import HandS.ExcOwn
import HandS.ExcInit
import HandS.ExcValue
import HandS.Defaults
import HandS.IsInst
import KE.KExcInit
import HandS.Wide
import HandS.ExcField
import HandS.ExcIs
import KE.KExcIs
import HandS.DictComp
import HandS.Walk
import HandS.DictTup
import HandS.Iter
import HandS.Conv
import KE.KDictCopyH
import KE.KDictPairs
import KE.KEqDict
import HandS.Set
import HandS.SetFor
import HandS.Strs
import PyProof.Rows.SortShellAny
import PyProof.StrWalks
import HandS.SortKw
import KE.SortKeyHeap
import PyProof.ListStr
import PyProof.StrOps
import PyProof.NeKinds
import HandS.Zip
import KE.GoesNew
import HandS.StrMore
import PyProof.FString5
import HandS.TupSets
import PyProof.MinMaxWalk
import PyProof.WalkInts
import HandS.Star
import HandS.IterVal
import HandS.OwnIter
import HandS.Lambda
import HandS.SlotsOwn
import KE.KCallOwn
import PyProof.InstEq
import PyProof.WalksMore
import KE.KDictList
import PyProof.CollectWalk
import HandS.GenList
import KE.GoesMore
import KE.KDictZip
import HandS.RepeatKit
import HandS.Style
import HandS.Text
import HandS.List
import KE.KRevSl
import PyProof.AutoSeq1
import PyProof.StrOps2
import HandS.Dict
import KE.KDictDisplayH
import PyProof.ReprRoads
import PyProof.ReprLen
import HandS.Comp
import HandS.FStr
import HandS.Steps
import HandS.TupLen
import HandS.TupMul
import HandS.WordsDict
import HandS.TupAny
import HandS.Deep
import HandS.HeadHook1
import HandS.HeadHook2
import KE.SortLaws
import KE.SortData
import PyProof.Rows.StrCut
import HandS.Small
import HandS.SetBool
import HandS.HotCalls
import HandS.HeadWalk
import HandS.EndTab
import PyProof.Rows.StrClose
import HandS.ListItems
import HandS.HeadEnd
import PySem.Challenge.RW_fewmarks_k07_paths_judged
set_option Elab.async false
set_option linter.all false
set_option maxRecDepth 100000
set_option maxHeartbeats 2000000
namespace FM
open PySem PySem.Spec PyProof.Rows L2 He
def nsAd (g : Addr → Option Obj) (a : Addr) : List Addr := match g a with
  | some ⟨_, _, .cls cd, _⟩ => [cd.ns]
  | _ => []
def cdAd (g : Addr → Option Obj) (a : Addr) : List Addr := match g a with
  | some ⟨_, _, .func fd, _⟩ => (match fd.code with
    | .ref c => [c]
    | _ => [])
  | _ => []
end FM
set_option maxRecDepth 100000
set_option maxHeartbeats 2000000
namespace FM
open PySem PySem.Spec PyProof.Rows L2 He
def refsAt (g : Addr → Option Obj) (a : Addr) : List Addr := match g a with
  | some o => refsO o
  | none => []
def gathC (xs cs : List Str) (g : Addr → Option Obj) : List Addr :=
  (fun as => (fun vs => (fun ps => mainGlobals :: (as ++ (as.flatMap (nsAd g) ++ (vs ++ (ps ++ (as ++ (vs ++ ps)).flatMap (cdAd g)))))) (vs.flatMap (refsAt g)))
    ((cs.flatMap fun x => nsAd g (ga (frG g [mainGlobals]) x)).flatMap (refsAt g))) (xs.map fun x => ga (frG g [mainGlobals]) x)
/-- the getter of a property -/
def pgA (K : PySem.W.Frag) (C : Addr) (f : Str) : Addr := match PySem.W.recIn K (ma K C f) "property" with
  | some (.ref g :: _) => g
  | _ => 0
def fnWA (K : PySem.W.Frag) (a : Addr) : FnW := match K.lookup a with
  | some ⟨_, _, .func fd, _⟩ => some (fd.name, fd.qualname, fd.params, fd.body, fd.scope, fd.globals, fd.closure, fd.builtins)
  | _ => none
/-- a property of the class x: its getter's def (at_ names the class and the property) -/
def prA (K : PySem.W.Frag) (d : DefD) : Addr := pgA K (ga K d.at_.1) d.name
def prOk (K : PySem.W.Frag) (d : DefD) : Bool :=
  eqO (PySem.W.findIn K (.ref (ga K d.at_.1)) d.name) (some (some (.ref (ma K (ga K d.at_.1) d.name)))) &&
  (eqO (PySem.W.specialIn K (.ref (ma K (ga K d.at_.1) d.name)) "__get__") (some (some (.builtin "property.__get__"))) &&
  (decide (PySem.W.takesIn K (.ref (ma K (ga K d.at_.1) d.name)) = some true) &&
  ((match PySem.W.recIn K (ma K (ga K d.at_.1) d.name) "property" with
    | some (.ref _ :: _) => true
    | _ => false) &&
  (PySem.W.keepIn K (.ref (prA K d)) && (match K.lookup (prA K d) with
    | some ⟨_, _, .func fd, _⟩ => PySem.W.codeIn K fd.code d.qual && (dflB K fd.defaults [] && kwdB K fd.kwdefaults [])
    | _ => false)))))
theorem pr_ok {K : PySem.W.Frag} {d : DefD} (e : fnWA K (prA K d) = d.val) (c : prOk K d = true) :
    ∃ p f fd, PropOf K (ga K d.at_.1) d.name p f ∧ FunD K d.name d.qual d.params d.body d.scope [] [] f fd := by
  obtain ⟨c1, c⟩ := ba c
  obtain ⟨c2, c⟩ := ba c
  obtain ⟨c3, c⟩ := ba c
  obtain ⟨c4, c⟩ := ba c
  obtain ⟨kp, c5⟩ := ba c
  have hrec : ∃ rest, PySem.W.recIn K (ma K (ga K d.at_.1) d.name) "property" = some (.ref (prA K d) :: rest) := by
    unfold prA pgA
    cases q : PySem.W.recIn K (ma K (ga K d.at_.1) d.name) "property" with
    | none =>
      rw [q] at c4
      cases c4
    | some l =>
      rw [q] at c4
      cases l with
      | nil => cases c4
      | cons v r =>
        cases v with
        | ref g => exact ⟨r, rfl⟩
        | _ => cases c4
  refine ⟨ma K (ga K d.at_.1) d.name, prA K d, ?_⟩
  unfold fnWA at e
  cases q : K.lookup (prA K d) with
  | none =>
    rw [q] at c5
    cases c5
  | some o =>
    obtain ⟨oc, od, dt, osl⟩ := o
    rw [q] at c5 e
    cases dt with
    | func fd =>
      obtain ⟨n1, n2, n3, n4, n5, n6, n7, n8, n9, n10, n11, n12, n13, n14, n15⟩ := fd
      have e2 : (some (n1, n2, n3, n4, n5, n6, n7, n15) : FnW) = some (d.name, d.qual, d.params, .stmts d.body, d.scope, mainGlobals, [], builtinsNs) := e
      simp only [Option.some.injEq, Prod.mk.injEq] at e2
      obtain ⟨h1, h2, h3, h4, h5, h6, h7, h8⟩ := e2
      subst h1 h2 h3 h4 h5 h6 h7 h8
      have c6 : (PySem.W.codeIn K n13 d.qual && (dflB K n8 [] && kwdB K n9 [])) = true := c5
      obtain ⟨k1, k2⟩ := ba c6
      obtain ⟨k3, k4⟩ := ba k2
      exact ⟨_, ⟨eqO_ok c1, eqO_ok c2, of_decide_eq_true c3, hrec⟩, ⟨oc, od, n8, n9, n10, n11, n12, n13, n14, osl, rfl, q, k1, dflB_ok k3, kwdB_ok k4⟩, kp⟩
    | _ => cases c5
abbrev AlP : Type := AlX × List FnW
section
variable (xs cs : List Str) (fa : List Fa) (fn pr : List DefD) (tf : List Defn) (ex : PySem.W.Frag → Bool)
def obsP (g : Addr → Option Obj) : AlP := (fun K => ((obsT fa fn [] K, ex K && tabsB g tf K), pr.map fun d => fnWA K (prA K d))) (frT g (gathC xs cs g))
variable {xs cs fa fn pr tf ex}
theorem saysP_of {w : World} {h : Heap} (e : obsP xs cs fa fn pr tf ex h.get? = (valX fn [] w, pr.map DefD.val)) :
    SaysX fa fn [] tf ex w h (frT h.get? (gathC xs cs h.get?)) ∧ (pr.map fun d => fnWA (frT h.get? (gathC xs cs h.get?)) (prA (frT h.get? (gathC xs cs h.get?)) d)) = pr.map DefD.val := by
  let K := frT h.get? (gathC xs cs h.get?)
  have e0 : (obsT fa fn [] K, ex K && tabsB h.get? tf K) = valX fn [] w := congrArg (fun z : AlP => z.1) e
  have e1 : obsT fa fn [] K = valT fn [] w := congrArg (fun z : AlX => z.1) e0
  have e2 : (ex K && tabsB h.get? tf K) = true := congrArg (fun z : AlX => z.2) e0
  obtain ⟨h1, h2⟩ := ba e2
  have all : ∀ p ∈ tf, PySem.W.codeHdIn K (cT K p).1 (cT K p).2 = true ∧ ∃ o, h.get? (cT K p).2 = some o ∧ emptyTab o = true := fun p hp => by
    obtain ⟨z1, z2⟩ := ba (List.all_eq_true.mp h2 p hp)
    cases q : h.get? (cT K p).2 with
    | none => rw [q] at z2; cases z2
    | some o => rw [q] at z2; exact ⟨z1, o, rfl, z2⟩
  refine ⟨?_, congrArg (fun z : AlP => z.2) e⟩
  constructor
  · exact e1
  · exact h1
  · exact fun p hp => (all p hp).1
  · intro p hp
    obtain ⟨_, o, q, z⟩ := all p hp
    exact frT_none q z
  · intro p hp
    obtain ⟨_, o, q, z⟩ := all p hp
    rw [q, emptyTab_eq z]
variable (xs cs fa fn pr tf ex)
def hookP : PySem.W.Hook where
  α := AlP
  obs := fun s => obsP xs cs fa fn pr tf ex s.heap.get?
  val := fun w => (valX fn [] w, pr.map DefD.val)
  says := fun w h => ∃ K : PySem.W.Frag, K.In h ∧ SaysX fa fn [] tf ex w h K ∧ (pr.map fun d => fnWA K (prA K d)) = pr.map DefD.val
  of := fun _ _ e => ⟨_, frT_in, saysP_of e⟩
  keeps := fun _ _ _ h k => by
    obtain ⟨K, i, c, p⟩ := h
    exact ⟨K, i.keeps k, ⟨c.t, c.more, c.hd, c.out, fun p hp => k _ _ (c.empty p hp)⟩, p⟩
variable {xs cs fa fn pr tf ex}
theorem obsP_eq {g : Addr → Option Obj} {s : Shared} (h : ∀ a, g a = s.heap.get? a) : obsP xs cs fa fn pr tf ex g = (hookP xs cs fa fn pr tf ex).obs s := by
  have e : g = s.heap.get? := funext h
  rw [e]
  rfl
theorem prAt {K : PySem.W.Frag} (c : (pr.map fun d => fnWA K (prA K d)) = pr.map DefD.val) (o : (pr.all fun d => prOk K d) = true) (i : Nat) {d : DefD} (h : pr[i]? = some d := by rfl) :
    ∃ p f fd, PropOf K (ga K d.at_.1) d.name p f ∧ FunD K d.name d.qual d.params d.body d.scope [] [] f fd := by
  have e2 : (pr.map fun d => fnWA K (prA K d))[i]? = (pr.map DefD.val)[i]? := by rw [c]
  rw [List.getElem?_map, List.getElem?_map, h] at e2
  exact pr_ok (Option.some.inj e2) (List.all_eq_true.mp o d (List.mem_of_getElem? h))
end
theorem fnIn_of {K : PySem.W.Frag} {x qual : Str} {params : Arguments} {body : List Stmt} {scope : Scope} {dvs : List V} {kws : List (Str × V)} {f : Addr} {fd : FuncData} (F : FunD K x qual params body scope dvs kws f fd) : PySem.W.fnIn K f = true := by
  obtain ⟨oc, od, dV, kV, doc, pm, an, cdv, ct, osl, rfl, lk, _, _, _⟩ := F.ex
  unfold PySem.W.fnIn
  rw [lk]
end FM
set_option maxRecDepth 100000
set_option maxHeartbeats 4000000
namespace K0
open PySem L2 FM He
def top (i : Nat) : Stmt := PySem.Challenge.pw_fewmarks_k07_paths_judged.main.body.getD i (.Pass ⟨0, 0, 0, 0⟩)
abbrev sThrow : Stmt := top 94
abbrev sStart : Stmt := top 93
abbrev sPick : Stmt := top 95
abbrev CR (K : PySem.W.Frag) : Addr := ga K "Rewriter"
abbrev s_is_integer : Stmt := top 2
abbrev s_is_below : Stmt := top 3
abbrev s_is_tuple_of : Stmt := top 4
abbrev s_is_letter_of : Stmt := top 5
abbrev s_is_state_of : Stmt := top 6
abbrev s_is_edge_of : Stmt := top 7
abbrev s_is_word : Stmt := top 20
abbrev s_is_text : Stmt := top 21
abbrev s_is_letters : Stmt := top 22
abbrev s_sorted_words : Stmt := top 23
abbrev s_check_text : Stmt := top 27
abbrev s_check_state : Stmt := top 28
abbrev s_nodes_from : Stmt := top 30
abbrev s_nodes_between : Stmt := top 31
abbrev s_edges_by_start : Stmt := top 36
abbrev s_edges_by_end : Stmt := top 37
abbrev s_sources_of : Stmt := top 39
abbrev s_lefts_along : Stmt := top 41
abbrev s_some_results : Stmt := top 42
abbrev s__written_on : Stmt := top 43
abbrev s_is_trail : Stmt := top 60
abbrev s_last_state : Stmt := top 61
abbrev s_text_of : Stmt := top 62
abbrev s_written_before_end : Stmt := top 63
abbrev s_written_by : Stmt := top 64
abbrev s_check_rewriter : Stmt := top 81
abbrev s__is_short : Stmt := top 83
abbrev s__is_table : Stmt := top 84
abbrev s__is_edge : Stmt := top 85
abbrev s__are_edges : Stmt := top 86
abbrev s_is_path : Stmt := top 88
abbrev s_reads : Stmt := top 89
abbrev s_writes : Stmt := top 90
abbrev s__check_path : Stmt := top 91
abbrev s__law_shuffled : Stmt := top 96
abbrev s__law_drawn_word : Stmt := top 97
abbrev s__law_drawn_turns : Stmt := top 98
abbrev s__law_guesser : Stmt := top 99
abbrev s__law_moved : Stmt := top 100
abbrev s__law_joined : Stmt := top 101
abbrev s__law_two_forms : Stmt := top 102
abbrev s__law_split : Stmt := top 103
abbrev s__law_thinned : Stmt := top 104
abbrev s__law_told_one : Stmt := top 105
abbrev s__law_drawn_single : Stmt := top 106
abbrev s__law_drawn_any : Stmt := top 107
abbrev s__law_behind : Stmt := top 108
abbrev s__law_ahead_of : Stmt := top 109
abbrev s__law_useful : Stmt := top 110
abbrev s__law_built : Stmt := top 111
abbrev s__law_is_path : Stmt := top 112
abbrev s__law_whole : Stmt := top 113
abbrev s__law_is_edge : Stmt := top 114
abbrev s__law_read_by : Stmt := top 115
abbrev s__law_wrote : Stmt := top 116
abbrev s__law_room_at : Stmt := top 117
abbrev s__law_drawn_path : Stmt := top 118
abbrev s__law_near : Stmt := top 119
abbrev s__law_met : Stmt := top 120
abbrev s__law_right : Stmt := top 121
abbrev s_law : Stmt := top 122
abbrev s_Rewriter___init__ : Stmt := inClass (top 80) 0
abbrev s_Rewriter_letters : Stmt := inClass (top 80) 2
abbrev s_Rewriter_states : Stmt := inClass (top 80) 3
abbrev s_Rewriter_starts : Stmt := inClass (top 80) 4
abbrev s_Rewriter_edges : Stmt := inClass (top 80) 5
abbrev s_Rewriter_ends : Stmt := inClass (top 80) 6
abbrev s_Rewriter___call__ : Stmt := inClass (top 80) 7
abbrev s_Rewriter___getitem__ : Stmt := inClass (top 80) 9
abbrev s_Rewriter___len__ : Stmt := inClass (top 80) 20
abbrev s_Rewriter___bool__ : Stmt := inClass (top 80) 21
abbrev s_Rewriter___eq__ : Stmt := inClass (top 80) 22
end K0
set_option maxRecDepth 100000
set_option maxHeartbeats 0
namespace K0H
open PySem PySem.Spec PyProof.Rows L2 FM He K0
def d_is_integer : DefD := ⟨("is_integer", none), "is_integer", "is_integer", defArgs s_is_integer, defBody s_is_integer, defScope s_is_integer, [], []⟩
def d_is_below : DefD := ⟨("is_below", none), "is_below", "is_below", defArgs s_is_below, defBody s_is_below, defScope s_is_below, [], []⟩
def d_is_tuple_of : DefD := ⟨("is_tuple_of", none), "is_tuple_of", "is_tuple_of", defArgs s_is_tuple_of, defBody s_is_tuple_of, defScope s_is_tuple_of, [], []⟩
def d_is_letter_of : DefD := ⟨("is_letter_of", none), "is_letter_of", "is_letter_of", defArgs s_is_letter_of, defBody s_is_letter_of, defScope s_is_letter_of, [], []⟩
def d_is_state_of : DefD := ⟨("is_state_of", none), "is_state_of", "is_state_of", defArgs s_is_state_of, defBody s_is_state_of, defScope s_is_state_of, [], []⟩
def d_is_edge_of : DefD := ⟨("is_edge_of", none), "is_edge_of", "is_edge_of", defArgs s_is_edge_of, defBody s_is_edge_of, defScope s_is_edge_of, [], []⟩
def d_is_word : DefD := ⟨("is_word", none), "is_word", "is_word", defArgs s_is_word, defBody s_is_word, defScope s_is_word, [], []⟩
def d_is_text : DefD := ⟨("is_text", none), "is_text", "is_text", defArgs s_is_text, defBody s_is_text, defScope s_is_text, [], []⟩
def d_is_letters : DefD := ⟨("is_letters", none), "is_letters", "is_letters", defArgs s_is_letters, defBody s_is_letters, defScope s_is_letters, [], []⟩
def d_sorted_words : DefD := ⟨("sorted_words", none), "sorted_words", "sorted_words", defArgs s_sorted_words, defBody s_sorted_words, defScope s_sorted_words, [], []⟩
def d_check_text : DefD := ⟨("check_text", none), "check_text", "check_text", defArgs s_check_text, defBody s_check_text, defScope s_check_text, [], []⟩
def d_check_state : DefD := ⟨("check_state", none), "check_state", "check_state", defArgs s_check_state, defBody s_check_state, defScope s_check_state, [], []⟩
def d_nodes_from : DefD := ⟨("nodes_from", none), "nodes_from", "nodes_from", defArgs s_nodes_from, defBody s_nodes_from, defScope s_nodes_from, [], []⟩
def d_nodes_between : DefD := ⟨("nodes_between", none), "nodes_between", "nodes_between", defArgs s_nodes_between, defBody s_nodes_between, defScope s_nodes_between, [], []⟩
def d_edges_by_start : DefD := ⟨("edges_by_start", none), "edges_by_start", "edges_by_start", defArgs s_edges_by_start, defBody s_edges_by_start, defScope s_edges_by_start, [], []⟩
def d_edges_by_end : DefD := ⟨("edges_by_end", none), "edges_by_end", "edges_by_end", defArgs s_edges_by_end, defBody s_edges_by_end, defScope s_edges_by_end, [], []⟩
def d_sources_of : DefD := ⟨("sources_of", none), "sources_of", "sources_of", defArgs s_sources_of, defBody s_sources_of, defScope s_sources_of, [], []⟩
def d_lefts_along : DefD := ⟨("lefts_along", none), "lefts_along", "lefts_along", defArgs s_lefts_along, defBody s_lefts_along, defScope s_lefts_along, [], []⟩
def d_some_results : DefD := ⟨("some_results", none), "some_results", "some_results", defArgs s_some_results, defBody s_some_results, defScope s_some_results, [], []⟩
def d__written_on : DefD := ⟨("_written_on", none), "_written_on", "_written_on", defArgs s__written_on, defBody s__written_on, defScope s__written_on, [], []⟩
def d_is_trail : DefD := ⟨("is_trail", none), "is_trail", "is_trail", defArgs s_is_trail, defBody s_is_trail, defScope s_is_trail, [], []⟩
def d_last_state : DefD := ⟨("last_state", none), "last_state", "last_state", defArgs s_last_state, defBody s_last_state, defScope s_last_state, [], []⟩
def d_text_of : DefD := ⟨("text_of", none), "text_of", "text_of", defArgs s_text_of, defBody s_text_of, defScope s_text_of, [], []⟩
def d_written_before_end : DefD := ⟨("written_before_end", none), "written_before_end", "written_before_end", defArgs s_written_before_end, defBody s_written_before_end, defScope s_written_before_end, [], []⟩
def d_written_by : DefD := ⟨("written_by", none), "written_by", "written_by", defArgs s_written_by, defBody s_written_by, defScope s_written_by, [], []⟩
def d_check_rewriter : DefD := ⟨("check_rewriter", none), "check_rewriter", "check_rewriter", defArgs s_check_rewriter, defBody s_check_rewriter, defScope s_check_rewriter, [], []⟩
def d__is_short : DefD := ⟨("_is_short", none), "_is_short", "_is_short", defArgs s__is_short, defBody s__is_short, defScope s__is_short, [], []⟩
def d__is_table : DefD := ⟨("_is_table", none), "_is_table", "_is_table", defArgs s__is_table, defBody s__is_table, defScope s__is_table, [], []⟩
def d__is_edge : DefD := ⟨("_is_edge", none), "_is_edge", "_is_edge", defArgs s__is_edge, defBody s__is_edge, defScope s__is_edge, [], []⟩
def d__are_edges : DefD := ⟨("_are_edges", none), "_are_edges", "_are_edges", defArgs s__are_edges, defBody s__are_edges, defScope s__are_edges, [], []⟩
def d_is_path : DefD := ⟨("is_path", none), "is_path", "is_path", defArgs s_is_path, defBody s_is_path, defScope s_is_path, [], []⟩
def d_reads : DefD := ⟨("reads", none), "reads", "reads", defArgs s_reads, defBody s_reads, defScope s_reads, [], []⟩
def d_writes : DefD := ⟨("writes", none), "writes", "writes", defArgs s_writes, defBody s_writes, defScope s_writes, [], []⟩
def d__check_path : DefD := ⟨("_check_path", none), "_check_path", "_check_path", defArgs s__check_path, defBody s__check_path, defScope s__check_path, [], []⟩
def d__law_start : DefD := ⟨("_law_start", none), "_law_start", "_law_start", defArgs sStart, defBody sStart, defScope sStart, [], []⟩
def d__law_throw : DefD := ⟨("_law_throw", none), "_law_throw", "_law_throw", defArgs sThrow, defBody sThrow, defScope sThrow, [], []⟩
def d__law_pick : DefD := ⟨("_law_pick", none), "_law_pick", "_law_pick", defArgs sPick, defBody sPick, defScope sPick, [], []⟩
def d__law_shuffled : DefD := ⟨("_law_shuffled", none), "_law_shuffled", "_law_shuffled", defArgs s__law_shuffled, defBody s__law_shuffled, defScope s__law_shuffled, [], []⟩
def d__law_drawn_word : DefD := ⟨("_law_drawn_word", none), "_law_drawn_word", "_law_drawn_word", defArgs s__law_drawn_word, defBody s__law_drawn_word, defScope s__law_drawn_word, [], []⟩
def d__law_drawn_turns : DefD := ⟨("_law_drawn_turns", none), "_law_drawn_turns", "_law_drawn_turns", defArgs s__law_drawn_turns, defBody s__law_drawn_turns, defScope s__law_drawn_turns, [], []⟩
def d__law_guesser : DefD := ⟨("_law_guesser", none), "_law_guesser", "_law_guesser", defArgs s__law_guesser, defBody s__law_guesser, defScope s__law_guesser, [], []⟩
def d__law_moved : DefD := ⟨("_law_moved", none), "_law_moved", "_law_moved", defArgs s__law_moved, defBody s__law_moved, defScope s__law_moved, [], []⟩
def d__law_joined : DefD := ⟨("_law_joined", none), "_law_joined", "_law_joined", defArgs s__law_joined, defBody s__law_joined, defScope s__law_joined, [], []⟩
def d__law_two_forms : DefD := ⟨("_law_two_forms", none), "_law_two_forms", "_law_two_forms", defArgs s__law_two_forms, defBody s__law_two_forms, defScope s__law_two_forms, [], []⟩
def d__law_split : DefD := ⟨("_law_split", none), "_law_split", "_law_split", defArgs s__law_split, defBody s__law_split, defScope s__law_split, [], []⟩
def d__law_thinned : DefD := ⟨("_law_thinned", none), "_law_thinned", "_law_thinned", defArgs s__law_thinned, defBody s__law_thinned, defScope s__law_thinned, [], []⟩
def d__law_told_one : DefD := ⟨("_law_told_one", none), "_law_told_one", "_law_told_one", defArgs s__law_told_one, defBody s__law_told_one, defScope s__law_told_one, [], []⟩
def d__law_drawn_single : DefD := ⟨("_law_drawn_single", none), "_law_drawn_single", "_law_drawn_single", defArgs s__law_drawn_single, defBody s__law_drawn_single, defScope s__law_drawn_single, [], []⟩
def d__law_drawn_any : DefD := ⟨("_law_drawn_any", none), "_law_drawn_any", "_law_drawn_any", defArgs s__law_drawn_any, defBody s__law_drawn_any, defScope s__law_drawn_any, [], []⟩
def d__law_behind : DefD := ⟨("_law_behind", none), "_law_behind", "_law_behind", defArgs s__law_behind, defBody s__law_behind, defScope s__law_behind, [], []⟩
def d__law_ahead_of : DefD := ⟨("_law_ahead_of", none), "_law_ahead_of", "_law_ahead_of", defArgs s__law_ahead_of, defBody s__law_ahead_of, defScope s__law_ahead_of, [], []⟩
def d__law_useful : DefD := ⟨("_law_useful", none), "_law_useful", "_law_useful", defArgs s__law_useful, defBody s__law_useful, defScope s__law_useful, [], []⟩
def d__law_built : DefD := ⟨("_law_built", none), "_law_built", "_law_built", defArgs s__law_built, defBody s__law_built, defScope s__law_built, [], []⟩
def d__law_is_path : DefD := ⟨("_law_is_path", none), "_law_is_path", "_law_is_path", defArgs s__law_is_path, defBody s__law_is_path, defScope s__law_is_path, [], []⟩
def d__law_whole : DefD := ⟨("_law_whole", none), "_law_whole", "_law_whole", defArgs s__law_whole, defBody s__law_whole, defScope s__law_whole, [], []⟩
def d__law_is_edge : DefD := ⟨("_law_is_edge", none), "_law_is_edge", "_law_is_edge", defArgs s__law_is_edge, defBody s__law_is_edge, defScope s__law_is_edge, [], []⟩
def d__law_read_by : DefD := ⟨("_law_read_by", none), "_law_read_by", "_law_read_by", defArgs s__law_read_by, defBody s__law_read_by, defScope s__law_read_by, [], []⟩
def d__law_wrote : DefD := ⟨("_law_wrote", none), "_law_wrote", "_law_wrote", defArgs s__law_wrote, defBody s__law_wrote, defScope s__law_wrote, [], []⟩
def d__law_room_at : DefD := ⟨("_law_room_at", none), "_law_room_at", "_law_room_at", defArgs s__law_room_at, defBody s__law_room_at, defScope s__law_room_at, [], []⟩
def d__law_drawn_path : DefD := ⟨("_law_drawn_path", none), "_law_drawn_path", "_law_drawn_path", defArgs s__law_drawn_path, defBody s__law_drawn_path, defScope s__law_drawn_path, [], []⟩
def d__law_near : DefD := ⟨("_law_near", none), "_law_near", "_law_near", defArgs s__law_near, defBody s__law_near, defScope s__law_near, [], []⟩
def d__law_met : DefD := ⟨("_law_met", none), "_law_met", "_law_met", defArgs s__law_met, defBody s__law_met, defScope s__law_met, [], []⟩
def d__law_right : DefD := ⟨("_law_right", none), "_law_right", "_law_right", defArgs s__law_right, defBody s__law_right, defScope s__law_right, [], []⟩
def d_law : DefD := ⟨("law", none), "law", "law", defArgs s_law, defBody s_law, defScope s_law, [], []⟩
def dm___init__ : DefD := ⟨("Rewriter", some "__init__"), "__init__", "Rewriter.__init__", defArgs s_Rewriter___init__, defBody s_Rewriter___init__, defScope s_Rewriter___init__, [], []⟩
def dm___call__ : DefD := ⟨("Rewriter", some "__call__"), "__call__", "Rewriter.__call__", defArgs s_Rewriter___call__, defBody s_Rewriter___call__, defScope s_Rewriter___call__, [], []⟩
def dm___getitem__ : DefD := ⟨("Rewriter", some "__getitem__"), "__getitem__", "Rewriter.__getitem__", defArgs s_Rewriter___getitem__, defBody s_Rewriter___getitem__, defScope s_Rewriter___getitem__, [], []⟩
def dm___len__ : DefD := ⟨("Rewriter", some "__len__"), "__len__", "Rewriter.__len__", defArgs s_Rewriter___len__, defBody s_Rewriter___len__, defScope s_Rewriter___len__, [], []⟩
def dm___bool__ : DefD := ⟨("Rewriter", some "__bool__"), "__bool__", "Rewriter.__bool__", defArgs s_Rewriter___bool__, defBody s_Rewriter___bool__, defScope s_Rewriter___bool__, [], []⟩
def dm___eq__ : DefD := ⟨("Rewriter", some "__eq__"), "__eq__", "Rewriter.__eq__", defArgs s_Rewriter___eq__, defBody s_Rewriter___eq__, defScope s_Rewriter___eq__, [], []⟩
def dp_letters : DefD := ⟨("Rewriter", some "letters"), "letters", "Rewriter.letters", defArgs s_Rewriter_letters, defBody s_Rewriter_letters, defScope s_Rewriter_letters, [], []⟩
def dp_states : DefD := ⟨("Rewriter", some "states"), "states", "Rewriter.states", defArgs s_Rewriter_states, defBody s_Rewriter_states, defScope s_Rewriter_states, [], []⟩
def dp_starts : DefD := ⟨("Rewriter", some "starts"), "starts", "Rewriter.starts", defArgs s_Rewriter_starts, defBody s_Rewriter_starts, defScope s_Rewriter_starts, [], []⟩
def dp_edges : DefD := ⟨("Rewriter", some "edges"), "edges", "Rewriter.edges", defArgs s_Rewriter_edges, defBody s_Rewriter_edges, defScope s_Rewriter_edges, [], []⟩
def dp_ends : DefD := ⟨("Rewriter", some "ends"), "ends", "Rewriter.ends", defArgs s_Rewriter_ends, defBody s_Rewriter_ends, defScope s_Rewriter_ends, [], []⟩
def fn0 : List DefD := [d_is_integer, d_is_below, d_is_tuple_of, d_is_letter_of, d_is_state_of, d_is_edge_of, d_is_word, d_is_text, d_is_letters, d_sorted_words, d_check_text, d_check_state, d_nodes_from, d_nodes_between, d_edges_by_start, d_edges_by_end, d_sources_of, d_lefts_along, d_some_results, d__written_on, d_is_trail, d_last_state, d_text_of, d_written_before_end, d_written_by, d_check_rewriter, d__is_short, d__is_table, d__is_edge, d__are_edges]
def fn1 : List DefD := [d_is_path, d_reads, d_writes, d__check_path, d__law_start, d__law_throw, d__law_pick, d__law_shuffled, d__law_drawn_word, d__law_drawn_turns, d__law_guesser, d__law_moved, d__law_joined, d__law_two_forms, d__law_split, d__law_thinned, d__law_told_one, d__law_drawn_single, d__law_drawn_any, d__law_behind, d__law_ahead_of, d__law_useful, d__law_built, d__law_is_path, d__law_whole, d__law_is_edge, d__law_read_by, d__law_wrote, d__law_room_at, d__law_drawn_path]
def fn2 : List DefD := [d__law_near, d__law_met, d__law_right, d_law, dm___init__, dm___call__, dm___getitem__, dm___len__, dm___bool__, dm___eq__]
def fn : List DefD := fn0 ++ fn1 ++ fn2
def fa0 : List Fa := [.free "isinstance", .free "int", .free "bool", .free "tuple", .free "len", .free "str", .free "list", .free "sorted", .free "set", .free "enumerate", .free "any", .free "dict", .free "all", .free "max", .free "abs", .free "range", .free "repr", .free "min", .glo "Rewriter", .glo "InvalidOperation", .glo "MarkError", .glo "is_integer", .glo "is_below", .glo "is_tuple_of", .glo "is_letter_of", .glo "is_state_of", .glo "is_edge_of", .glo "is_word", .glo "is_text", .glo "is_letters"]
def fa1 : List Fa := [.glo "sorted_words", .glo "check_text", .glo "check_state", .glo "nodes_from", .glo "nodes_between", .glo "edges_by_start", .glo "edges_by_end", .glo "sources_of", .glo "lefts_along", .glo "some_results", .glo "_written_on", .glo "is_trail", .glo "last_state", .glo "text_of", .glo "written_before_end", .glo "written_by", .glo "check_rewriter", .glo "_is_short", .glo "_is_table", .glo "_is_edge", .glo "_are_edges", .glo "is_path", .glo "reads", .glo "writes", .glo "_check_path", .glo "_law_start", .glo "_law_throw", .glo "_law_pick", .glo "_law_shuffled", .glo "_law_drawn_word"]
def fa2 : List Fa := [.glo "_law_drawn_turns", .glo "_law_guesser", .glo "_law_moved", .glo "_law_joined", .glo "_law_two_forms", .glo "_law_split", .glo "_law_thinned", .glo "_law_told_one", .glo "_law_drawn_single", .glo "_law_drawn_any", .glo "_law_behind", .glo "_law_ahead_of", .glo "_law_useful", .glo "_law_built", .glo "_law_is_path", .glo "_law_whole", .glo "_law_is_edge", .glo "_law_read_by", .glo "_law_wrote", .glo "_law_room_at", .glo "_law_drawn_path", .glo "_law_near", .glo "_law_met", .glo "_law_right", .glo "law", .str "_ALPHABET" "abcdefghijklmnopqrstuvwxyz", .int "_MOST_LETTERS" 4, .int "MAX_STATES" 12, .int "MAX_EDGES" 64, .int "MAX_WORD" 8]
def fa3 : List Fa := [.int "MAX_TEXT" 60, .int "_MAX_RESULTS" 1000, .cls "Rewriter", .mkr "Rewriter", .noat "Rewriter" "_letters", .noat "Rewriter" "_states", .noat "Rewriter" "_starts", .noat "Rewriter" "_edges", .noat "Rewriter" "_ends", .meth "Rewriter" "__call__", .meth "Rewriter" "__getitem__", .meth "Rewriter" "__len__", .meth "Rewriter" "__bool__", .meth "Rewriter" "__eq__"]
def fa : List Fa := fa0 ++ fa1 ++ fa2 ++ fa3
def pr : List DefD := [dp_letters, dp_states, dp_starts, dp_edges, dp_ends]
def tf : List Defn := [("law", none), ("_law_right", none)]
def ck_y_a (K : PySem.W.Frag) : Bool := eqO (PySem.W.findIn K (.ref (CR K)) "__class__") (some (some (.builtin "object.__class__")))
def ck_y_b (K : PySem.W.Frag) : Bool := eqO (PySem.W.specialIn K (.builtin "object.__class__") "__get__") (some (some (.builtin "getset_descriptor.__get__")))
def ck_y_c (K : PySem.W.Frag) : Bool := decide (PySem.W.takesIn K (.builtin "object.__class__") = some true)
def ck_y_m (K : PySem.W.Frag) : Bool := decide (PySem.W.mroIn K (CR K) (.type "object") = some true)
def ck_k_self (K : PySem.W.Frag) : Bool := decide (PySem.W.kitOne K (.ref (CR K)) (.ref (CR K)) = some true)
def ck_ex_IO (K : PySem.W.Frag) : Bool := PySem.W.excIn K (ga K "InvalidOperation") veBase "ValueError.__new__"
def ck_kp_IO (K : PySem.W.Frag) : Bool := PySem.W.keepIn K (.ref (ga K "InvalidOperation"))
def ck_ty_IO (K : PySem.W.Frag) : Bool := decide (PySem.W.typeIn K (.ref (ga K "InvalidOperation")) = some (.type "type"))
def ck_sub_IO (K : PySem.W.Frag) : Bool := decide (PySem.W.subIn K (.ref (ga K "InvalidOperation")) (.type "BaseException") = some true)
def ck_exm_IO (K : PySem.W.Frag) : Bool := decide (PySem.W.exmOne K (.ref (ga K "InvalidOperation")) (.ref (ga K "InvalidOperation")) = some true)
def ck_dt (K : PySem.W.Frag) : Bool := decide ((tf.map fun p => (He.cT K p).2).Nodup)
def ck_prs (K : PySem.W.Frag) : Bool := pr.all fun d => prOk K d
def ex (K : PySem.W.Frag) : Bool := ck_y_a K && (ck_y_b K && (ck_y_c K && (ck_y_m K && (ck_k_self K && (ck_ex_IO K && (ck_kp_IO K && (ck_ty_IO K && (ck_sub_IO K && (ck_exm_IO K && (ck_dt K && (ck_prs K)))))))))))
abbrev R : PySem.W.OpenRow := PySem.W.OpenLaw.row PySem.Challenge.rw_fewmarks_k07_paths_judged
abbrev qv : Program := PySem.W.view R.prog [122]
def names0 : List PySem.Str := [(PySem.Str.ofString "_wall"), (PySem.Str.ofString "is_integer"), (PySem.Str.ofString "is_below"), (PySem.Str.ofString "is_tuple_of"), (PySem.Str.ofString "is_letter_of"), (PySem.Str.ofString "is_state_of"), (PySem.Str.ofString "is_edge_of"), (PySem.Str.ofString "MarkError"), (PySem.Str.ofString "InvalidText"), (PySem.Str.ofString "InvalidRewriter"), (PySem.Str.ofString "InvalidOperation"), (PySem.Str.ofString "InvalidNumber"), (PySem.Str.ofString "TooMany"), (PySem.Str.ofString "NotSingle"), (PySem.Str.ofString "MAX_TEXT"), (PySem.Str.ofString "_ALPHABET"), (PySem.Str.ofString "_MOST_LETTERS"), (PySem.Str.ofString "is_word"), (PySem.Str.ofString "is_text"), (PySem.Str.ofString "is_letters"), (PySem.Str.ofString "sorted_words"), (PySem.Str.ofString "left_over"), (PySem.Str.ofString "_shared"), (PySem.Str.ofString "check_text"), (PySem.Str.ofString "check_state"), (PySem.Str.ofString "nodes_from"), (PySem.Str.ofString "nodes_between"), (PySem.Str.ofString "first_ways"), (PySem.Str.ofString "way_to"), (PySem.Str.ofString "edges_by_state")]
def names1 : List PySem.Str := [(PySem.Str.ofString "edges_by_start"), (PySem.Str.ofString "edges_by_end"), (PySem.Str.ofString "targets_of"), (PySem.Str.ofString "sources_of"), (PySem.Str.ofString "has_result"), (PySem.Str.ofString "lefts_along"), (PySem.Str.ofString "some_results"), (PySem.Str.ofString "_written_on"), (PySem.Str.ofString "turned_parts"), (PySem.Str.ofString "chosen_parts"), (PySem.Str.ofString "behind_parts"), (PySem.Str.ofString "numbered_parts"), (PySem.Str.ofString "_ways"), (PySem.Str.ofString "_moved"), (PySem.Str.ofString "_moved_edges"), (PySem.Str.ofString "double_steps"), (PySem.Str.ofString "start_pairs"), (PySem.Str.ofString "end_pairs"), (PySem.Str.ofString "reached_among"), (PySem.Str.ofString "live_among"), (PySem.Str.ofString "double_of"), (PySem.Str.ofString "is_trail"), (PySem.Str.ofString "last_state"), (PySem.Str.ofString "text_of"), (PySem.Str.ofString "written_before_end"), (PySem.Str.ofString "written_by"), (PySem.Str.ofString "check_single"), (PySem.Str.ofString "paper_of"), (PySem.Str.ofString "paper_between"), (PySem.Str.ofString "live_steps")]
def names2 : List PySem.Str := [(PySem.Str.ofString "led_by_step"), (PySem.Str.ofString "_led_to_ends"), (PySem.Str.ofString "_delays_along"), (PySem.Str.ofString "_wrong_way"), (PySem.Str.ofString "_paper_of_two"), (PySem.Str.ofString "MAX_STATES"), (PySem.Str.ofString "MAX_EDGES"), (PySem.Str.ofString "MAX_WORD"), (PySem.Str.ofString "_MAX_RESULTS"), (PySem.Str.ofString "Rewriter"), (PySem.Str.ofString "check_rewriter"), (PySem.Str.ofString "made"), (PySem.Str.ofString "_is_short"), (PySem.Str.ofString "_is_table"), (PySem.Str.ofString "_is_edge"), (PySem.Str.ofString "_are_edges"), (PySem.Str.ofString "is_path"), (PySem.Str.ofString "reads"), (PySem.Str.ofString "writes"), (PySem.Str.ofString "_check_path"), (PySem.Str.ofString "_law_start"), (PySem.Str.ofString "_law_throw"), (PySem.Str.ofString "_law_pick"), (PySem.Str.ofString "_law_shuffled"), (PySem.Str.ofString "_law_drawn_word"), (PySem.Str.ofString "_law_drawn_turns"), (PySem.Str.ofString "_law_guesser"), (PySem.Str.ofString "_law_moved"), (PySem.Str.ofString "_law_joined"), (PySem.Str.ofString "_law_two_forms")]
def names3 : List PySem.Str := [(PySem.Str.ofString "_law_split"), (PySem.Str.ofString "_law_thinned"), (PySem.Str.ofString "_law_told_one"), (PySem.Str.ofString "_law_drawn_single"), (PySem.Str.ofString "_law_drawn_any"), (PySem.Str.ofString "_law_behind"), (PySem.Str.ofString "_law_ahead_of"), (PySem.Str.ofString "_law_useful"), (PySem.Str.ofString "_law_built"), (PySem.Str.ofString "_law_is_path"), (PySem.Str.ofString "_law_whole"), (PySem.Str.ofString "_law_is_edge"), (PySem.Str.ofString "_law_read_by"), (PySem.Str.ofString "_law_wrote"), (PySem.Str.ofString "_law_room_at"), (PySem.Str.ofString "_law_drawn_path"), (PySem.Str.ofString "_law_near"), (PySem.Str.ofString "_law_met"), (PySem.Str.ofString "_law_right")]
def names : List PySem.Str := names0 ++ names1 ++ names2 ++ names3
def xs0 : List PySem.Str := [(PySem.Str.ofString "Rewriter"), (PySem.Str.ofString "InvalidOperation"), (PySem.Str.ofString "MarkError"), (PySem.Str.ofString "is_integer"), (PySem.Str.ofString "is_below"), (PySem.Str.ofString "is_tuple_of"), (PySem.Str.ofString "is_letter_of"), (PySem.Str.ofString "is_state_of"), (PySem.Str.ofString "is_edge_of"), (PySem.Str.ofString "is_word"), (PySem.Str.ofString "is_text"), (PySem.Str.ofString "is_letters"), (PySem.Str.ofString "sorted_words"), (PySem.Str.ofString "check_text"), (PySem.Str.ofString "check_state"), (PySem.Str.ofString "nodes_from"), (PySem.Str.ofString "nodes_between"), (PySem.Str.ofString "edges_by_start"), (PySem.Str.ofString "edges_by_end"), (PySem.Str.ofString "sources_of"), (PySem.Str.ofString "lefts_along"), (PySem.Str.ofString "some_results"), (PySem.Str.ofString "_written_on"), (PySem.Str.ofString "is_trail"), (PySem.Str.ofString "last_state"), (PySem.Str.ofString "text_of"), (PySem.Str.ofString "written_before_end"), (PySem.Str.ofString "written_by"), (PySem.Str.ofString "check_rewriter"), (PySem.Str.ofString "_is_short")]
def xs1 : List PySem.Str := [(PySem.Str.ofString "_is_table"), (PySem.Str.ofString "_is_edge"), (PySem.Str.ofString "_are_edges"), (PySem.Str.ofString "is_path"), (PySem.Str.ofString "reads"), (PySem.Str.ofString "writes"), (PySem.Str.ofString "_check_path"), (PySem.Str.ofString "_law_start"), (PySem.Str.ofString "_law_throw"), (PySem.Str.ofString "_law_pick"), (PySem.Str.ofString "_law_shuffled"), (PySem.Str.ofString "_law_drawn_word"), (PySem.Str.ofString "_law_drawn_turns"), (PySem.Str.ofString "_law_guesser"), (PySem.Str.ofString "_law_moved"), (PySem.Str.ofString "_law_joined"), (PySem.Str.ofString "_law_two_forms"), (PySem.Str.ofString "_law_split"), (PySem.Str.ofString "_law_thinned"), (PySem.Str.ofString "_law_told_one"), (PySem.Str.ofString "_law_drawn_single"), (PySem.Str.ofString "_law_drawn_any"), (PySem.Str.ofString "_law_behind"), (PySem.Str.ofString "_law_ahead_of"), (PySem.Str.ofString "_law_useful"), (PySem.Str.ofString "_law_built"), (PySem.Str.ofString "_law_is_path"), (PySem.Str.ofString "_law_whole"), (PySem.Str.ofString "_law_is_edge"), (PySem.Str.ofString "_law_read_by")]
def xs2 : List PySem.Str := [(PySem.Str.ofString "_law_wrote"), (PySem.Str.ofString "_law_room_at"), (PySem.Str.ofString "_law_drawn_path"), (PySem.Str.ofString "_law_near"), (PySem.Str.ofString "_law_met"), (PySem.Str.ofString "_law_right"), (PySem.Str.ofString "law")]
def xs : List PySem.Str := xs0 ++ xs1 ++ xs2
def cs : List PySem.Str := [(PySem.Str.ofString "Rewriter")]
abbrev hk : PySem.W.Hook := hookP xs cs fa fn pr tf ex
def ob (s : PySem.W.SharedT) : AlP := obsP xs cs fa fn pr tf ex (HandSHeadRun.getT s)
theorem ob_eq (s : PySem.W.SharedT) : ob s = hk.obs s.abs := obsP_eq (HandSHeadRun.getT_eq s)
theorem run (w : World) : HandSHeadRun.RunEq R qv hk ob 9000 names w := by
  intro os
  kernel_rfl
end K0H
set_option maxRecDepth 100000
set_option maxHeartbeats 4000000
namespace PySem
end PySem
set_option maxRecDepth 100000
set_option maxHeartbeats 4000000
namespace FM
open PySem PySem.Spec PyProof.Rows L2
section
variable {X : Cx}
/-- int(n), int(b) -/
def rIntIB : List V → Hp → VK → Prop := fun xs H Q => (∃ i, xs = [.int i] ∧ Q (.int i) H) ∨ (∃ b : Bool, xs = [.bl b] ∧ Q (.int (if b then 1 else 0)) H)
theorem call_intIB : CallR X (.type "int") rIntIB := by
  intro pins s σ H xs us Q I r h
  rcases h with ⟨i, rfl, q⟩ | ⟨b, rfl, q⟩
  · obtain ⟨u1, rfl, r1⟩ := vals1 r
    obtain ⟨t, rfl⟩ := r1
    exact call_int_int ⟨.int i, H, I, ⟨t, rfl⟩, q⟩
  · obtain ⟨u1, rfl, r1⟩ := vals1 r
    cases r1
    exact call_int_bool ⟨.int (if b then 1 else 0), H, I.tok _, ⟨_, rfl⟩, q⟩
/-- a ** b, told by bits -/
def CPowW (i j : Int) : Prop := 0 ≤ j ∧ (Builtin.Int.intBits i : Int) * j ≤ 2 ^ 27
theorem op_powW : OpR X (binaryOp .Pow) (rI CPowW fun i j => .int (i ^ j.toNat)) := opI fun _ _ _ _ _ _ _ hc q => pow_int hc.1 hc.2 q
end
end FM
set_option maxRecDepth 100000
set_option maxHeartbeats 4000000
namespace FM
open PySem PySem.Spec PyProof.Rows L2
end FM
set_option maxRecDepth 100000
set_option maxHeartbeats 4000000
namespace FM
open PySem PySem.Spec PyProof.Rows L2
end FM
set_option maxRecDepth 100000
set_option maxHeartbeats 2000000
namespace FM
open PySem PySem.Spec PyProof.Rows L2
section
variable {X : Cx}
/-- the same of int or text keys -/
theorem dc_it {J : It} {n : Nat} {G : Hp → Prop} {Y : Nat → Hp → V → Hp → Prop} (w : Walk J n G Y) {g : TG} {tt : TT} {tk tv : TE} {vs : List Nat} {σ : L2.St} {H1 : Hp} {D : Addr} {Qd : Hp → Prop} (Pv : Nat → Hp → Prop) (h0 : Pv 0 (upd H1 D (.dK []))) (hG : ∀ i H, i ≤ n → Pv i H → G H)
    (hs : ∀ i x H H', i < n → Pv i H → Y i H x H' → g x (wipe σ vs) H' fun σ2 H2 => wipe σ2 vs = wipe σ vs ∧ tt σ2 H2 fun ok H3 =>
      if ok = true then tk σ2 H3 fun y H4 => tv σ2 H4 fun z H5 => ∃ kvs k, y = kV k ∧ H5 D = some (.dK kvs) ∧ kvs.length < sizeLine ∧ Pv (i + 1) (upd H5 D (.dK (putK kvs k z))) else Pv (i + 1) H3) (hd : ∀ H, Pv n H → Qd H) :
    ∃ W : Nat → Nat → Hp → Prop, (∃ m, W 0 m (upd H1 D (.dK []))) ∧ ∀ i m H, W i m H →
      (J.stop i H ∧ Qd H) ∨ (J.go i H ∧ ∃ N : Hp → Prop, (∀ H', N H' → ∃ m', m' < m ∧ W (i + 1) m' H') ∧ ∀ x H', J.yld i H x H' → g x (wipe σ vs) H' fun σ2 H2 => wipe σ2 vs = wipe σ vs ∧ tt σ2 H2 fun ok H3 =>
        if ok = true then tk σ2 H3 fun y H4 => tv σ2 H4 fun z H5 => ∃ kvs k, y = kV k ∧ H5 D = some (.dK kvs) ∧ kvs.length < sizeLine ∧ N (upd H5 D (.dK (putK kvs k z))) else N H3) := by
  refine ⟨fun i m H => m = n - i ∧ i ≤ n ∧ Pv i H, ⟨n, (Nat.sub_zero n).symm, Nat.zero_le _, h0⟩, fun i m H ⟨em, hi, p⟩ => ?_⟩
  subst em
  have q := hG i H hi p
  rcases Nat.lt_or_ge i n with lt | ge
  · exact .inr ⟨w.goes i H lt q, Pv (i + 1), fun H' p' => ⟨n - (i + 1), by omega, rfl, lt, p'⟩, fun x H' y => hs i x H H' lt p (w.yields i H x H' lt q y)⟩
  · obtain rfl : i = n := Nat.le_antisymm hi ge
    exact .inl ⟨w.stops H q, hd H p⟩
end
end FM
set_option maxRecDepth 100000
set_option maxHeartbeats 2000000
namespace FM
open PySem PySem.Spec PyProof.Rows L2
end FM
set_option maxRecDepth 100000
set_option maxHeartbeats 1000000
namespace FM
open PySem L2
end FM
set_option maxRecDepth 100000
set_option maxHeartbeats 2000000
namespace FM
open PySem PySem.Spec PyProof.Rows L2
end FM
set_option maxRecDepth 100000
set_option maxHeartbeats 2000000
namespace FM
open PySem PySem.Spec PyProof.Rows L2
end FM
set_option maxRecDepth 100000
set_option maxHeartbeats 2000000
namespace FM
open PySem PySem.Spec PyProof.Rows L2
end FM
set_option maxRecDepth 100000
set_option maxHeartbeats 1000000
namespace FM
open PySem PySem.Spec PyProof.Rows L2
def sKey (e : Int × Value) : Str := match e.2 with | .str k _ => k | _ => Str.empty
def GoodT (w : World) (e : Int × Value) : Prop := ∃ k tk, e.2 = Value.str k tk ∧ e.1 = hashStr w k
/-- the set of texts at a: S its members; its table rises and can be walked -/
def SetRS (w : World) (h : Heap) (a : Addr) (S : Str → Bool) (n : Nat) : Prop :=
  ∃ o es ep t, h.get? a = some o ∧ o.ExactSet ∧ o.data = .set es ep t ∧ (∀ e ∈ es.toList, GoodT w e) ∧ (es.toList.map sKey).Nodup ∧ (∀ k, S k = true ↔ k ∈ es.toList.map sKey) ∧
    es.size < scanBound ∧ t.fits es.size = true ∧ es.size = n ∧ Ris t.place.toList ∧ (w.params.followText "set-order" = true ∨ t.led = true)
section
variable {P : Program} {w : World} {h h' : Heap} {a : Addr} {S : Str → Bool} {n : Nat}
theorem SetRS.at (R : SetRS w h a S n) (k : ∀ o, h.get? a = some o → h'.get? a = some o) : SetRS w h' a S n := by
  obtain ⟨o, es, ep, t, ho, r⟩ := R
  exact ⟨o, es, ep, t, k o ho, r⟩
theorem SetRS.congr {S' : Str → Bool} (R : SetRS w h a S n) (e : ∀ k, S' k = S k) : SetRS w h a S' n := by
  have : S' = S := funext e
  rw [this]
  exact R
theorem strIs (k : Str) (u : Tok) : (PySem.strKind P w).is k (.str k u) = true := by
  show Value.isStrOf k (.str k u) = true
  simp [Value.isStrOf]
theorem goodT_elems {l : List (Int × Value)} (g : ∀ e ∈ l, GoodT w e) : ElemsOf (PySem.strKind P w) l := fun e he => by
  obtain ⟨k, tk, h1, h2⟩ := g e he
  exact ⟨⟨k, by rw [h1]; exact strIs k tk, h2⟩, by rw [h1]; rfl⟩
theorem goodT_is {e : Int × Value} (g : GoodT w e) (k : Str) : (PySem.strKind P w).is k e.2 = true ↔ sKey e = k := by
  obtain ⟨k0, tk, h1, _⟩ := g
  constructor
  · intro q
    obtain ⟨t, q2⟩ := Value.isStrOf_shape q
    unfold sKey
    rw [q2]
  · intro q
    have q2 : k0 = k := by
      unfold sKey at q
      rw [h1] at q
      exact q
    rw [h1, q2]
    exact strIs k tk
theorem goodT_mem {l : List (Int × Value)} (g : ∀ e ∈ l, GoodT w e) (k : Str) : k ∈ l.map sKey ↔ ∃ e ∈ l, (PySem.strKind P w).is k e.2 = true := by
  rw [List.mem_map]
  exact ⟨fun ⟨e, he, q⟩ => ⟨e, he, (goodT_is (g e he) k).2 q⟩, fun ⟨e, he, q⟩ => ⟨e, he, (goodT_is (g e he) k).1 q⟩⟩
end
section
variable {P : Program} {w : World} {A : Around} {E : Value → Shared → Prop} {s : Shared} {a : Addr} {S : Str → Bool} {n : Nat}
theorem setRS_tail {g : Bool → Sem Unit} (hg : ∀ (b : Bool) (s₁ : Shared) (Q' : Unit → Shared → Prop), Q' () s₁ → wpAny (model P w) A (g b) Q' E s₁)
    {o : Obj} {es : Array (Int × Value)} {ep : Nat} {t : SetTable} (ho : s.heap.get? a = some o) (hex : o.ExactSet) (hd : o.data = .set es ep t)
    {fs : Array (Int × Value)} {u : SetTable} {S' : Str → Bool} (gT : ∀ e ∈ fs.toList, GoodT w e) (ndT : (fs.toList.map sKey).Nodup) (mT : ∀ k, S' k = true ↔ k ∈ fs.toList.map sKey)
    (hbT : fs.size < scanBound) (hfT : u.fits fs.size = true) (hrT : Ris u.place.toList) (hlT : w.params.followText "set-order" = true ∨ u.led = true) {wasDummy : Bool} {R : Option Bool → Shared → Prop}
    (hR : ∀ h', Heap.SameBut a s.heap h' → SetRS w h' a S' fs.size → R (some true) { s with heap := h' }) :
    wpAny (model P w) A (do
        storeSet a fs u
        if (!wasDummy && u.tooFull) = true then do
            g (relayAll u fs (SetTable.grown fs.size)).2.2
            storeSet a (relayAll u fs (SetTable.grown fs.size)).1 (relayAll u fs (SetTable.grown fs.size)).2.1
            pure (some true)
          else pure (some true)) R E s := by
  refine wpAny_bind (wpAny_storeSet_of ho hd ?_ (fits_of_scanBound hbT))
  have hoT := store_at (es' := fs) (t' := u) ho hd
  have sbT := Heap.SameBut.update s.heap a (Obj.putSet fs u)
  split
  · have pm := relayAll_perm u fs (SetTable.grown fs.size)
    have hf3 := relayAll_fits u fs (SetTable.grown fs.size)
    have hr3 := relayAll_ris u fs (SetTable.grown fs.size)
    have hl3 := relayAll_led u fs (SetTable.grown fs.size)
    generalize relayAll u fs (SetTable.grown fs.size) = Z at pm hf3 hr3 hl3 ⊢
    obtain ⟨gs, t3, gave⟩ := Z
    dsimp only at pm hf3 hr3 hl3 ⊢
    have hsz : gs.size = fs.size := by rw [← Array.length_toList, pm.length_eq, Array.length_toList]
    have hb2 : gs.size < scanBound := by rw [hsz]; exact hbT
    refine wpAny_bind (hg _ _ _ ?_)
    refine wpAny_bind (wpAny_storeSet_of hoT rfl ?_ (fits_of_scanBound hb2))
    have ho2 := store_at (es' := gs) (t' := t3) hoT rfl
    refine wpAny_pure (hR _ (sbT.trans (Heap.SameBut.update _ a _)) ?_)
    exact ⟨_, gs, _, t3, ho2, hex, rfl, fun e he => gT e (pm.mem_iff.mp he), (pm.map sKey).nodup_iff.mpr ndT, fun k => (mT k).trans (pm.map sKey).mem_iff.symm, hb2, hf3, hsz, hr3,
      hlT.imp id fun z => by rw [hl3]; exact z⟩
  · exact wpAny_pure (hR _ sbT ⟨_, fs, _, u, hoT, hex, rfl, gT, ndT, mT, hbT, hfT, rfl, hrT, hlT⟩)
theorem setRS_add {k : Str} {tk : Tok} {Q : Bool → Shared → Prop} (R : SetRS w s.heap a S n) (room : n + 1 < scanBound)
    (hQ : ∀ h', Heap.SameBut a s.heap h' → SetRS w h' a (fun j => S j || decide (j = k)) (if S k = true then n else n + 1) → Q (!S k) { s with heap := h' }) :
    wpAny (model P w) A (setAddHashed a (.str k tk) ((PySem.strKind P w).hash k)) Q E s := by
  obtain ⟨o, es, ep, t, ho, hex, hd, g, nd, hm, hb, hf, hn, hr, hl⟩ := R
  have hkey : (PySem.strKind P w).is k (.str k tk) = true := strIs k tk
  have hsc : (Value.str k tk).scannable = true := rfl
  have hel : ElemsOf (PySem.strKind P w) es.toList := goodT_elems g
  unfold setAddHashed setAddHashedIn
  refine wpAny_holding (wpAny_bind (wpAny_setState_of ho hd hf ?_))
  dsimp only
  rw [byScan_of hsc hb hel]
  simp only [↓reduceIte]
  unfold setAddByScan
  refine wpAny_bind ?_
  refine wpAny_bind (wpAny_rule ?_)
  refine wpAny_bind (wpAny_setScan_of hkey ho hd hf hel ?_)
  cases hfi : List.findIdx? (fun e => (PySem.strKind P w).is k e.2) es.toList with
  | some j =>
    dsimp only
    obtain ⟨hj, pj, _⟩ := List.findIdx?_eq_some_iff_getElem.mp hfi
    have hSk : S k = true := (hm k).2 ((goodT_mem (P := P) g k).2 ⟨es.toList[j], List.getElem_mem hj, pj⟩)
    refine wpAny_pure (wpAny_pure ?_)
    have q := hQ s.heap (Heap.SameBut.refl a s.heap) ⟨o, es, ep, t, ho, hex, hd, g, nd, fun i => by
      rw [Bool.or_eq_true, decide_eq_true_eq, ← hm i]
      exact ⟨fun z => z.elim id (fun e => e ▸ hSk), .inl⟩, hb, hf, by rw [if_pos hSk]; exact hn, hr, hl⟩
    rw [hSk] at q
    exact q
  | none =>
    dsimp only
    have hnk : k ∉ es.toList.map sKey := fun z => by
      obtain ⟨e, he, q⟩ := (goodT_mem (P := P) g k).1 z
      have c := List.findIdx?_eq_none_iff.mp hfi e he
      rw [q] at c
      cases c
    have hSk : S k = false := by
      cases q : S k with
      | false => rfl
      | true => exact absurd ((hm k).1 q) hnk
    have hgw : ∀ (b : Bool) {s₁ : Shared} {Q' : Unit → Shared → Prop}, Q' () s₁ → wpAny (model P w) A (match b with | true => rule "set.scan.the-table-gave-way" | false => pure ()) Q' E s₁ :=
      fun b s₁ Q' q => by cases b <;> first | exact wpAny_pure q | exact wpAny_rule q
    have pm := layNew_perm t es ((PySem.strKind P w).hash k) (.str k tk)
    have hf1 := layNew_fits t es ((PySem.strKind P w).hash k) (.str k tk)
    have hr1 := layNew_ris t es ((PySem.strKind P w).hash k) (.str k tk) hr
    have hl1 := layNew_led t es ((PySem.strKind P w).hash k) (.str k tk)
    generalize layNew t es ((PySem.strKind P w).hash k) (.str k tk) = Z at pm hf1 hr1 hl1 ⊢
    obtain ⟨fs, t1, wasDummy, gave⟩ := Z
    dsimp only at pm hf1 hr1 hl1 ⊢
    rw [Array.toList_push] at pm
    have pc : fs.toList.Perm (((PySem.strKind P w).hash k, Value.str k tk) :: es.toList) := pm.trans (List.perm_append_singleton _ _)
    have pk : (fs.toList.map sKey).Perm (k :: es.toList.map sKey) := pc.map sKey
    have gT : ∀ e ∈ fs.toList, GoodT w e := fun e he => by
      rcases List.mem_cons.mp (pc.mem_iff.mp he) with z | z
      · rw [z]; exact ⟨k, tk, rfl, rfl⟩
      · exact g e z
    have ndT : (fs.toList.map sKey).Nodup := pk.nodup_iff.mpr (List.nodup_cons.mpr ⟨hnk, nd⟩)
    have mT : ∀ i, (S i || decide (i = k)) = true ↔ i ∈ fs.toList.map sKey := fun i => by
      rw [Bool.or_eq_true, decide_eq_true_eq, hm i, pk.mem_iff, List.mem_cons]
      exact Or.comm
    have hsz : fs.size = n + 1 := by rw [← Array.length_toList, pc.length_eq, List.length_cons, Array.length_toList, hn]
    have hbT : fs.size < scanBound := by rw [hsz]; exact room
    have hled : w.params.followText "set-order" = true ∨ t1.led = true := hl.imp id fun z => by rw [hl1]; exact z
    have fin : ∀ h', Heap.SameBut a s.heap h' → SetRS w h' a (fun j => S j || decide (j = k)) fs.size → Q true { s with heap := h' } := fun h' sb r => by
      have q := hQ h' sb
      rw [hSk] at q
      rw [hsz] at r
      exact q r
    refine wpAny_bind (hgw _ ?_)
    split
    · refine wpAny_bind ?_
      rw [hashByValue_scannable 8 hsc]
      refine wpAny_pure ?_
      refine setRS_tail ?_ ho hex hd gT ndT mT hbT ?_ ?_ ?_ ?_
      · intro b s₁ Q' q; cases b <;> first | exact wpAny_pure q | exact wpAny_rule q
      · first | (split <;> first | exact hf1 | exact SetTable.fits_plain_off hf1) | exact hf1
      · first | (split <;> exact hr1) | exact hr1
      · first | (split <;> exact hled) | exact hled
      · intro h' sb r; dsimp only; exact wpAny_pure (fin h' sb r)
    · refine wpAny_bind (wpAny_pure ?_)
      simp only [↓reduceIte]
      refine setRS_tail ?_ ho hex hd gT ndT mT hbT hf1 hr1 hled ?_
      · intro b s₁ Q' q; cases b <;> first | exact wpAny_pure q | exact wpAny_rule q
      · intro h' sb r; dsimp only; exact wpAny_pure (fin h' sb r)
end
theorem setRS_new {w : World} {h : Heap} {a : Addr} {ks : List Str} (ho : h.get? a = some { cls := .type "set", dict := none, data := .set #[] 0 (.fresh 0 0 (!w.params.followText "set-order")) }) : SetRS w h a (fun j => decide (j ∈ ks.take 0)) 0 :=
  ⟨_, #[], 0, _, ho, ⟨rfl, rfl, rfl⟩, rfl, (fun e he => by simp at he), (by simp), (fun k => by simp), (by decide), (by rfl), rfl, List.Pairwise.nil, by
    show _ ∨ (!w.params.followText "set-order") = true
    cases w.params.followText "set-order"
    · exact .inr rfl
    · exact .inl rfl⟩
section
variable {P : Program} {w : World} {A : Around} {E : Value → Shared → Prop} {s : Shared}
theorem set_update_texts {I : Addr} {fp wr : List Addr} {G : Array GenState → Array GenState → Prop} {n : Nat} {Pv : Nat → Value → Prop} {St : Nat → Shared → Prop} {R : Result → Shared → Prop}
    (W : WalksS P w A.in1 I fp wr G n Pv St) (S : Addr) (hSf : S ∉ fp) (ks : List Str) (hn : n = ks.length) (hb : ks.length + 1 < scanBound) (hval : ∀ i v, Pv i v → ∃ k t, ks[i]? = some k ∧ v = .str k t) :
    ∀ (k i : Nat) (s : Shared), n - i = k → i ≤ n → St i s → (∃ c, c ≤ i ∧ SetRS w s.heap S (fun j => decide (j ∈ ks.take i)) c) →
      (∀ s' c, Moved (S :: wr) G s s' → c ≤ n → SetRS w s'.heap S (fun j => decide (j ∈ ks)) c → R (.ok (.ret .none)) s') →
      codeAny (model P w) A (.builtin "set.update.loop" ⟨[.ref S, .ref I], []⟩) R s := by
  have hSw : S ∉ wr := fun h => hSf (W.sub _ h)
  have hsub : ∀ b ∈ wr, b ∈ S :: wr := fun b hb => List.mem_cons_of_mem _ hb
  intro k
  induction k with
  | zero =>
    intro i s hk' hi hst ⟨c, hc, hS⟩ hR
    have hin : i = n := by omega
    subst hin
    refine codeAny_builtin F.entry_set_update_loop ?_
    rw [Around.under_plainId F.plain_set_update_loop _]
    show wpAny _ A.in1 (pyNext (.ref I) >>= _) _ _ s
    refine wpAny_bind (W.done s _ _ hst fun s' hm => ?_)
    show wpAny _ A.in1 (ret Value.none) _ _ s'
    have e : ks.take i = ks := List.take_of_length_le (by omega)
    rw [e] at hS
    exact wpAny_pure (hR s' c (hm.mono hsub) hc (hS.at fun o e => hm.heap S o hSw e))
  | succ k ih =>
    intro i s hk' hi hst ⟨c, hc, hS⟩ hR
    have hlt : i < n := by omega
    refine codeAny_builtin F.entry_set_update_loop ?_
    rw [Around.under_plainId F.plain_set_update_loop _]
    show wpAny _ A.in1 (pyNext (.ref I) >>= _) _ _ s
    refine wpAny_bind (W.item i s _ _ hlt hst fun v s' hP hst' hm => ?_)
    obtain ⟨z, t, hz, rfl⟩ := hval i v hP
    have hS' : SetRS w s'.heap S (fun j => decide (j ∈ ks.take i)) c := hS.at fun o e => hm.heap S o hSw e
    show wpAny _ A.in1 (holding [Value.str z t] (setAdd S (.str z t)) >>= _) _ _ s'
    refine wpAny_bind (wpAny_holding ?_)
    unfold setAdd
    refine wpAny_holding ?_
    refine wpAny_bind ((PySem.strKind P w).pyHash (k := z) (strIs _ _) ?_)
    refine setRS_add (s := { s' with toks := s'.toks + 1 }) hS' (by omega) fun h' hsb hS2 => ?_
    have hS3 : SetRS w h' S (fun j => decide (j ∈ ks.take (i + 1))) (if decide (z ∈ ks.take i) = true then c else c + 1) := hS2.congr fun j => by
      rw [List.take_add_one, hz]
      simp [List.mem_append]
    have hc3 : (if decide (z ∈ ks.take i) = true then c else c + 1) ≤ i + 1 := by
      split <;> omega
    refine wpAny_pure ⟨plainId_quiet F.plain_set_update_loop _, ih (i + 1) _ (by omega) hlt (W.frame _ s' _ _ hst' (Nat.le_succ _) fun b hb o e => ?_) ⟨_, hc3, hS3⟩ fun s'' c2 hm'' hc'' hS'' => ?_⟩
    · rw [hsb.2 b (fun h : b = S => hSf (by rw [← h]; exact hb))]; exact e
    · refine hR s'' c2 (Moved.trans W.gtrans ((hm.mono hsub).then_heap (Nat.le_succ _) fun b o hb e => ?_) hm'') hc'' hS''
      rw [hsb.2 b (fun h : b = S => hb (by rw [h]; exact List.mem_cons_self))]; exact e
end
end FM
set_option maxRecDepth 100000
set_option maxHeartbeats 3200000
namespace FM
open PySem PySem.Spec PyProof.Rows L2
abbrev freshSet (w : World) : Obj := { cls := .type "set", dict := none, data := .set #[] 0 (.fresh 0 0 (!w.params.followText "set-order")) }
/-- the texts of the signs of a text -/
def signs (x : Str) : List Str := x.cps.toList.map fun c => ⟨#[c]⟩
theorem signs_length (x : Str) : (signs x).length = x.cps.size := by simp [signs]
section
variable {P : Program} {w : World} {A : Around} {E : Value → Shared → Prop} {s : Shared}
theorem call_set_str {x : Str} {t : Tok} {Q : Value → Shared → Prop} (hh : A.handled = none) (hb : x.cps.size + 1 < scanBound)
    (h : ∀ (h' : Heap) (tk c : Nat), SetRS w h' s.heap.objs.size (fun j => decide (j ∈ signs x)) c → c ≤ x.cps.size → (∀ b o, s.heap.get? b = some o → h'.get? b = some o) → Q (.ref s.heap.objs.size) { s with heap := h', toks := tk }) :
    wpAny (model P w) A (call (.type "set") [.str x t]) Q E s := by
  obtain ⟨c, tl, hmro⟩ := F.called_set.mro
  have hmade := F.called_set.made
  have hsub := F.called_set.sub
  refine wpAny_call (codeAny_of_tree ?_)
  show wpAny _ _ (callAny (.type "set") _) _ _ _
  refine wpAny_pure ⟨Code.quiet_builtin _ (by decide +kernel), codeAny_builtin PySem.F.entry_type_call ?_⟩
  rw [Around.under_plain (weight_type_call_type "set" [.str x t] []) rfl]
  have h1 := F.called_set.notType
  have h2 := F.called_set.canCreate
  have hct := F.typeCall_set_1 (.str x t)
  repeat (any_goals (first | assumption | wp_step))
  refine codeAny_mono (code_set_led1 (.str x t) (E := E) (Q₁ := fun obj s₁ => obj = .ref s.heap.objs.size ∧ s₁ = { s with heap := s.heap.push (freshSet w) }) ⟨rfl, rfl⟩) fun r s₁ hr => ?_
  cases r with
  | error e => exact hr
  | ok fl =>
    cases fl with
    | ret obj =>
      obtain ⟨rfl, rfl⟩ := hr
      have hS : (s.heap.push (freshSet w)).get? s.heap.objs.size = some (freshSet w) := Heap.get?_push_size _ rfl
      have hT : Shared.TypeIs { s with heap := s.heap.push (freshSet w) } (.ref s.heap.objs.size) "set" := ⟨_, hS, rfl⟩
      have hli := F.called_set.init.lookup
      have hbi := F.called_set.init.bind (.ref s.heap.objs.size)
      repeat (any_goals (first | assumption | wp_step))
      refine codeAny_mono (codeAny_call_builtin (R := wants (fun r s₂ => r = .none ∧ ∃ h' tk c, s₂ = { s with heap := h', toks := tk } ∧ SetRS w h' s.heap.objs.size (fun j => decide (j ∈ signs x)) c ∧ c ≤ x.cps.size ∧
          (∀ b o, s.heap.get? b = some o → h'.get? b = some o)) E) F.called_set.init.plain F.entry_set_init (check_set_init_1 hT ?_)) fun r₂ s₂ hr₂ => ?_
      · have hss := PySem.F.sub_str_set
        have hsf := PySem.F.sub_str_frozenset
        have hT2 : Shared.TypeIs { s with heap := s.heap.push (freshSet w) } (.str x t) "str" := typeIs_str _ _ _
        have hne : (Value.type "str" == Value.type "dict") = false := by decide
        unfold Builtin.«set.__init__» noKeywords Builtin.Frozenset.updateFrom
        generalize hPI : pyIter = PI
        wp_walk
        subst hPI
        have hh3 : A.in1.in1.in1.handled = none := by simp [hh]
        refine wpAny_pyIter_str fun ob St hW hst => ?_
        refine wpAny_bind (wpAny_runValue ?_)
        have hz1 : (s.heap.push (freshSet w)).objs.size = s.heap.objs.size + 1 := Heap.size_push ..
        have hSf : s.heap.objs.size ∉ [(s.heap.push (freshSet w)).objs.size] := by
          rw [hz1]
          intro hm
          exact absurd (List.mem_singleton.mp hm) (Nat.ne_of_lt (Nat.lt_succ_self _))
        have hval : ∀ (i : Nat) (v : Value), SignAt x i v → ∃ k t, (signs x)[i]? = some k ∧ v = .str k t := fun i v hv => by
          obtain ⟨c, u, hc, rfl⟩ := hv
          refine ⟨⟨#[c]⟩, u, ?_, rfl⟩
          unfold signs
          rw [List.getElem?_map, Array.getElem?_toList, hc]
          rfl
        refine set_update_texts ((hW _ hh3).toS) s.heap.objs.size hSf (signs x) (signs_length x).symm (by rw [signs_length]; exact hb) hval (x.cps.size - 0) 0 _ (by omega) (Nat.zero_le _) hst ?hS0 ?hR
        case hS0 =>
          exact ⟨0, Nat.le_refl 0, setRS_new (Heap.get?_push_of_some _ hS)⟩
        case hR =>
          intro s' c' hm hc' hS'
          obtain ⟨h', g2, d', tk', os'⟩ := s'
          have eg : g2 = s.gens := hm.gens
          have ed : d' = s.drawn := hm.drawn
          have eo : os' = s.os := hm.os
          subst eg; subst ed; subst eo
          show wpAny _ _ _ _ _ _
          refine wpAny_pure ?_
          show wpAny _ _ (ret Value.none) _ _ _
          refine wpAny_pure ⟨rfl, h', tk', c', rfl, hS', hc', fun b o e => ?_⟩
          have hb0 : b < s.heap.objs.size := Heap.lt_size e
          refine hm.heap b o (fun hm => ?_) (Heap.get?_push_of_some _ (Heap.get?_push_of_some _ e))
          rcases List.mem_cons.mp hm with q | q
          · exact absurd q (Nat.ne_of_lt hb0)
          · have q := List.mem_singleton.mp q
            rw [hz1] at q
            exact absurd q (Nat.ne_of_lt (Nat.lt_succ_of_lt hb0))
      · cases r₂ with
        | error e => exact hr₂
        | ok fl₂ =>
          cases fl₂ with
          | ret r =>
            obtain ⟨rfl, h', tk, c', rfl, hS', hc', hk'⟩ := hr₂
            repeat (any_goals (first | assumption | wp_step))
            exact h _ _ _ hS' hc' hk'
          | _ => exact hr₂.elim
    | _ => exact hr.elim
/-- sorted(the set): a new list of its members, in order, once each -/
theorem sorted_setT {a : Addr} {S : Str → Bool} {n : Nat} {Q : Value → Shared → Prop} (R : SetRS w s.heap a S n) (hh : A.handled = none) (h64 : n < 4000)
    (hQ : ∀ s' p (out : Array Value) (c : Nat) (ks : List Str), (∀ b o, s.heap.get? b = some o → s'.heap.get? b = some o) → s'.gens = s.gens → s'.os = s.os → s.heap.objs.size ≤ p →
      s'.heap.get? p = some (seqObj "list" out c) → StrsAre out.toList ks → sortedS ks = true → ks.Nodup → (∀ k, k ∈ ks ↔ S k = true) → ks.length = n → Q (.ref p) s') :
    wpAny (model P w) A (call (.builtin "sorted") [.ref a]) Q E s := by
  obtain ⟨o, es, ep, t, ho, hex, hd, g, nd, hm, hb, hf, hn, hr, hl⟩ := R
  refine Calls.call_function_entry kind_sorted plain_sorted entry_sorted (args_sorted1 _) ?_
  unfold Builtin.«sorted»
  refine wpAny_bind (m := checkCount "sorted" 1 1 _) (wpAny_pure ?_)
  refine wpAny_bind (collect_set (A := A.in1) hh ⟨o, ho, hex.1, hd⟩ hf hb hr hl fun s1 vs k1 hz g1 o1 pm => ?_)
  have hvl : vs.length = n := by rw [pm.length_eq, List.length_map, Array.length_toList]; exact hn
  have hall : ∀ v, v ∈ vs → ∃ x t, v = .str x t := fun v hv => by
    obtain ⟨e, he, q⟩ := List.mem_map.mp (pm.mem_iff.mp hv)
    obtain ⟨k, tk, h1, _⟩ := g e he
    exact ⟨k, tk, by rw [← q]; exact h1⟩
  have hS : StrsAre vs (vs.map strOf) := strsAre_map vs hall
  have pk : (vs.map strOf).Perm (es.toList.map sKey) := by
    have q := pm.map strOf
    rw [List.map_map] at q
    have e : es.toList.map (strOf ∘ fun e => e.2) = es.toList.map sKey := List.map_congr_left fun e he => by
      obtain ⟨k, tk, h1, _⟩ := g e he
      show strOf e.2 = sKey e
      unfold sKey
      rw [h1]
      rfl
    first
      | (rw [← e]; exact q)
      | exact q
  refine wpAny_bind (wpAny_newList ?_ (by rw [hvl, sizeLine_eq]; omega))
  have hoL : (s1.heap.push (seqObj "list" vs.toArray 0)).get? s1.heap.objs.size = some (seqObj "list" vs.toArray 0) := Heap.get?_push_size _ rfl
  refine wpAny_bind (wpAny_holding (wpAny_call_entry slot_list_sort ⟨_, hoL, rfl⟩ entry_list_sort (list_sort_treeKAny strKind_oneLt hoL hS.keysOf (fun v₁ v₂ rest e => keyKind_strs (by rw [← e]; exact hS)) (by rw [hvl, sizeLine_eq]; omega) fun st' hp hs => ⟨_, rfl, ?_⟩) (args_list_sort _)))
  obtain ⟨ks, a1, a2, a3⟩ := sorted_out_str hS hp hs
  obtain ⟨c, hc⟩ := sortedHeap_at (vs := vs) (out := (arrOf st').map (·.2)) hoL
  have pn : ks.Perm (es.toList.map sKey) := a2.trans pk
  refine wpAny_pure ⟨_, rfl, hQ _ s1.heap.objs.size _ c ks (fun b u e => ?_) g1 o1 hz hc a1 a3 (pn.nodup_iff.mpr nd) (fun k => by rw [pn.mem_iff, ← hm k]) ?_⟩
  · have q := k1 b u e
    have hlt := Heap.lt_size q
    show (sortedHeap (s1.heap.push (seqObj "list" vs.toArray 0)) s1.heap.objs.size vs _).get? b = some u
    rw [sortedHeap_old (Nat.ne_of_lt hlt) (by rw [size_push']; exact Nat.lt_succ_of_lt hlt)]
    exact Heap.get?_push_of_some _ q
  · rw [pn.length_eq, List.length_map, Array.length_toList]
    exact hn
end
end FM
set_option maxRecDepth 100000
set_option maxHeartbeats 1000000
namespace FM
open PySem PySem.Spec PyProof.Rows L2
/-- the set of texts at a -/
def SetT (w : World) (a : Addr) (S : Str → Bool) (n : Nat) : HO := .ext fun h => SetRS w h a S n
theorem setT_new {w : World} {P : Program} {H : Hp} {h : Heap} {a : Addr} {S : Str → Bool} {n : Nat} (R : SetRS w h a S n) : ObjOk P w H h a (SetT w a S n) := by
  have ⟨o, _, _, _, ho, _⟩ := R
  exact ⟨R, ⟨o, ho⟩, fun h1 h2 p k => SetRS.at p k⟩
section
variable {X : Cx}
theorem setT_get {pins : List (Addr × Obj)} {σ : L2.St} {H : Hp} {s : Shared} {a : Addr} {S : Str → Bool} {n : Nat} (I : Inv X pins σ H s) (ha : H a = some (SetT X.w a S n)) : SetRS X.w s.heap a S n := (I.hok a _ ha).1
theorem scan_small {n : Nat} (h : n < 4000) : n + 1 < scanBound := by
  have : (4001 : Nat) ≤ scanBound := by decide
  omega
def rSetStr (w : World) : List V → Hp → VK → Prop := fun xs H Q => ∃ x : Str, xs = [.str x] ∧ x.length < 4000 ∧ ∀ p n, H p = none → n ≤ x.length → Q (.ref p) (upd H p (SetT w p (fun j => decide (j ∈ FM.signs x)) n))
theorem cr_setStr (hc : X.calm = true) : CallR X (.type "set") (rSetStr X.w) := by
  intro pins s σ H xs us Q I r h
  obtain ⟨x, rfl, hx, q⟩ := h
  obtain ⟨u, rfl, t, rfl⟩ := vals1 r
  refine call_set_str (I.ok.hd hc) (scan_small hx) fun h' tk c R hc' hk => ?_
  exact ⟨.ref _, upd H s.heap.objs.size (SetT X.w s.heap.objs.size (fun j => decide (j ∈ FM.signs x)) c), I.laid (t' := tk) hk (Nat.le_refl _) (setT_new R), rfl, q _ c (I.hok.fresh (Nat.le_refl _)) hc'⟩
def rSortSetT (w : World) : List V → Hp → VK → Prop := fun vs H Q => ∃ (a : Addr) (S : Str → Bool) (n : Nat), vs = [V.ref a] ∧ H a = some (SetT w a S n) ∧ n < 4000 ∧
  ∀ (ks : List Str) (p : Addr), sortedS ks = true → ks.Nodup → (∀ k, k ∈ ks ↔ S k = true) → ks.length = n → H p = none → Q (.ref p) (upd H p (.lst (ks.map V.str)))
theorem cr_sortSetT (hc : X.calm = true) : CallR X (.builtin "sorted") (rSortSetT X.w) := by
  intro pins s σ H vs us Q I r h
  obtain ⟨a, S, n, rfl, ha, h64, q⟩ := h
  have R := setT_get I ha
  rw [Vals.ref1 r]
  refine sorted_setT R (I.ok.hd hc) h64 fun s' p out c ks k g o hp hg hi hs hd hm hl => ?_
  have hlen : (ks.map V.str).length ≤ sizeLine := by rw [List.length_map, hl, sizeLine_eq]; omega
  have hn : H p = none := I.hok.fresh hp
  have J : Inv X pins σ (upd H p (.lst (ks.map V.str))) { s with heap := s'.heap, gens := s'.gens, drawn := s'.drawn, toks := s'.toks } :=
    I.call (ch := []) (Un.laid k hp hn) (I.hok.laid k hp ⟨hlen, out.toList, c, vals_of_strs hi, hg⟩) (by rw [g]; exact I.bare) (fun _ z => nomatch z)
  have e : s' = { s with heap := s'.heap, gens := s'.gens, drawn := s'.drawn, toks := s'.toks } := by
    cases s'
    cases s
    cases o
    rfl
  rw [e]
  exact ⟨.ref p, _, J, rfl, q ks p hs hd hm hl hn⟩
def rListStr : List V → Hp → VK → Prop := fun vs H Q => ∃ x : Str, vs = [.str x] ∧ x.length ≤ sizeLine ∧ ∀ p, H p = none → Q (.ref p) (upd H p (.lst ((FM.signs x).map V.str)))
theorem cr_listStr (hc : X.calm = true) : CallR X (.type "list") rListStr := by
  intro pins s σ H vs us Q I r h
  obtain ⟨x, rfl, hx, q⟩ := h
  obtain ⟨u, rfl, t, rfl⟩ := vals1 r
  refine PySem.call_list_str (I.ok.hd hc) x t (hn := hx) fun h' tk acc c hk hS hacc => ?_
  have hv : Vals ((FM.signs x).map V.str) acc.toList := by
    have hl : ((FM.signs x).map V.str).length = acc.toList.length := by
      rw [List.length_map, signs_length, Array.length_toList, hacc.1]
    have go : ∀ (as : List V) (bs : List Value), as.length = bs.length → (∀ (j : Nat) (a : V) (b : Value), as[j]? = some a → bs[j]? = some b → RelV a b) → Vals as bs := by
      intro as
      induction as with
      | nil =>
        intro bs h _
        cases bs with
        | nil => exact .nil
        | cons _ _ => simp at h
      | cons a as ih =>
        intro bs h hj
        cases bs with
        | nil => simp at h
        | cons b bs => exact .cons (hj 0 a b rfl rfl) (ih bs (by simpa using h) fun j a' b' h1 h2 => hj (j + 1) a' b' (by simpa using h1) (by simpa using h2))
    refine go _ _ hl fun j a b h1 h2 => ?_
    obtain ⟨c', u', hc', rfl⟩ := hacc.2 j b (by rw [← Array.getElem?_toList]; exact h2)
    unfold FM.signs at h1
    rw [List.map_map, List.getElem?_map, Array.getElem?_toList, hc'] at h1
    cases h1
    exact ⟨u', rfl⟩
  have hlen : ((FM.signs x).map V.str).length ≤ sizeLine := by rw [List.length_map, signs_length]; exact hx
  exact ⟨.ref _, upd H s.heap.objs.size (.lst ((FM.signs x).map V.str)), I.laid (t' := tk) hk (Nat.le_refl _) ⟨hlen, acc.toList, c, hv, hS⟩, rfl, q _ (I.hok.fresh (Nat.le_refl _))⟩
end
end FM
set_option maxRecDepth 100000
set_option maxHeartbeats 3200000
namespace FM
open PySem PySem.Spec PyProof.Rows L2
end FM
set_option maxRecDepth 100000
set_option maxHeartbeats 1000000
namespace FM
open PySem PySem.Spec PySem.SeqAt PyProof.Rows L2
section
variable {A : Around} {s : Shared}
theorem strs_get : ∀ {its : List Value} {ks : List Str}, StrsAre its ks → ∀ j (h : j < its.length) (h' : j < ks.length), ∃ t, its[j] = .str ks[j] t
  | _, _, .cons y t _, 0, _, _ => ⟨t, rfl⟩
  | _, _, .cons y t r, j + 1, h, h' => strs_get r j (Nat.lt_of_succ_lt_succ h) (Nat.lt_of_succ_lt_succ h')
theorem all_same {as bs : List Str} (hl : as.length = bs.length) : (List.range as.length).all (fun j => as.getD j "" == bs.getD j "") = decide (as = bs) := by
  rw [Bool.eq_iff_iff, decide_eq_true_iff, List.all_eq_true]
  constructor
  · intro h
    refine List.ext_getElem hl fun j h1 h2 => ?_
    have q := h j (List.mem_range.mpr h1)
    rw [beq_iff_eq, List.getD_eq_getElem?_getD, List.getD_eq_getElem?_getD, List.getElem?_eq_getElem h1, List.getElem?_eq_getElem h2] at q
    exact q
  · rintro rfl j _
    exact beq_self_eq_true _
theorem str_pairs {xs ys : Array Value} {as bs : List Str} (h1 : StrsAre xs.toList as) (h2 : StrsAre ys.toList bs) (hx : xs.size = as.length) (hy : ys.size = bs.length) :
    ∀ j (q1 : j < xs.size) (q2 : j < ys.size), EqAt A s xs[j] ys[j] (as.getD j "" == bs.getD j "") := fun j q1 q2 => by
  obtain ⟨t, e1⟩ := strs_get h1 j (by simpa using q1) (by omega)
  obtain ⟨u, e2⟩ := strs_get h2 j (by simpa using q2) (by omega)
  rw [Array.getElem_toList] at e1 e2
  rw [e1, e2, List.getD_eq_getElem?_getD, List.getD_eq_getElem?_getD, List.getElem?_eq_getElem (by omega : j < as.length), List.getElem?_eq_getElem (by omega : j < bs.length)]
  exact EqAt.str_str _ t _ u
end
section
variable {X : Cx}
def rEqS (K : PySem.W.Frag) : R2 := fun x y H Q => ∃ (p q : Addr) (as bs : List Str), x = .ref p ∧ y = .ref q ∧ SqL K H p (as.map V.str) ∧ SqL K H q (bs.map V.str) ∧ Q (.bl (decide (as = bs))) H
def rNeS (K : PySem.W.Frag) : R2 := fun x y H Q => ∃ (p q : Addr) (as bs : List Str), x = .ref p ∧ y = .ref q ∧ SqL K H p (as.map V.str) ∧ SqL K H q (bs.map V.str) ∧ Q (.bl (!decide (as = bs))) H
theorem op_eqS (hu : X.A.units + 64 < cLine) : OpR X (compareOp .Eq) (rEqS X.K) := by
  intro pins s σ H x y v u Q I rx ry h
  obtain ⟨p, q, as, bs, rfl, rfl, h1, h2, k⟩ := h
  obtain rfl : v = .ref p := rx
  obtain rfl : u = .ref q := ry
  obtain ⟨xs, v1, l1, _⟩ := I.list h1
  obtain ⟨ys, v2, l2, _⟩ := I.list h2
  have s1 : StrsAre xs as := by simpa using v1.strs
  have s2 : StrsAre ys bs := by simpa using v2.strs
  have n1 : xs.length = as.length := by have := v1.length; simpa using this.symm
  have n2 : ys.length = bs.length := by have := v2.length; simpa using this.symm
  have hb : RcAt X.A s (.ref p) (.ref q) (decide (as = bs)) := by
    by_cases hl : as.length = bs.length
    · have z := RcAt.lists (s := s) l1.isList l2.isList (by simp only [List.size_toArray]; omega) (show X.A.units < cLine by omega) (str_pairs (A := X.A.in1) (s := s) (as := as) (bs := bs) (by simpa using s1) (by simpa using s2) (by simpa using n1) (by simpa using n2))
      rw [List.size_toArray, n1, all_same hl] at z
      exact z
    · have e : decide (as = bs) = false := decide_eq_false fun e => hl (by rw [e])
      rw [e]
      exact RcAt.lists_lengths l1.isList l2.isList (by simp only [List.size_toArray, bne_iff_ne, ne_eq]; omega) (by omega)
  exact hb _ _ _ _ ⟨.bl _, H, I, rfl, k⟩
theorem op_neS (hu : X.A.units + 64 < cLine) : OpR X (compareOp .NotEq) (rNeS X.K) := by
  intro pins s σ H x y v u Q I rx ry h
  obtain ⟨p, q, as, bs, rfl, rfl, h1, h2, k⟩ := h
  obtain rfl : v = .ref p := rx
  obtain rfl : u = .ref q := ry
  obtain ⟨xs, v1, l1, _⟩ := I.list h1
  obtain ⟨ys, v2, l2, _⟩ := I.list h2
  have s1 : StrsAre xs as := by simpa using v1.strs
  have s2 : StrsAre ys bs := by simpa using v2.strs
  have n1 : xs.length = as.length := by have := v1.length; simpa using this.symm
  have n2 : ys.length = bs.length := by have := v2.length; simpa using this.symm
  have hb : RcNeAt X.A s (.ref p) (.ref q) (!decide (as = bs)) := by
    by_cases hl : as.length = bs.length
    · have z := RcNeAt.lists (s := s) l1.isList l2.isList (by simp only [List.size_toArray]; omega) (show X.A.units < cLine by omega) (str_pairs (A := X.A.in1) (s := s) (as := as) (bs := bs) (by simpa using s1) (by simpa using s2) (by simpa using n1) (by simpa using n2))
      rw [List.size_toArray, n1, all_same hl] at z
      exact z
    · have e : decide (as = bs) = false := decide_eq_false fun e => hl (by rw [e])
      rw [e]
      exact RcNeAt.lists_lengths l1.isList l2.isList (by simp only [List.size_toArray, bne_iff_ne, ne_eq]; omega) (by omega)
  exact hb _ _ _ _ ⟨.bl _, H, I, rfl, k⟩
end
abbrev leS (a b : Str) : Prop := a.cps.toList ≤ b.cps.toList
theorem leS_of {a b : Str} (h : (!ltCps b.cps.toList a.cps.toList) = true) : leS a b := by
  rw [ltCps_eq] at h
  have h2 : ¬ b.cps.toList < a.cps.toList := by simpa using h
  exact List.not_lt.mp h2
theorem pw_rising : ∀ (l : List Str) (p : Str), risingS p l = true → (p :: l).Pairwise leS
  | [], p, _ => List.pairwise_singleton _ _
  | x :: r, p, h => by
    have h' : (!ltCps x.cps.toList p.cps.toList && risingS x r) = true := h
    rw [Bool.and_eq_true] at h'
    have h1 := leS_of h'.1
    have h2 := pw_rising r x h'.2
    refine List.pairwise_cons.mpr ⟨fun y hy => ?_, h2⟩
    rcases List.mem_cons.mp hy with e | e
    · rw [e]; exact h1
    · exact List.le_trans h1 ((List.pairwise_cons.mp h2).1 y e)
theorem pw_sorted : ∀ l : List Str, sortedS l = true → l.Pairwise leS
  | [], _ => List.Pairwise.nil
  | x :: r, h => pw_rising r x h
theorem leS_anti {a b : Str} (h : leS a b) (k : leS b a) : a = b := by
  have e := List.le_antisymm h k
  cases a with | mk ca => cases b with | mk cb =>
  simpa using e
theorem sorted_one {ks l : List Str} (h1 : sortedS ks = true) (d1 : ks.Nodup) (h2 : sortedS l = true) (d2 : l.Nodup) (m : ∀ k, k ∈ ks ↔ k ∈ l) : ks = l :=
  List.Perm.eq_of_pairwise (le := leS) (fun a b _ _ => leS_anti) (pw_sorted ks h1) (pw_sorted l h2) ((List.perm_ext_iff_of_nodup d1 d2).mpr m)
end FM
set_option maxRecDepth 100000
set_option maxHeartbeats 4000000
namespace FM
open PySem PySem.Spec PyProof.Rows L2
end FM
set_option maxRecDepth 100000
set_option maxHeartbeats 4000000
namespace FM
open PySem L2
def alpha : Str := "abcdefghijklmnopqrstuvwxyz"
/-- a string of letters -/
def isWord (z : Str) : Bool := decide (Txt.stripChars z alpha = "")
/-- a value of another type -/
def NotTy (K : PySem.W.Frag) (H : Hp) (x : V) (T : String) : Prop := ∃ t, TyX K H x t ∧ PySem.W.kitOne K t (.type T) = some false
theorem ty_tup {K : PySem.W.Frag} {H : Hp} {a : Addr} {xs : List V} (h : SqT K H a xs) : TyX K H (.ref a) (.type "tuple") := by
  rcases h with (h | ⟨o, h⟩) | ⟨o, its, n, h, hc, _⟩
  · exact .base (.tup h)
  · exact .fTuple h
  · exact .kTuple h hc
theorem dec_strV (a b : Str) : decide (V.str a = V.str b) = decide (a = b) := by
  by_cases h : a = b
  · rw [h]; simp
  · rw [decide_eq_false h, decide_eq_false fun z => h (V.str.inj z)]
/-- a value, and whether it is a word -/
def WordV (K : PySem.W.Frag) (H : Hp) (y : V) (b : Bool) : Prop := (∃ z : Str, y = .str z ∧ z.length ≤ sizeLine ∧ isWord z = b) ∨ (NotTy K H y "str" ∧ b = false)
end FM
set_option maxRecDepth 100000
set_option maxHeartbeats 1000000
namespace FM
open PySem PySem.Spec PyProof.Rows L2
section
variable {X : Cx}
theorem each_mem2 {α β : Type} {R S : α → β → Prop} {as : List α} {bs : List β} (h : PySem.W.EachIs R as bs) : (∀ a, ∀ b ∈ bs, R a b → S a b) → PySem.W.EachIs S as bs := by
  induction h with
  | nil => intro _; exact .nil
  | cons e _ ih => exact fun f => .cons (f _ _ List.mem_cons_self e) (ih fun a b hb => f a b (List.mem_cons_of_mem _ hb))
end
/-- its signs can be laid -/
def okS (z : Str) : Prop := PyData.strOk z = true
def prD (a b : Str) : PyData := .tuple [.str a, .str b]
end FM
set_option maxRecDepth 100000
set_option maxHeartbeats 2000000
namespace FM
open PySem PySem.Spec PyProof.Rows L2
def MaskF (m : Nat) : Prop := m = 7 ∨ m = 31 ∨ m = 127 ∨ m = 511
def vis (m : Nat) : Nat → Nat → Nat → Nat
  | 0, _, v => v
  | n + 1, x, v => vis m n ((x * 5 + 1) % (m + 1)) (v ||| 2 ^ x)
theorem lcgI_back (m x : Nat) : ∀ b, lcgI m ((x * 5 + 1) % (m + 1)) b = lcgI m x (b + 1)
  | 0 => rfl
  | b + 1 => by
    show (lcgI m ((x * 5 + 1) % (m + 1)) b * 5 + 1) % (m + 1) = (lcgI m x (b + 1) * 5 + 1) % (m + 1)
    rw [lcgI_back m x b]
theorem vis_bit (m : Nat) : ∀ n x v j, (vis m n x v).testBit j = true → v.testBit j = true ∨ ∃ b, b < n ∧ lcgI m x b = j
  | 0, _, _, _, h => .inl h
  | n + 1, x, v, j, h => by
    rcases vis_bit m n _ _ j h with h | ⟨b, hb, e⟩
    · rw [Nat.testBit_or, Bool.or_eq_true] at h
      rcases h with h | h
      · exact .inl h
      · refine .inr ⟨0, Nat.succ_pos _, ?_⟩
        rw [Nat.testBit_two_pow] at h
        exact of_decide_eq_true h
    · exact .inr ⟨b + 1, Nat.succ_lt_succ hb, by rw [← lcgI_back]; exact e⟩
theorem all_of {m : Nat} (h : vis m (m + 1) 0 0 = 2 ^ (m + 1) - 1) {j : Nat} (hj : j ≤ m) : ∃ b, b ≤ m ∧ lcgI m 0 b = j := by
  have z : (vis m (m + 1) 0 0).testBit j = true := by
    rw [h, Nat.testBit_two_pow_sub_one]
    exact decide_eq_true (Nat.lt_succ_of_le hj)
  rcases vis_bit m _ _ _ j z with q | ⟨b, hb, e⟩
  · rw [Nat.zero_testBit] at q
    cases q
  · exact ⟨b, Nat.le_of_lt_succ hb, e⟩
theorem round_all {m : Nat} (hm : MaskF m) {j : Nat} (hj : j ≤ m) : ∃ b, b ≤ m ∧ lcgI m 0 b = j := by
  rcases hm with rfl | rfl | rfl | rfl
  · exact all_of (by decide +kernel) hj
  · exact all_of (by decide +kernel) hj
  · exact all_of (by decide +kernel) hj
  · exact all_of (by decide +kernel) hj
theorem round_end {m : Nat} (hm : MaskF m) : lcgI m 0 (m + 1) = 0 := by
  rcases hm with rfl | rfl | rfl | rfl <;> decide +kernel
theorem lcgI_sum (m i a : Nat) : ∀ b, lcgI m (lcgI m i a) b = lcgI m i (a + b)
  | 0 => rfl
  | b + 1 => by
    show (lcgI m (lcgI m i a) b * 5 + 1) % (m + 1) = (lcgI m i (a + b) * 5 + 1) % (m + 1)
    rw [lcgI_sum m i a b]
theorem round_from {m : Nat} (hm : MaskF m) {i j : Nat} (hi : i ≤ m) (hj : j ≤ m) : ∃ k, k ≤ m ∧ lcgI m i k = j := by
  obtain ⟨a, ha, rfl⟩ := round_all hm hi
  obtain ⟨b, hb, rfl⟩ := round_all hm hj
  rcases Nat.le_total a b with le | le
  · exact ⟨b - a, by omega, by rw [lcgI_sum, show a + (b - a) = b by omega]⟩
  · by_cases e : a = b
    · exact ⟨0, Nat.zero_le _, by rw [lcgI_sum, e]; rfl⟩
    · refine ⟨m + 1 - a + b, by omega, ?_⟩
      rw [lcgI_sum, show a + (m + 1 - a + b) = (m + 1) + b by omega, ← lcgI_sum, round_end hm]
theorem meets_run {m : Nat} (hm : MaskF m) (h : Int) {j : Nat} (hj : j ≤ m) : ∃ n, n ≤ m + 12 ∧ runI m (SetTable.bits h) n = j := by
  obtain ⟨k, hk, e⟩ := round_from hm (runI_le m (SetTable.bits h) 12) hj
  exact ⟨12 + k, by omega, (runI_tail (bits_lt h) k).trans e⟩
theorem least {p : Nat → Prop} [DecidablePred p] : ∀ (n : Nat), (∃ k, k ≤ n ∧ p k) → ∃ K, K ≤ n ∧ p K ∧ ∀ k, k < K → ¬ p k
  | 0, ⟨k, hk, h⟩ => ⟨0, Nat.le_refl _, (Nat.le_zero.mp hk) ▸ h, fun k hk => absurd hk (Nat.not_lt_zero _)⟩
  | n + 1, ⟨k, hk, h⟩ => by
    by_cases c : ∃ k, k ≤ n ∧ p k
    · obtain ⟨K, a, b, d⟩ := least n c
      exact ⟨K, Nat.le_succ_of_le a, b, d⟩
    · have e : k = n + 1 := Nat.le_antisymm hk (Nat.lt_of_not_le fun z => c ⟨k, z, h⟩)
      exact ⟨n + 1, Nat.le_refl _, e ▸ h, fun i hi z => c ⟨i, Nat.le_of_lt_succ hi, z⟩⟩
abbrev path (m : Nat) (h : Int) (k : Nat) : SetTable.Probe := nth m (runAt m (SetTable.bits h % (m + 1)) (SetTable.bits h)) k
theorem path_none (m : Nat) (h : Int) (c : Nat) : (path m h c).dummy = none := by
  have all : ∀ (n : Nat) (p : SetTable.Probe), p.dummy = none → (nth m p n).dummy = none := by
    intro n
    induction n with
    | zero => exact fun p z => z
    | succ n ih =>
      intro p z
      refine ih (adv m p) ?_
      unfold adv
      split <;> exact z
  exact all c _ rfl
theorem path_le (m : Nat) (h : Int) (k : Nat) : (path m h k).j ≤ m := by
  have hi : SetTable.bits h % (m + 1) ≤ m := Nat.le_of_lt_succ (Nat.mod_lt _ (Nat.succ_pos _))
  obtain ⟨a, b, c⟩ := runEnd_bd hi
  have q := nth_in (m := m) k (runAt m (SetTable.bits h % (m + 1)) (SetTable.bits h)) (by show SetTable.bits h % (m + 1) + (SetTable.runEnd m (SetTable.bits h % (m + 1)) - SetTable.bits h % (m + 1)) ≤ m; omega)
  exact Nat.le_trans (Nat.le_add_right _ _) q
theorem path_meets {m : Nat} (hm : MaskF m) (h : Int) {j : Nat} (hj : j ≤ m) : ∃ k, k < 10 * SetTable.turns m ∧ (path m h k).j = j := by
  obtain ⟨n, hn, e⟩ := meets_run hm h hj
  obtain ⟨k, hk, q⟩ := run_nth m (SetTable.bits h) n
  refine ⟨k, by unfold SetTable.turns; omega, ?_⟩
  show (nth m _ k).j = j
  rw [q]
  exact e
/-- a slot that is not among fewer -/
theorem a_gap {m : Nat} {l : List Nat} (hl : l.length ≤ m) : ∃ j, j ≤ m ∧ j ∉ l := by
  refine Classical.byContradiction fun no => ?_
  have q := nat_nodup_len (List.range (m + 1)) l List.nodup_range fun x hx => by
    refine Classical.byContradiction fun z => no ⟨x, Nat.le_of_lt_succ (List.mem_range.mp hx), z⟩
  rw [List.length_range] at q
  omega
structure TabW (t : SetTable) (n : Nat) : Prop where
  sz : t.place.size = n
  ris : Ris t.place.toList
  le : ∀ j ∈ t.place.toList, j ≤ t.mask
  dm : t.dummies = #[]
  full : MaskF t.mask
  room : n * 5 < t.mask * 3
theorem TabW.first {t : SetTable} {n : Nat} (T : TabW t n) (h : Int) : ∃ K, K < 10 * SetTable.turns t.mask ∧ (path t.mask h K).j ∉ t.place.toList ∧ ∀ k, k < K → (path t.mask h k).j ∈ t.place.toList := by
  obtain ⟨j, hj, out⟩ := a_gap (m := t.mask) (l := t.place.toList) (by rw [Array.length_toList, T.sz]; have := T.room; omega)
  obtain ⟨k, hk, e⟩ := path_meets T.full h hj
  obtain ⟨K, a, b, c⟩ := least (p := fun k => (path t.mask h k).j ∉ t.place.toList) k ⟨k, Nat.le_refl _, by rw [e]; exact out⟩
  exact ⟨K, by omega, b, fun k hk => Decidable.not_not.mp (c k hk)⟩
theorem odd_mask {m : Nat} (h : MaskF m) : m % 2 = 1 := by rcases h with rfl | rfl | rfl | rfl <;> rfl
structure SetW (P : Program) (w : World) (h : Heap) (a : Addr) (L : List (Addr × List Int)) (es : Array (Int × Value)) (ep : Nat) (t : SetTable) : Prop where
  ob : ∃ o, h.get? a = some o ∧ o.ExactSet ∧ o.data = .set es ep t
  rows : es.toList = rowsOf P w L
  tab : TabW t L.length
  plain : t.plain = true
  led : w.params.followText "set-order" = true ∨ t.led = true
  tup : ∀ p ∈ L, IsT P w h p.2 p.1
section
variable {P : Program} {w : World} {A : Around} {E : Value → Shared → Prop} {s : Shared} {a : Addr} {L : List (Addr × List Int)} {es : Array (Int × Value)} {ep : Nat} {t : SetTable}
theorem rows_size (h : es.toList = rowsOf P w L) : es.size = L.length := by
  have q := congrArg List.length h
  unfold rowsOf at q
  rwa [Array.length_toList, List.length_map] at q
theorem rows_at (h : es.toList = rowsOf P w L) {i : Nat} {p : Addr × List Int} (hp : L[i]? = some p) : es[i]? = some (thash P w p.2, Value.ref p.1) := by
  rw [← Array.getElem?_toList, h]
  unfold rowsOf
  rw [List.getElem?_map, hp]
  rfl
theorem SetW.fits (R : SetW P w s.heap a L es ep t) : t.fits es.size = true := by
  have q := R.tab.room
  unfold SetTable.fits SetTable.fill
  rw [R.tab.sz, R.tab.dm, rows_size R.rows, Bool.and_eq_true]
  refine ⟨beq_self_eq_true _, decide_eq_true ?_⟩
  show L.length + 0 ≤ t.mask
  omega
theorem SetW.stands (R : SetW P w s.heap a L es ep t) : ¬ t.gaveWay = true := by
  unfold SetTable.gaveWay
  rw [odd_mask R.tab.full]
  decide
theorem search_w (R : SetW P w s.heap a L es ep t) {x : Addr} {k : List Int} (hx : IsT P w s.heap k x) (hu : A.units < cLine) {K : Nat} (lim : K < 10 * SetTable.turns t.mask) (out : (path t.mask (thash P w k) K).j ∉ t.place.toList)
    (ins : ∀ c, c < K → (path t.mask (thash P w k) c).j ∈ t.place.toList) {Q : SetFound → Shared → Prop} (same : (∃ p ∈ L, p.2 = k) → Q (.there none) s) (free : Q (.free (path t.mask (thash P w k) K).j false) s) :
    ∀ (f c : Nat) (st : Option SetTable.Probe), st.getD (t.probeStart (thash P w k)) = path t.mask (thash P w k) c → c ≤ K → K - c < f → wpAny (model P w) A (setSearchFrom a (.ref x) (thash P w k) true f st) Q E s
  | 0, _, _, _, _, hf => absurd hf (Nat.not_lt_zero _)
  | f + 1, c, st, hst, hc, hf => by
    obtain ⟨o, ho, hex, hd⟩ := R.ob
    have on : ∀ q, nth t.mask (path t.mask (thash P w k) c) q = path t.mask (thash P w k) (c + q) := fun q => (nth_add t.mask c _ q).symm
    rw [setSearchFrom_succ]
    refine wpAny_bind (wpAny_setState_of ho hd R.fits ?_)
    dsimp only
    refine wp_if_neg R.stands ?_
    have spec := go_spec t R.tab.ris R.tab.dm (fun i => (es[i]?.map (·.1)).getD 0) (thash P w k) (10 * SetTable.turns t.mask) (K - c) _ (path_none _ _ c) (by omega)
      (fun q hq => by rw [on]; exact ins (c + q) (by omega)) (by rw [on, show c + (K - c) = K by omega]; exact out)
    rcases spec with ⟨q, i, hq, hi, -, -, hpr⟩ | ⟨-, hpr⟩
    · have pr : t.probe (fun i => (es[i]?.map (·.1)).getD 0) (thash P w k) (st.getD (t.probeStart (thash P w k))) = some (.candidate (path t.mask (thash P w k) (c + q)).j i (path t.mask (thash P w k) (c + (q + 1)))) := by
        rw [hst, ← on, ← on]
        exact hpr
      rw [on] at hi
      rw [pr]
      dsimp only
      have il : i < L.length := by
        have h1 := (List.getElem?_eq_some_iff.mp hi).1
        rw [Array.length_toList, R.tab.sz] at h1
        exact h1
      obtain ⟨p, hp⟩ : ∃ p, L[i]? = some p := ⟨L[i], List.getElem?_eq_getElem il⟩
      have mem : p ∈ L := List.mem_of_getElem? hp
      have tail : wpAny (model P w) A (searchRest a (.ref x) (thash P w k) true f es t (path t.mask (thash P w k) (c + q)).j i (path t.mask (thash P w k) (c + (q + 1)))) Q E s := by
        unfold searchRest
        rw [rows_at R.rows hp]
        dsimp only
        refine wpAny_bind (wpAny_holding (wpAny_eqBool_tuple hu (R.tup p mem) hx ?_))
        refine wpAny_bind (wpAny_setState_of ho hd R.fits ?_)
        dsimp only
        by_cases e : p.2 = k
        · refine wp_if_pos (by simp [e]) (wpAny_pure (same ⟨p, mem, e⟩))
        · refine wp_if_neg (by simp [e]) ?_
          rw [sameMem]
          dsimp only
          simp only [if_true, slot_live R.tab.ris hi, rows_at R.rows hp]
          refine wpAny_bind (wpAny_isSame_ref_self (wpAny_bind (wpAny_pure ?_)))
          simp only [if_true]
          refine wp_if_neg (by simp [e]) ?_
          exact search_w R hx hu lim out ins same free f (c + (q + 1)) _ rfl (by omega) (by omega)
      by_cases l : t.led = true
      · exact wp_if_neg (by simp [l]) tail
      · refine wp_if_pos (by simp [l]) (wpAny_bind (seen_tup hx (fun y hy => ?_) (wp_if_neg (by decide) tail)))
        obtain ⟨e, he, rfl⟩ := List.mem_map.mp hy
        have h1 : e ∈ es ∧ e.1 = thash P w k := by simpa using he
        have h2 : e ∈ es.toList := by simpa using h1.1
        rw [R.rows] at h2
        obtain ⟨p2, hp2, rfl⟩ := List.mem_map.mp h2
        exact ⟨p2.2, p2.1, rfl, R.tup p2 hp2⟩
    · have pr : t.probe (fun i => (es[i]?.map (·.1)).getD 0) (thash P w k) (st.getD (t.probeStart (thash P w k))) = some (.empty (path t.mask (thash P w k) K).j none) := by
        rw [on, show c + (K - c) = K by omega] at hpr
        rw [hst]
        exact hpr
      rw [pr]
      exact wpAny_pure free
end
structure OwnW (m n : Nat) (owner : Array (Option Nat)) (ps : List Nat) : Prop where
  sz : owner.size = m + 1
  len : ps.length = n
  le : ∀ j ∈ ps, j ≤ m
  at_ : ∀ i j, ps[i]? = some j → oAt owner j = some i
  no : ∀ j, j ≤ m → j ∉ ps → oAt owner j = none
theorem free_w {m n : Nat} (hm : MaskF m) {owner : Array (Option Nat)} {ps : List Nat} (W : OwnW m n owner ps) (hn : n ≤ m) (h : Int) : ∃ j, j ≤ m ∧ j ∉ ps ∧ SetTable.layClean.free m owner (SetTable.turns m) (SetTable.bits h % (m + 1)) (SetTable.bits h) = some j := by
  obtain ⟨e, he, out⟩ := a_gap (m := m) (l := ps) (by rw [W.len]; exact hn)
  obtain ⟨r, hr, er⟩ := meets_run hm h he
  have at0 : (oAt owner (nth m (runAt m (SetTable.bits h % (m + 1)) (SetTable.bits h)) (off m (SetTable.bits h % (m + 1)) (SetTable.bits h) r)).j).isNone = true := by
    rw [nth_off, itL_run]
    show (oAt owner (runI m (SetTable.bits h) r)).isNone = true
    rw [er, W.no e he out]
    rfl
  obtain ⟨K, a, b, c⟩ := least (p := fun k => (oAt owner (nth m (runAt m (SetTable.bits h % (m + 1)) (SetTable.bits h)) k).j).isNone = true) _ ⟨_, Nat.le_refl _, at0⟩
  refine ⟨(path m h K).j, path_le m h K, fun z => ?_, free_spec m owner (SetTable.turns m) r _ _ K (by unfold SetTable.turns; omega) a (fun k hk => Bool.eq_false_iff.mpr (c k hk)) b⟩
  obtain ⟨i, hi⟩ := List.mem_iff_getElem?.mp z
  rw [W.at_ i _ hi] at b
  cases b
theorem OwnW.add {m n j : Nat} {owner : Array (Option Nat)} {ps : List Nat} (W : OwnW m n owner ps) (hj : j ≤ m) (out : j ∉ ps) : OwnW m (n + 1) (owner.setIfInBounds j (some n)) (ps ++ [j]) := by
  have jl : j < owner.size := by rw [W.sz]; omega
  refine ⟨by rw [Array.size_setIfInBounds]; exact W.sz, by rw [List.length_append, W.len]; rfl, fun i hi => ?_, fun i k hk => ?_, fun i hi no => ?_⟩
  · rcases List.mem_append.mp hi with z | z
    · exact W.le i z
    · rw [List.mem_singleton.mp z]
      exact hj
  · rcases Nat.lt_or_ge i ps.length with lt | ge
    · rw [List.getElem?_append_left lt] at hk
      have ne : j ≠ k := fun z => out (z ▸ List.mem_of_getElem? hk)
      rw [oAt_set_ne _ ne.symm]
      exact W.at_ i k hk
    · rw [List.getElem?_append_right ge] at hk
      have i0 : i - ps.length = 0 := by
        have := (List.getElem?_eq_some_iff.mp hk).1
        rw [List.length_singleton] at this
        omega
      rw [i0] at hk
      cases Option.some.inj hk
      rw [oAt_set_self _ jl, ← W.len]
      congr 1
      omega
  · have ne : j ≠ i := fun z => no (List.mem_append_right _ (z ▸ List.mem_singleton.mpr rfl))
    rw [oAt_set_ne _ ne.symm]
    exact W.no i hi fun z => no (List.mem_append_left _ z)
theorem fold_w {m : Nat} (hm : MaskF m) : ∀ (hs : List Int) (n : Nat) (owner : Array (Option Nat)) (ps : List Nat), OwnW m n owner ps → n + hs.length ≤ m + 1 →
    ∃ owner' ps', hs.foldl (stepF m) (some (owner, n)) = some (owner', n + hs.length) ∧ OwnW m (n + hs.length) owner' ps'
  | [], n, owner, ps, W, _ => ⟨owner, ps, rfl, W⟩
  | h :: hs, n, owner, ps, W, le => by
    rw [List.length_cons] at le
    obtain ⟨j, hj, out, e⟩ := free_w hm W (by omega) h
    obtain ⟨o2, p2, e2, W2⟩ := fold_w hm hs (n + 1) _ _ (W.add hj out) (by omega)
    refine ⟨o2, p2, ?_, by rw [List.length_cons, show n + (hs.length + 1) = n + 1 + hs.length by omega]; exact W2⟩
    rw [List.foldl_cons, stepF_some e, e2, List.length_cons, show n + (hs.length + 1) = n + 1 + hs.length by omega]
theorem relaid_w (t : SetTable) {hs : Array Int} {wanted M : Nat} (hw : SetTable.sizeAbove wanted - 1 = M) (hM : MaskF M) (room : hs.size * 5 < M * 3) :
    ∃ t' order, t.relaid hs wanted = some (t', order) ∧ order.toList.Perm (List.range hs.size) ∧ TabW t' hs.size ∧ t'.led = t.led ∧ t'.plain = t.plain := by
  have W0 : OwnW M 0 (Array.replicate (M + 1) none) [] := ⟨Array.size_replicate, rfl, (fun j z => nomatch z), (fun i j z => nomatch z), fun j hj _ => oAt_init hj⟩
  have lh : hs.toList.length = hs.size := Array.length_toList
  obtain ⟨owner, ps, e, W⟩ := fold_w hM hs.toList 0 _ _ W0 (by rw [lh]; omega)
  rw [Nat.zero_add, lh] at W
  have hr : t.relaid hs wanted = some (tabOf t M owner, ((liveOf M owner).map (·.2)).toArray) := by
    rw [relaid_eq, hw, layClean_eq, e]
    rfl
  obtain ⟨r1, r2⟩ := ris_live (fun j => owner.getD j none) (List.range (M + 1)) (by
    unfold Ris
    exact List.pairwise_lt_range)
  have r1 : Ris ((liveOf M owner).map (·.1)) := r1
  have n1 : ((liveOf M owner).map (·.1)).Nodup := List.Pairwise.imp (fun h => Nat.ne_of_lt h) r1
  have each : ∀ k, k < hs.size → k ∈ (liveOf M owner).map (·.2) := fun k hk => by
    have kl : k < ps.length := by rw [W.len]; exact hk
    have hp : ps[k]? = some ps[k] := List.getElem?_eq_getElem kl
    exact List.mem_map.mpr ⟨(ps[k], k), (mem_live W.sz).2 ⟨W.le _ (List.getElem_mem kl), W.at_ k _ hp⟩, rfl⟩
  have up : ((liveOf M owner).map (·.1)).length ≤ ps.length := nat_nodup_len _ ps n1 fun x hx => by
    obtain ⟨⟨y, k⟩, hq, rfl⟩ := List.mem_map.mp hx
    obtain ⟨b1, b2⟩ := (mem_live W.sz).1 hq
    refine Classical.byContradiction fun z => ?_
    rw [W.no y b1 z] at b2
    cases b2
  have lo : (List.range hs.size).length ≤ ((liveOf M owner).map (·.2)).length := nat_nodup_len _ _ List.nodup_range fun k hk => each k (List.mem_range.mp hk)
  rw [List.length_map, W.len] at up
  rw [List.length_map, List.length_range] at lo
  have len : (liveOf M owner).length = hs.size := Nat.le_antisymm up lo
  refine ⟨_, _, hr, perm_range hs.size _ (by rw [List.toList_toArray, List.length_map]; exact len) fun k hk => by rw [List.toList_toArray]; exact each k hk, ⟨?_, ?_, fun j hj => ?_, rfl, hM, room⟩, rfl, rfl⟩
  · show ((liveOf M owner).map (·.1)).toArray.size = hs.size
    rw [List.size_toArray, List.length_map]
    exact len
  · exact r1
  · have hj : j ∈ (liveOf M owner).map (·.1) := hj
    obtain ⟨⟨y, k⟩, hq, rfl⟩ := List.mem_map.mp hj
    exact ((mem_live W.sz).1 hq).1
theorem grown_5 : SetTable.sizeAbove (SetTable.grown 5) - 1 = 31 := by decide +kernel
theorem grown_19 : SetTable.sizeAbove (SetTable.grown 19) - 1 = 127 := by decide +kernel
theorem grown_77 : SetTable.sizeAbove (SetTable.grown 77) - 1 = 511 := by decide +kernel
section
variable {P : Program} {w : World} {A : Around} {E : Value → Shared → Prop} {s : Shared} {a : Addr} {L : List (Addr × List Int)} {es : Array (Int × Value)} {ep : Nat} {t : SetTable}
theorem relay_w {o : Obj} (ho : s.heap.get? a = some o) (hex : o.ExactSet) (hd : o.data = .set es ep t) (hr : es.toList = rowsOf P w L) (hsz : t.place.size = es.size) (hdm : t.dummies = #[]) (hfl : es.size ≤ t.mask)
    (tup : ∀ p ∈ L, IsT P w s.heap p.2 p.1) (pl : t.plain = true) (ld : w.params.followText "set-order" = true ∨ t.led = true) {wanted M : Nat}
    (hw : SetTable.sizeAbove wanted - 1 = M) (hM : MaskF M) (hn : L.length * 5 < M * 3) {Q : Unit → Shared → Prop}
    (hQ : ∀ h' L' es' ep' t', Heap.SameBut a s.heap h' → SetW P w h' a L' es' ep' t' → L'.Perm L → Q () { s with heap := h' }) : wpAny (model P w) A (setRelay a wanted) Q E s := by
  have hsl := rows_size hr
  have hfits : t.fits es.size = true := by
    unfold SetTable.fits SetTable.fill
    rw [hdm, Bool.and_eq_true, beq_iff_eq, decide_eq_true_eq]
    show t.place.size = es.size ∧ t.place.size + 0 ≤ t.mask
    omega
  have M5 : M ≤ 511 := by rcases hM with e | e | e | e <;> omega
  obtain ⟨t', order, e, hp, T, el, ep'⟩ := relaid_w t (hs := es.map (·.1)) (wanted := wanted) hw hM (by rw [Array.size_map, hsl]; exact hn)
  rw [Array.size_map, hsl] at hp T
  obtain ⟨L2, r1, r2, -⟩ := order_rows L es order hr hp
  have hs2 : (order.filterMap (es[·]?)).size = es.size := by rw [rows_size r1, r2.length_eq, hsl]
  have big : (512 : Nat) ≤ sizeLine := by decide
  rw [setRelay_eq]
  refine wpAny_bind (wpAny_setState_of ho hd hfits ?_)
  dsimp only
  refine wp_if_neg (by omega) ?_
  rw [e]
  dsimp only
  refine wpAny_bind ?_
  refine wp_if_neg (by rw [hs2]; simp) ?_
  refine wpAny_pure ?_
  dsimp only
  refine wpAny_storeSet_of ho hd ?_ (by rw [hs2, hsl]; omega)
  have sb : Heap.SameBut a s.heap (s.heap.update a (Obj.putSet (order.filterMap (es[·]?)) t')) := Heap.SameBut.update ..
  refine hQ _ L2 (order.filterMap (es[·]?)) (ep + 1) t' sb ?_ r2
  exact ⟨⟨_, store_at ho hd, ⟨hex.1, hex.2.1, hex.2.2⟩, rfl⟩, r1, by rw [r2.length_eq]; exact T, by rw [ep']; exact pl, by rw [el]; exact ld, fun p hpm => isT_same (tup p (r2.mem_iff.mp hpm)) ho hd sb⟩
theorem add_w (R : SetW P w s.heap a L es ep t) {x : Addr} {k : List Int} (hx : IsT P w s.heap k x) (hu : A.units < cLine) (few : L.length < 300) {Q : Bool → Shared → Prop}
    (hQ : ∀ b h' L' es' ep' t', Heap.SameBut a s.heap h' → SetW P w h' a L' es' ep' t' → (L' = L ∧ k ∈ L.map (·.2)) ∨ L'.Perm ((x, k) :: L) → Q b { s with heap := h' }) :
    wpAny (model P w) A (setAddHashed a (.ref x) (thash P w k)) Q E s := by
  obtain ⟨o, ho, hex, hd⟩ := R.ob
  have hsl := rows_size R.rows
  have hroom := R.tab.room
  obtain ⟨K, lim, out, ins⟩ := R.tab.first (thash P w k)
  have hbig : K < 100000 := by
    have : 10 * SetTable.turns t.mask ≤ 10000 := by
      unfold SetTable.turns
      rcases R.tab.full with e | e | e | e <;> omega
    omega
  unfold setAddHashed
  refine wpAny_holding ?_
  rw [show (100000 : Nat) = 99999 + 1 from rfl, setAddHashedIn_succ]
  refine wpAny_bind (wpAny_setState_of ho hd R.fits ?_)
  dsimp only
  refine wp_if_neg (by simp [byScan, Value.scannable]) ?_
  refine wpAny_bind ?_
  unfold setSearch
  refine search_w R hx hu lim out ins ?same ?free 100000 0 none rfl (Nat.zero_le _) (by omega)
  case same =>
    rintro ⟨p, hp, e⟩
    dsimp only
    exact wpAny_pure (hQ false s.heap L es ep t (Heap.SameBut.refl a s.heap) R (.inl ⟨rfl, List.mem_map.mpr ⟨p, hp, e⟩⟩))
  case free =>
    dsimp only
    refine wpAny_bind (wpAny_setState_of ho hd R.fits ?_)
    dsimp only
    have jle := path_le t.mask (thash P w k) K
    generalize (path t.mask (thash P w k) K).j = j at out jle
    have hnp : t.place[SetTable.below t.place j]? ≠ some j := fun e => out (List.mem_of_getElem? (by rw [Array.getElem?_toList]; exact e))
    have c1 := (below_cut R.tab.ris j).1
    have hpp := put_place t j
    have hdm := put_dm R.tab.dm j
    have ris1 : Ris (t.put j).1.place.toList := ris_insert R.tab.ris hnp
    have sz1 : (t.put j).1.place.size = L.length + 1 := by
      rw [← Array.length_toList, hpp, len_ins _ (by rw [Array.length_toList]; exact c1), Array.length_toList, R.tab.sz]
    have le1 : ∀ y ∈ (t.put j).1.place.toList, y ≤ t.mask := fun y hy => by
      rw [hpp] at hy
      rcases mem_ins.1 hy with z | z
      · rw [z]
        exact jle
      · exact R.tab.le y z
    have m1 : (t.put j).1.mask = t.mask := rfl
    have l1 : (t.put j).1.led = t.led := rfl
    have p1 : (t.put j).1.plain = true := R.plain
    have q1 : (t.put j).2 = SetTable.below t.place j := rfl
    generalize t.put j = pt at ris1 sz1 le1 m1 l1 p1 q1 hdm ⊢
    obtain ⟨t1, p⟩ := pt
    dsimp only at ris1 sz1 le1 m1 l1 p1 q1 hdm ⊢
    subst q1
    first
      | (refine wpAny_bind ?_; refine wp_if_pos p1 ?_; refine hashBy_tup hx ?_)
      | refine wp_if_pos p1 (wpAny_bind (hashBy_tup hx ?_))
    simp only [if_true]
    have hin : (SetTable.insertAt es (SetTable.below t.place j) (thash P w k, Value.ref x)).toList = rowsOf P w (L.take (SetTable.below t.place j) ++ (x, k) :: L.drop (SetTable.below t.place j)) := by
      rw [SetTable.toList_insertAt, rows_put, R.rows]
    have pm := put_perm L (SetTable.below t.place j) (x, k)
    have hlen := pm.length_eq
    rw [List.length_cons] at hlen
    have hes : (SetTable.insertAt es (SetTable.below t.place j) (thash P w k, Value.ref x)).size = L.length + 1 := (rows_size hin).trans hlen
    generalize SetTable.insertAt es (SetTable.below t.place j) (thash P w k, Value.ref x) = es1 at hin hes ⊢
    generalize L.take (SetTable.below t.place j) ++ (x, k) :: L.drop (SetTable.below t.place j) = L1 at pm hlen hin
    have big : (512 : Nat) ≤ sizeLine := by decide
    refine wpAny_bind (wpAny_storeSet_of ho hd ?_ (by rw [hes]; omega))
    have sb : Heap.SameBut a s.heap (s.heap.update a (Obj.putSet es1 t1)) := Heap.SameBut.update ..
    have ho1 := store_at (es' := es1) (t' := t1) ho hd
    generalize s.heap.update a (Obj.putSet es1 t1) = h1 at sb ho1 ⊢
    have tup1 : ∀ p ∈ L1, IsT P w h1 p.2 p.1 := fun p hp => by
      rcases List.mem_cons.mp (pm.mem_iff.mp hp) with e | hp
      · rw [e]; exact isT_same hx ho hd sb
      · exact isT_same (R.tup p hp) ho hd sb
    have ld1 : w.params.followText "set-order" = true ∨ t1.led = true := by rw [l1]; exact R.led
    have fill1 : t1.fill = L.length + 1 := by
      unfold SetTable.fill
      rw [sz1, hdm]
      rfl
    by_cases hf : t1.tooFull = true
    · first
        | (refine wpAny_bind ?_; refine wp_if_pos (by simp [hf]) ?_)
        | (refine wp_if_pos (by simp [hf]) ?_; refine wpAny_bind ?_)
      have hfull : (L.length + 1) * 5 ≥ t1.mask * 3 := by
        have h := hf
        unfold SetTable.tooFull at h
        rw [decide_eq_true_eq, fill1] at h
        exact h
      rw [hsl]
      have go : ∀ M, SetTable.sizeAbove (SetTable.grown (L.length + 1)) - 1 = M → MaskF M → (L.length + 1) * 5 < M * 3 → L.length + 1 ≤ t1.mask →
          wpAny (model P w) A (setRelay a (SetTable.grown (L.length + 1))) (fun _ s' => wpAny (model P w) A (pure true) Q E s') E { s with heap := h1 } := fun M h1' h2' h4' h5' => by
        refine relay_w (s := { s with heap := h1 }) ho1 ⟨hex.1, hex.2.1, hex.2.2⟩ rfl hin (by rw [sz1, hes]) hdm (by rw [hes]; exact h5') tup1 p1 ld1 h1' h2' (by rw [hlen]; exact h4') ?_
        intro h2 L2 es2 ep2 t2 sb2 R2 pm2
        exact wpAny_pure (hQ true h2 L2 es2 ep2 t2 (sb.trans sb2) R2 (.inr (pm2.trans pm)))
      rw [m1] at hfull go
      rcases R.tab.full with e | e | e | e
      · have e2 : L.length + 1 = 5 := by rw [e] at hfull hroom; omega
        exact go 31 (by rw [e2]; exact grown_5) (.inr (.inl rfl)) (by omega) (by omega)
      · have e2 : L.length + 1 = 19 := by rw [e] at hfull hroom; omega
        exact go 127 (by rw [e2]; exact grown_19) (.inr (.inr (.inl rfl))) (by omega) (by omega)
      · have e2 : L.length + 1 = 77 := by rw [e] at hfull hroom; omega
        exact go 511 (by rw [e2]; exact grown_77) (.inr (.inr (.inr rfl))) (by omega) (by omega)
      · exact absurd hfull (by rw [e]; omega)
    · first
        | refine wp_if_neg (by simp [hf]) ?_
        | (refine wpAny_bind ?_; refine wp_if_neg (by simp [hf]) ?_; refine wpAny_pure ?_)
      refine wpAny_pure (hQ true h1 L1 es1 (ep + 1) t1 sb ⟨⟨_, ho1, ⟨hex.1, hex.2.1, hex.2.2⟩, rfl⟩, hin, ⟨by rw [sz1, hlen], ris1, fun y hy => by rw [m1]; exact le1 y hy, hdm, by rw [m1]; exact R.tab.full, ?_⟩, p1, ld1, tup1⟩ (.inr pm))
      have h := hf
      unfold SetTable.tooFull at h
      rw [decide_eq_true_eq, fill1] at h
      rw [hlen]
      omega
end
theorem got_next {ks L L' : List (Addr × List Int)} {i : Nat} {x : Addr × List Int} (g : Got ks i L) (h : ks[i]? = some x) (c : (L' = L ∧ x.2 ∈ L.map (·.2)) ∨ L'.Perm (x :: L)) : Got ks (i + 1) L' := by
  rcases c with ⟨e, m⟩ | c
  · rw [e]
    exact g.same h m
  · exact g.more h c
section
variable {P : Program} {w : World} {A : Around} {E : Value → Shared → Prop} {s : Shared}
theorem SetW.keep {h h' : Heap} {a : Addr} {L : List (Addr × List Int)} {es : Array (Int × Value)} {ep : Nat} {t : SetTable} (R : SetW P w h a L es ep t) (ha : ∀ o, h.get? a = some o → h'.get? a = some o) (ht : ∀ p ∈ L, IsT P w h' p.2 p.1) : SetW P w h' a L es ep t := by
  obtain ⟨o, ho, r⟩ := R.ob
  exact ⟨⟨o, ha o ho, r⟩, R.rows, R.tab, R.plain, R.led, ht⟩
theorem setW_fresh {h : Heap} {a : Addr} (ho : h.get? a = some (freshSet w)) : SetW P w h a [] #[] 0 (.fresh 0 0 (!w.params.followText "set-order")) where
  ob := ⟨_, ho, ⟨rfl, rfl, rfl⟩, rfl⟩
  rows := rfl
  tab := ⟨rfl, List.Pairwise.nil, (fun x hx => by cases hx), rfl, .inl rfl, by show 0 * 5 < 7 * 3; decide⟩
  tup := fun p hp => by cases hp
  plain := rfl
  led := by
    show _ ∨ (!w.params.followText "set-order") = true
    cases w.params.followText "set-order"
    · exact .inr rfl
    · exact .inl rfl
theorem set_update_w {I : Addr} {fp wr : List Addr} {G : Array GenState → Array GenState → Prop} {n : Nat} {Pv : Nat → Value → Prop} {St : Nat → Shared → Prop} {R : Result → Shared → Prop}
    (W : WalksS P w A.in1 I fp wr G n Pv St) (S : Addr) (hSf : S ∉ fp) (ks : List (Addr × List Int)) (hn : n = ks.length) (hfew : ks.length ≤ 300) (hval : ∀ i v, Pv i v → ∃ p, ks[i]? = some p ∧ v = .ref p.1)
    (h0 : Heap) (hk : ∀ p ∈ ks, IsT P w h0 p.2 p.1) (hS0 : h0.get? S = none) (hw0 : ∀ b ∈ wr, h0.get? b = none) (hu : A.in1.units < cLine) :
    ∀ (k i : Nat) (s : Shared), n - i = k → i ≤ n → St i s → (∀ b o, h0.get? b = some o → s.heap.get? b = some o) → (∃ L es ep t, SetW P w s.heap S L es ep t ∧ Got ks i L) →
      (∀ s' L es ep t, Moved (S :: wr) G s s' → SetW P w s'.heap S L es ep t → Got ks n L → (∀ b o, h0.get? b = some o → s'.heap.get? b = some o) → R (.ok (.ret .none)) s') →
      codeAny (model P w) A (.builtin "set.update.loop" ⟨[.ref S, .ref I], []⟩) R s := by
  have hSw : S ∉ wr := fun h => hSf (W.sub _ h)
  have hsub : ∀ b ∈ wr, b ∈ S :: wr := fun b hb => List.mem_cons_of_mem _ hb
  have keepM : ∀ {s s' : Shared}, Moved wr G s s' → (∀ b o, h0.get? b = some o → s.heap.get? b = some o) → ∀ b o, h0.get? b = some o → s'.heap.get? b = some o := fun hm hkp b o e =>
    hm.heap b o (fun hb => by rw [hw0 b hb] at e; cases e) (hkp b o e)
  intro k
  induction k with
  | zero =>
    intro i s hk' hi hst hkp ⟨L, es, ep, t, hS, g⟩ hR
    have hin : i = n := by omega
    subst hin
    refine codeAny_builtin F.entry_set_update_loop ?_
    rw [Around.under_plainId F.plain_set_update_loop _]
    show wpAny _ A.in1 (pyNext (.ref I) >>= _) _ _ s
    refine wpAny_bind (W.done s _ _ hst fun s' hm => ?_)
    show wpAny _ A.in1 (ret Value.none) _ _ s'
    have hkp' := keepM hm hkp
    exact wpAny_pure (hR s' L es ep t (hm.mono hsub) (hS.keep (fun o e => hm.heap S o hSw e) fun p hp => isT_keep (hk p (List.mem_of_mem_take (g.sub p hp))) hkp') g hkp')
  | succ k ih =>
    intro i s hk' hi hst hkp ⟨L, es, ep, t, hS, g⟩ hR
    have hlt : i < n := by omega
    refine codeAny_builtin F.entry_set_update_loop ?_
    rw [Around.under_plainId F.plain_set_update_loop _]
    show wpAny _ A.in1 (pyNext (.ref I) >>= _) _ _ s
    refine wpAny_bind (W.item i s _ _ hlt hst fun v s' hP hst' hm => ?_)
    obtain ⟨p, hp, rfl⟩ := hval i v hP
    have hkp' := keepM hm hkp
    have hS' : SetW P w s'.heap S L es ep t := hS.keep (fun o e => hm.heap S o hSw e) fun q hq => isT_keep (hk q (List.mem_of_mem_take (g.sub q hq))) hkp'
    have hx : IsT P w s'.heap p.2 p.1 := isT_keep (hk p (List.mem_of_getElem? hp)) hkp'
    show wpAny _ A.in1 (holding [Value.ref p.1] (setAdd S (.ref p.1)) >>= _) _ _ s'
    refine wpAny_bind (wpAny_holding ?_)
    unfold setAdd
    refine wpAny_holding ?_
    refine wpAny_bind (wpAny_pyHash_tuple hu hx ?_)
    refine add_w (s := { s' with toks := s'.toks + (p.2.length + 1) }) hS' hx hu (by have := g.len; omega) fun b h' L' es' ep' t' hsb hS2 c => ?_
    have g' : Got ks (i + 1) L' := got_next g hp c
    have hkp2 : ∀ b o, h0.get? b = some o → h'.get? b = some o := fun b o e => (hsb.2 b (fun z => by rw [z, hS0] at e; cases e)).trans (hkp' b o e)
    refine wpAny_pure ⟨plainId_quiet F.plain_set_update_loop _, ih (i + 1) _ (by omega) hlt (W.frame _ s' _ _ hst' (Nat.le_add_right _ _) fun b hb o e => ?_) hkp2 ⟨L', es', ep', t', hS2, g'⟩ fun s'' L2 es2 ep2 t2 hm'' hS'' g'' hkp'' => ?_⟩
    · rw [hsb.2 b (fun h : b = S => hSf (by rw [← h]; exact hb))]; exact e
    · refine hR s'' L2 es2 ep2 t2 (Moved.trans W.gtrans ((hm.mono hsub).then_heap (Nat.le_add_right _ _) fun b o hb e => ?_) hm'') hS'' g'' hkp''
      rw [hsb.2 b (fun h : b = S => hb (by rw [h]; exact List.mem_cons_self))]; exact e
theorem call_set_w {l : Addr} {items : Array Value} (ks : List (Addr × List Int)) {Q : Value → Shared → Prop} (hh : A.handled = none) (hl : s.heap.IsList l items) (hit : items.toList = ks.map fun p => Value.ref p.1)
    (hk : ∀ p ∈ ks, IsT P w s.heap p.2 p.1) (hfew : ks.length ≤ 300) (hu : A.units + 3 < cLine)
    (h : ∀ (h' : Heap) (tk : Nat) L es ep t, SetW P w h' s.heap.objs.size L es ep t → Got ks ks.length L → (∀ b o, s.heap.get? b = some o → h'.get? b = some o) → Q (.ref s.heap.objs.size) { s with heap := h', toks := tk }) :
    wpAny (model P w) A (call (.type "set") [.ref l]) Q E s := by
  have hisz : items.size = ks.length := by
    have q := congrArg List.length hit
    rw [Array.length_toList, List.length_map] at q
    exact q
  obtain ⟨c, tl, hmro⟩ := F.called_set.mro
  have hmade := F.called_set.made
  have hsub := F.called_set.sub
  refine wpAny_call (codeAny_of_tree ?_)
  show wpAny _ _ (callAny (.type "set") _) _ _ _
  refine wpAny_pure ⟨Code.quiet_builtin _ (by decide +kernel), codeAny_builtin PySem.F.entry_type_call ?_⟩
  rw [Around.under_plain (weight_type_call_type "set" [.ref l] []) rfl]
  have h1 := F.called_set.notType
  have h2 := F.called_set.canCreate
  have hct := F.typeCall_set_1 (.ref l)
  repeat (any_goals (first | assumption | wp_step))
  refine codeAny_mono (code_set_led1 (.ref l) (E := E) (Q₁ := fun obj s₁ => obj = .ref s.heap.objs.size ∧ s₁ = { s with heap := s.heap.push (freshSet w) }) ⟨rfl, rfl⟩) fun r s₁ hr => ?_
  cases r with
  | error e => exact hr
  | ok fl =>
    cases fl with
    | ret obj =>
      obtain ⟨rfl, rfl⟩ := hr
      have hS : (s.heap.push (freshSet w)).get? s.heap.objs.size = some (freshSet w) := Heap.get?_push_size _ rfl
      have hT : Shared.TypeIs { s with heap := s.heap.push (freshSet w) } (.ref s.heap.objs.size) "set" := ⟨_, hS, rfl⟩
      have hli := F.called_set.init.lookup
      have hbi := F.called_set.init.bind (.ref s.heap.objs.size)
      repeat (any_goals (first | assumption | wp_step))
      refine codeAny_mono (codeAny_call_builtin (R := wants (fun r s₂ => r = .none ∧ ∃ h' tk L es ep t, s₂ = { s with heap := h', toks := tk } ∧ SetW P w h' s.heap.objs.size L es ep t ∧ Got ks ks.length L ∧
          (∀ b o, s.heap.get? b = some o → h'.get? b = some o)) E) F.called_set.init.plain F.entry_set_init (check_set_init_1 hT ?_)) fun r₂ s₂ hr₂ => ?_
      · obtain ⟨ol, hol, hcl, nl, hdl⟩ := hl
        obtain ⟨ocls, odict, odata, oslots⟩ := ol
        simp only at hcl hdl
        subst hcl
        subst hdl
        have hol' : (s.heap.push (freshSet w)).get? l = some { cls := .type "list", dict := odict, data := .seq items nl, slots := oslots } := Heap.get?_push_of_some _ hol
        have hsls := PySem.F.sub_list_set
        have hslf := PySem.F.sub_list_frozenset
        have hne : (Value.type "list" == Value.type "dict") = false := by decide
        have hl1 : (s.heap.push (freshSet w)).IsList l items := ⟨_, hol', rfl, nl, rfl⟩
        unfold Builtin.«set.__init__» noKeywords Builtin.Frozenset.updateFrom
        generalize hPI : pyIter = PI
        wp_walk
        subst hPI
        refine wpAny_pyIter_list hl1 ?_
        refine wpAny_bind (wpAny_runValue ?_)
        have hlS : l < s.heap.objs.size := Heap.lt_size hol
        have hh3 : A.in1.in1.in1.handled = none := by simp [hh]
        have hz1 : (s.heap.push (freshSet w)).objs.size = s.heap.objs.size + 1 := Heap.size_push ..
        have hneI : l ≠ (s.heap.push (freshSet w)).objs.size := by
          rw [hz1]
          exact Nat.ne_of_lt (Nat.lt_succ_of_lt hlS)
        have hSf : s.heap.objs.size ∉ [(s.heap.push (freshSet w)).objs.size, l] := by
          rw [hz1]
          intro hm
          rcases List.mem_cons.mp hm with q | q
          · exact absurd q (Nat.ne_of_lt (Nat.lt_succ_self _))
          · exact absurd (List.mem_singleton.mp q) (Nat.ne_of_gt hlS)
        have hval : ∀ (i : Nat) (v : Value), items[i]? = some v → ∃ p, ks[i]? = some p ∧ v = .ref p.1 := fun i v hv => by
          have q : items.toList[i]? = some v := by rw [Array.getElem?_toList]; exact hv
          rw [hit, List.getElem?_map] at q
          cases hq : ks[i]? with
          | none => rw [hq] at q; cases q
          | some p =>
            rw [hq] at q
            exact ⟨p, rfl, (Option.some.inj q).symm⟩
        have none_of : ∀ b, s.heap.objs.size ≤ b → s.heap.get? b = none := fun b hb => by
          cases q : s.heap.get? b with
          | none => rfl
          | some o => exact absurd (Nat.lt_of_lt_of_le (Heap.lt_size q) hb) (Nat.lt_irrefl _)
        refine set_update_w ((Walks.list hh3 _ l hneI items).toS) s.heap.objs.size hSf ks hisz hfew hval s.heap hk (none_of _ (Nat.le_refl _)) (fun b hb => none_of b (by
            rw [List.mem_singleton.mp hb, hz1]
            exact Nat.le_succ _)) hu (items.size - 0) 0 _ (by omega) (Nat.zero_le _)
          ⟨⟨_, Heap.get?_push_size _ rfl, rfl, rfl⟩, (hl1.push _)⟩ (fun b o e => Heap.get?_push_of_some _ (Heap.get?_push_of_some _ e)) ?hS0 ?hR
        case hS0 =>
          exact ⟨[], #[], 0, _, setW_fresh (Heap.get?_push_of_some _ hS), Got.zero ks⟩
        case hR =>
          intro s' L es ep t hm hS' g' hkp
          obtain ⟨h', g2, d', tk', os'⟩ := s'
          have eg : g2 = s.gens := hm.gens
          have ed : d' = s.drawn := hm.drawn
          have eo : os' = s.os := hm.os
          subst eg; subst ed; subst eo
          show wpAny _ _ _ _ _ _
          refine wpAny_pure ?_
          show wpAny _ _ (ret Value.none) _ _ _
          rw [hisz] at g'
          exact wpAny_pure ⟨rfl, h', tk', L, es, ep, t, rfl, hS', g', hkp⟩
      · cases r₂ with
        | error e => exact hr₂
        | ok fl₂ =>
          cases fl₂ with
          | ret r =>
            obtain ⟨rfl, h', tk, L, es, ep, t, rfl, hS', g', hk'⟩ := hr₂
            repeat (any_goals (first | assumption | wp_step))
            exact h _ _ _ _ _ _ hS' g' hk'
          | _ => exact hr₂.elim
    | _ => exact hr.elim
end
/-- the set at a, without the tuples themselves -/
def SetW0 (P : Program) (w : World) (h : Heap) (a : Addr) (L : List (Addr × List Int)) : Prop :=
  ∃ (es : Array (Int × Value)) (ep : Nat) (t : SetTable), (∃ o, h.get? a = some o ∧ o.ExactSet ∧ o.data = .set es ep t) ∧ es.toList = rowsOf P w L ∧ TabW t L.length ∧ t.plain = true ∧ (w.params.followText "set-order" = true ∨ t.led = true)
def SetWO (P : Program) (w : World) (a : Addr) (L : List (Addr × List Int)) : HO := .ext fun h => SetW0 P w h a L
theorem SetW.bare {P : Program} {w : World} {h : Heap} {a : Addr} {L : List (Addr × List Int)} {es : Array (Int × Value)} {ep : Nat} {t : SetTable} (R : SetW P w h a L es ep t) : SetW0 P w h a L := ⟨es, ep, t, R.ob, R.rows, R.tab, R.plain, R.led⟩
theorem SetW0.full {P : Program} {w : World} {h : Heap} {a : Addr} {L : List (Addr × List Int)} (R : SetW0 P w h a L) (ht : ∀ p ∈ L, IsT P w h p.2 p.1) : ∃ es ep t, SetW P w h a L es ep t := by
  obtain ⟨es, ep, t, h1, h2, h3, h4, h5⟩ := R
  exact ⟨es, ep, t, h1, h2, h3, h4, h5, ht⟩
theorem setWO_new {P : Program} {w : World} {H : Hp} {h : Heap} {a : Addr} {L : List (Addr × List Int)} (R : SetW0 P w h a L) : ObjOk P w H h a (SetWO P w a L) := by
  have ⟨es, ep, t, ⟨o, ho, r⟩, q⟩ := R
  refine ⟨R, ⟨o, ho⟩, fun h1 h2 p k => ?_⟩
  have ⟨es', ep', t', ⟨o', ho', r'⟩, q'⟩ := p
  exact ⟨es', ep', t', ⟨o', k o' ho', r'⟩, q'⟩
section
variable {X : Cx}
/-- set(xs), xs a list of up to 300 tuples of ints: L has the same keys -/
def rSetOfW (K : PySem.W.Frag) (P : Program) (w : World) : List V → Hp → VK → Prop := fun xs H Q => ∃ (l : Addr) (ks : List (Addr × List Int)), xs = [V.ref l] ∧ SqL K H l (ks.map fun p => V.ref p.1) ∧ (∀ p ∈ ks, SqT K H p.1 (p.2.map V.int)) ∧ ks.length ≤ 300 ∧
  ∀ a L, H a = none → (∀ p ∈ L, p ∈ ks) → (∀ p ∈ ks, p.2 ∈ L.map (·.2)) → L.length ≤ ks.length → Q (.ref a) (upd H a (SetWO P w a L))
theorem cr_setOfW (hc : X.calm = true) (hu : X.A.units + 64 < cLine) : CallR X (.type "set") (rSetOfW X.K X.prog X.w) := by
  intro pins s σ H xs us Q I r h
  obtain ⟨l, ks, rfl, hl, hk, hf, q⟩ := h
  rw [Vals.ref1 r]
  obtain ⟨its, rv, pl, hz⟩ := I.list hl
  have hn : H s.heap.objs.size = none := I.hok.fresh (Nat.le_refl _)
  refine call_set_w (P := X.prog) (w := X.w) ks (I.ok.hd hc) pl.isList (by simpa using refs_of_vals rv) (fun p hp => I.isT (hk p hp)) hf (by omega) fun h' tk L es ep t R g k => ?_
  refine ⟨.ref s.heap.objs.size, upd H s.heap.objs.size (SetWO X.prog X.w s.heap.objs.size L), I.laid (t' := tk) k (Nat.le_refl _) (setWO_new R.bare), rfl, q _ L hn (fun p hp => ?_) (fun p hp => ?_) g.len⟩
  · exact List.mem_of_mem_take (g.sub p hp)
  · exact g.all p (by rw [List.take_length]; exact hp)
end
end FM
set_option maxRecDepth 100000
set_option maxHeartbeats 2000000
namespace FM
open PySem PySem.Spec PyProof.Rows L2
section
variable {X : Cx}
/-- each item with how it is read -/
abbrev DP := V × PyData
def byData (ps : List DP) : List DP := ps.mergeSort (PySem.W.dataLe false fun p : DP => p.2)
theorem byData_perm (ps : List DP) : (byData ps).Perm ps := List.mergeSort_perm ..
theorem vals_eachD {its : List Value} : ∀ {ps : List DP}, Vals (ps.map (·.1)) its → PySem.W.EachIs (fun v (p : DP) => RelV p.1 v) its ps := by
  induction its with
  | nil =>
    intro ps r
    cases ps with
    | nil => exact .nil
    | cons _ _ => cases r
  | cons v r0 ih =>
    intro ps r
    cases ps with
    | nil => cases r
    | cons p q =>
      cases r with
      | cons h t => exact .cons h (ih t)
theorem each_valsD {its : List Value} {ps : List DP} (h : PySem.W.EachIs (fun v (p : DP) => RelV p.1 v) its ps) : Vals (ps.map (·.1)) its := by
  induction h with
  | nil => exact .nil
  | cons e _ ih => exact .cons e ih
/-- sorted(xs) -/
def rSortD (K : PySem.W.Frag) : List V → Hp → VK → Prop := fun vs H Q => ∃ (a : Addr) (ps : List DP), vs = [.ref a] ∧ SqL K H a (ps.map (·.1)) ∧ (∀ p ∈ ps, Dp K H p.1 p.2) ∧ PySem.W.AllAlike (ps.map (·.2)) ∧ PySem.W.Sortable (ps.map (·.2)) ∧ (∀ p ∈ ps, p.2.depth ≤ 3) ∧ ps.length ≤ 1000 ∧
  ∀ q, H q = none → Q (.ref q) (upd H q (.lst ((byData ps).map (·.1))))
theorem cr_sortD (hu : X.A.units + 64 < cLine) : CallR X (.builtin "sorted") (rSortD X.K) := by
  intro pins s σ H vs us Q I r h
  obtain ⟨a, ps, rfl, ha, hp, hal, hk, hd, hl, q⟩ := h
  rw [Vals.ref1 r]
  obtain ⟨its, rv, pl, _⟩ := I.list ha
  have eR := vals_eachD rv
  have er : PySem.W.EachIs (fun v (p : DP) => ∃ as, Reads s.heap v p.2 as) its ps := each_mem2 eR fun v p hm rp => Dp.reads I _ _ _ (hp p hm) rp
  refine PySem.W.sorted_data (enc := fun p : DP => p.2) pl.isList eR er hal hk (by rw [sizeLine_eq]; omega) (fun b hb => ?_) fun out hout ho => ?_
  · have := hd b hb
    omega
  · obtain ⟨ep, he'⟩ := PyProof.Rows.sortedAll_at s.heap its out.toArray
    have hml : (byData ps).length = ps.length := List.length_mergeSort ps
    have hbl : ((byData ps).map (·.1)).length ≤ sizeLine := by rw [List.length_map, hml, sizeLine_eq]; omega
    exact ⟨.ref _, upd H (s.heap.objs.size + 1) (.lst ((byData ps).map (·.1))), I.laid (t' := s.toks) (fun _ _ => PyProof.Rows.sortedAll_old) (Nat.le_succ _) ⟨hbl, out, ep, each_valsD ho, he'⟩, rfl, q _ (I.hok.fresh (Nat.le_succ _))⟩
end
def encT (p : Addr × List Int) : PyData := .tuple (p.2.map .int)
def byTup (L : List (Addr × List Int)) : List (Addr × List Int) := L.mergeSort (PySem.W.dataLe false encT)
theorem perm_map {α β : Type} (f : α → β) {vs ws : List β} (h : vs.Perm ws) : ∀ L : List α, ws = L.map f → ∃ L1 : List α, L1.Perm L ∧ vs = L1.map f := by
  induction h with
  | nil =>
    intro L e
    cases L with
    | nil => exact ⟨[], .refl _, rfl⟩
    | cons _ _ => cases e
  | cons x h ih =>
    intro L e
    cases L with
    | nil => cases e
    | cons y L =>
      rw [List.map_cons] at e
      injection e with e1 e2
      obtain ⟨L1, p, q⟩ := ih L e2
      exact ⟨y :: L1, p.cons y, by rw [List.map_cons, e1, q]⟩
  | swap x y l =>
    intro L e
    cases L with
    | nil => cases e
    | cons a L =>
      cases L with
      | nil => cases e
      | cons b L =>
        rw [List.map_cons, List.map_cons] at e
        injection e with e1 e2
        injection e2 with e2 e3
        exact ⟨b :: a :: L, .swap a b L, by rw [List.map_cons, List.map_cons, e1, e2, e3]⟩
  | trans h1 h2 i1 i2 =>
    intro L e
    obtain ⟨L1, p1, q1⟩ := i2 L e
    obtain ⟨L2, p2, q2⟩ := i1 L1 q1
    exact ⟨L2, p2.trans p1, q2⟩
theorem each_refs : ∀ L : List (Addr × List Int), PySem.W.EachIs (fun v (p : Addr × List Int) => v = Value.ref p.1) (L.map fun p => Value.ref p.1) L
  | [] => .nil
  | p :: L => .cons rfl (each_refs L)
theorem refs_each {out : List Value} {L : List (Addr × List Int)} (h : PySem.W.EachIs (fun v (p : Addr × List Int) => v = Value.ref p.1) out L) : out = L.map fun p => Value.ref p.1 := by
  induction h with
  | nil => rfl
  | cons e _ ih => rw [List.map_cons, e, ih]
section
variable {P : Program} {w : World} {A : Around} {E : Value → Shared → Prop} {s : Shared}
theorem sorted_w {a : Addr} {L : List (Addr × List Int)} {es : Array (Int × Value)} {ep : Nat} {t : SetTable} {Q : Value → Shared → Prop} (R : SetW P w s.heap a L es ep t) (hh : A.handled = none) (few : L.length ≤ 300)
    (hr : ∀ p ∈ L, ∃ as, Reads s.heap (.ref p.1) (encT p) as) (hz : ∀ p ∈ L, p.2 ≠ []) (hu : A.units + 64 < cLine)
    (hQ : ∀ s' q (L' : List (Addr × List Int)) (c : Nat), (∀ b o, s.heap.get? b = some o → s'.heap.get? b = some o) → s'.gens = s.gens → s'.os = s.os → s.heap.objs.size ≤ q →
      s'.heap.get? q = some (seqObj "list" ((byTup L').map fun p => Value.ref p.1).toArray c) → L'.Perm L → Q (.ref q) s') :
    wpAny (model P w) A (call (.builtin "sorted") [.ref a]) Q E s := by
  obtain ⟨o, ho, hex, hd⟩ := R.ob
  have hsz := rows_size R.rows
  refine Calls.call_function_entry kind_sorted plain_sorted entry_sorted (args_sorted1 _) ?_
  unfold Builtin.«sorted»
  refine wpAny_bind (m := checkCount "sorted" 1 1 _) (wpAny_pure ?_)
  refine wpAny_bind (collect_set (A := A.in1) hh ⟨o, ho, hex.1, hd⟩ R.fits (by unfold scanBound; omega) R.tab.ris R.led fun s1 vs k1 hz1 g1 o1 pm => ?_)
  have hes : es.toList.map (·.2) = L.map fun q => Value.ref q.1 := by
    rw [R.rows]
    unfold rowsOf
    rw [List.map_map]
    rfl
  rw [hes] at pm
  obtain ⟨L1, pL, rfl⟩ := perm_map (fun q : Addr × List Int => Value.ref q.1) pm L rfl
  have len1 : (L1.map fun q => Value.ref q.1).length ≤ 300 := by rw [List.length_map, pL.length_eq]; exact few
  have big : (1000 : Nat) ≤ sizeLine := by decide
  refine wpAny_bind (wpAny_newList ?_ (by omega))
  generalize hvs : (L1.map fun q => Value.ref q.1) = vs at len1
  have hoL : (s1.heap.push (seqObj "list" vs.toArray 0)).get? s1.heap.objs.size = some (seqObj "list" vs.toArray 0) := Heap.get?_push_size _ rfl
  have kS : ∀ b u, s.heap.get? b = some u → (PySem.W.sortingHeap (s1.heap.push (seqObj "list" vs.toArray 0)) s1.heap.objs.size vs).get? b = some u := fun b u e => by
    have q := k1 b u e
    exact PySem.W.sortingHeap_old (Nat.ne_of_lt (Heap.lt_size q)) (Heap.get?_push_of_some _ q)
  have eR : PySem.W.EachIs (fun v (p : Addr × List Int) => v = Value.ref p.1) vs L1 := by rw [← hvs]; exact each_refs L1
  have er : PySem.W.EachIs (fun v (p : Addr × List Int) => ∃ as, Reads (PySem.W.sortingHeap (s1.heap.push (seqObj "list" vs.toArray 0)) s1.heap.objs.size vs) v (encT p) as) vs L1 := each_mem2 eR fun v p hm e => by
    obtain ⟨as, r⟩ := hr p (pL.mem_iff.mp hm)
    rw [e]
    exact ⟨as, PyProof.Rows.Reads.keeps kS r⟩
  have hal : PySem.W.AllAlike (L1.map encT) := PySem.W.AllAlike.of fun b b' => by
    show PySem.W.alike (.tuple _) (.tuple _) = true
    rw [PySem.W.alike]
    exact PySem.W.alike_ints _ _
  have hk : PySem.W.Sortable (L1.map encT) := .inl fun d hd => by
    obtain ⟨p, hp, rfl⟩ := List.mem_map.mp hd
    have nz := hz p (pL.mem_iff.mp hp)
    cases e : p.2 with
    | nil => exact absurd e nz
    | cons x r => exact ⟨.int x, r.map .int, by unfold encT; rw [e]; rfl⟩
  refine wpAny_bind (wpAny_holding ?_)
  refine wpAny_call_entry PyProof.Rows.slot_list_sort ⟨_, hoL, rfl⟩ PyProof.Rows.entry_list_sort (PySem.W.list_sort_vals (s := { s1 with heap := s1.heap.push (seqObj "list" vs.toArray 0) }) (κ := PySem.W.dataKind (PySem.W.sortingHeap (s1.heap.push (seqObj "list" vs.toArray 0)) s1.heap.objs.size vs) (L1.map encT)) hoL
    (PySem.W.SortsAt.data (s := { s1 with heap := PySem.W.sortingHeap (s1.heap.push (seqObj "list" vs.toArray 0)) s1.heap.objs.size vs }) (PySem.W.each_map (R := fun v d => ∃ as, Reads (PySem.W.sortingHeap (s1.heap.push (seqObj "list" vs.toArray 0)) s1.heap.objs.size vs) v d as) encT er) hal hk (PySem.W.bound_map fun p _ => ?_)) (by omega) ⟨.none, rfl, ?_⟩) (PyProof.Rows.args_list_sort _)
  · have : (encT p).depth ≤ 2 := by
      unfold encT
      rw [PyData.depth, PySem.W.depth_ints]
      omega
    have e2 : A.in1.in1.units = A.units + 2 := rfl
    omega
  · have rs := refs_each (PySem.W.sortVals_data false eR er hal)
    generalize PySem.W.sortVals (PySem.W.dataKind (PySem.W.sortingHeap (s1.heap.push (seqObj "list" vs.toArray 0)) s1.heap.objs.size vs) (L1.map encT)) false vs vs = out at rs ⊢
    obtain ⟨c, hc⟩ := PyProof.Rows.sortedHeap_at (vs := vs) (out := out.toArray) hoL
    rw [rs] at hc ⊢
    refine wpAny_pure ⟨_, rfl, hQ _ s1.heap.objs.size L1 c (fun b u e => ?_) g1 o1 hz1 hc pL⟩
    have q := k1 b u e
    have hlt := Heap.lt_size q
    rw [PyProof.Rows.sortedHeap_old (Nat.ne_of_lt hlt) (by rw [size_push']; exact Nat.lt_succ_of_lt hlt)]
    exact Heap.get?_push_of_some _ q
end
section
variable {X : Cx}
theorem dp_ints {K : PySem.W.Frag} {H : Hp} {a : Addr} {k : List Int} (h : SqT K H a (k.map V.int)) : Dp K H (.ref a) (.tuple (k.map .int)) := by
  refine .tup h ?_
  clear h
  induction k with
  | nil => exact .nil
  | cons x k ih => exact .cons (.int x) ih
/-- sorted(a set of tuples of ints) -/
def rSortW (K : PySem.W.Frag) (P : Program) (w : World) : List V → Hp → VK → Prop := fun vs H Q => ∃ (a : Addr) (L : List (Addr × List Int)), vs = [V.ref a] ∧ H a = some (SetWO P w a L) ∧ (∀ p ∈ L, SqT K H p.1 (p.2.map V.int) ∧ p.2 ≠ []) ∧ L.length ≤ 300 ∧
  ∀ (L' : List (Addr × List Int)) (p : Addr), L'.Perm L → H p = none → Q (.ref p) (upd H p (.lst ((byTup L').map fun q => V.ref q.1)))
theorem cr_sortW (hc : X.calm = true) (hu : X.A.units + 64 < cLine) : CallR X (.builtin "sorted") (rSortW X.K X.prog X.w) := by
  intro pins s σ H vs us Q I r h
  obtain ⟨a, L, rfl, ha, hk, few, q⟩ := h
  have R0 : SetW0 X.prog X.w s.heap a L := (I.hok a _ ha).1
  obtain ⟨es, ep, t, R⟩ := R0.full fun p hp => I.isT (hk p hp).1
  rw [Vals.ref1 r]
  refine sorted_w R (I.ok.hd hc) few (fun p hp => Dp.reads I _ _ _ (dp_ints (hk p hp).1) rfl) (fun p hp => (hk p hp).2) hu fun s' p L' c k g o hp hg pm => ?_
  have hml : (byTup L').length = L'.length := List.length_mergeSort L'
  have hlen : ((byTup L').map fun q => V.ref q.1).length ≤ sizeLine := by rw [List.length_map, hml, pm.length_eq, sizeLine_eq]; omega
  have hn : H p = none := I.hok.fresh hp
  have J : Inv X pins σ (upd H p (.lst ((byTup L').map fun q => V.ref q.1))) { s with heap := s'.heap, gens := s'.gens, drawn := s'.drawn, toks := s'.toks } :=
    I.call (ch := []) (Un.laid k hp hn) (I.hok.laid k hp ⟨hlen, _, c, vals_of_refs _, hg⟩) (by rw [g]; exact I.bare) (fun _ z => nomatch z)
  have e : s' = { s with heap := s'.heap, gens := s'.gens, drawn := s'.drawn, toks := s'.toks } := by
    cases s'
    cases s
    cases o
    rfl
  rw [e]
  exact ⟨.ref p, _, J, rfl, q L' p pm hn⟩
end
end FM
set_option maxRecDepth 100000
set_option maxHeartbeats 2000000
namespace FM
open PySem PySem.Spec PyProof.Rows L2
end FM
set_option maxRecDepth 100000
set_option maxHeartbeats 2000000
namespace FM
open PySem PySem.Spec PyProof.Rows L2
def keyD : Key → PyData
  | .inl i => .int i
  | .inr z => .str z
def keysD (ks : List Key) : PyData := .tuple (ks.map keyD)
theorem dp_keys {K : PySem.W.Frag} {H : Hp} {b : Addr} {ks : List Key} (h : H b = some (.tup (ks.map kV))) : Dp K H (.ref b) (keysD ks) := by
  refine .tup (SqT.of h) ?_
  clear h
  induction ks with
  | nil => exact .nil
  | cons x ks ih =>
    cases x with
    | inl i => exact .cons (.int i) ih
    | inr z => exact .cons (.str z) ih
/-- the key tuples at bs, each with how it is read -/
def KeysAt (H : Hp) (kss : List (List Key)) (ps : List DP) : Prop := ps.map (·.2) = kss.map keysD ∧ ∀ p ∈ ps, ∃ b k, p.1 = .ref b ∧ H b = some (.tup (k.map kV)) ∧ p.2 = keysD k
theorem keysAt_of {H : Hp} {kvs : List (List Key × V)} {xs : List (List Key × Addr × Value)} (r : KT H kvs xs) : KeysAt H (kvs.map (·.1)) (xs.map fun x => (V.ref x.2.1, keysD x.1)) := by
  induction r with
  | nil => exact ⟨rfl, fun p hp => by cases hp⟩
  | @cons x y xs' ys' h t ih =>
    refine ⟨?_, fun p hp => ?_⟩
    · rw [List.map_cons, List.map_cons, List.map_cons, List.map_cons, ← ih.1]
      rw [h.1]
    · rcases List.mem_cons.mp hp with e | hp
      · refine ⟨y.2.1, y.1, by rw [e], ?_, by rw [e]⟩
        rw [← h.1]
        exact h.2.1
      · exact ih.2 p hp
section
variable {X : Cx}
def rSortDT : List V → Hp → VK → Prop := fun vs H Q => ∃ (d : Addr) (kvs : List (List Key × V)), vs = [.ref d] ∧ Rd H d (.dT kvs) ∧ PySem.W.AllAlike ((kvs.map (·.1)).map keysD) ∧ PySem.W.Sortable ((kvs.map (·.1)).map keysD) ∧ (∀ p ∈ kvs, (keysD p.1).depth ≤ 3) ∧ kvs.length ≤ 1000 ∧
  ∀ (ps : List DP) q, H q = none → KeysAt H (kvs.map (·.1)) ps → Q (.ref q) (upd H q (.lst ((byData ps).map (·.1))))
theorem cr_sortDT (hc : X.calm = true) (hu : X.A.units + 64 < cLine) : CallR X (.builtin "sorted") rSortDT := by
  intro pins s σ H xs us Q I r h
  obtain ⟨d, kvs, rfl, hd, hal, hsk, hdp, few, q⟩ := h
  obtain ⟨u, rfl, rx⟩ := r.one
  cases rx
  obtain ⟨z, hs, ks, pr, o, es, ep, ho, hx, hdt, he, hn⟩ := (show ObjOk X.prog X.w H s.heap d (.dT kvs) from hd.ok I.hok)
  have l1 : es.size = ks.length := size_of_entries he
  have l2 : kvs.length = ks.length := Paired.length pr
  have big : (1000 : Nat) ≤ sizeLine := by decide
  have KA := keysAt_of pr
  have lps : (ks.map fun x => ((V.ref x.2.1, keysD x.1) : DP)).length = kvs.length := by rw [List.length_map, l2]
  refine Calls.call_function_entry kind_sorted plain_sorted entry_sorted (args_sorted1 _) ?_
  unfold Builtin.«sorted»
  refine wpAny_bind (m := checkCount "sorted" 1 1 _) (wpAny_pure ?_)
  refine wpAny_bind (PySem.W.kdu_collect (A := X.A.in1) (kdl_raw hs hx hdt) (I.ok.hd hc) ho (by omega) fun h' tk acc' kp it => ?_)
  have ea : acc'.toList = ks.map fun x => Value.ref x.2.1 := by
    have hl : acc'.toList.length = ks.length := by rw [Array.length_toList, it.1]; exact l1
    apply List.ext_getElem?
    intro j
    rw [List.getElem?_map]
    cases hj : acc'.toList[j]? with
    | none =>
      have h1 := List.getElem?_eq_none_iff.mp hj
      rw [List.getElem?_eq_none (by omega)]
      rfl
    | some v =>
      obtain ⟨en, hen, hv⟩ := it.2 j v (by rw [← Array.getElem?_toList]; exact hj)
      have qe := entry_at he j
      rw [hen] at qe
      cases hb : ks[j]? with
      | none =>
        rw [hb] at qe
        exact nomatch (show some en = none from qe)
      | some b =>
        rw [hb] at qe
        have e2 : en = entryOfKey (tupleKind (mixKind X.prog X.w)) b := Option.some.inj qe
        rw [hv, e2]
        rfl
  rw [ea]
  have I1 : Inv X pins σ H { s with heap := h', toks := tk } := I.kept kp
  generalize hps : (ks.map fun x => ((V.ref x.2.1, keysD x.1) : DP)) = ps at KA lps
  have hvs : (ks.map fun x => Value.ref x.2.1) = ps.map fun p : DP => match p.1 with | .ref b => Value.ref b | _ => Value.none := by
    rw [← hps, List.map_map]
    rfl
  generalize (ks.map fun x => Value.ref x.2.1) = vs at hvs
  have lvs : vs.length = kvs.length := by rw [hvs, List.length_map, lps]
  have eR : PySem.W.EachIs (fun v (p : DP) => RelV p.1 v) vs ps := by
    have all : ∀ p ∈ ps, ∃ b, p.1 = V.ref b := fun p hp => (KA.2 p hp).elim fun b h => h.elim fun k h => ⟨b, h.1⟩
    rw [hvs]
    clear hvs lvs lps KA hps
    induction ps with
    | nil => exact .nil
    | cons p ps ih =>
      refine .cons ?_ (ih fun p hp => all p (List.mem_cons_of_mem _ hp))
      obtain ⟨b, e⟩ := all p List.mem_cons_self
      show RelV p.1 (match p.1 with | .ref b => Value.ref b | _ => Value.none)
      rw [e]
      exact rfl
  refine wpAny_bind (wpAny_newList ?_ (by rw [lvs]; omega))
  have hoL : (h'.push (seqObj "list" vs.toArray 0)).get? h'.objs.size = some (seqObj "list" vs.toArray 0) := Heap.get?_push_size _ rfl
  have kS : ∀ b u, h'.get? b = some u → (PySem.W.sortingHeap (h'.push (seqObj "list" vs.toArray 0)) h'.objs.size vs).get? b = some u := fun b u e =>
    PySem.W.sortingHeap_old (Nat.ne_of_lt (Heap.lt_size e)) (Heap.get?_push_of_some _ e)
  have er : PySem.W.EachIs (fun v (p : DP) => ∃ as, Reads (PySem.W.sortingHeap (h'.push (seqObj "list" vs.toArray 0)) h'.objs.size vs) v p.2 as) vs ps := each_mem2 eR fun v p hm e => by
    obtain ⟨b, k, e1, e2, e3⟩ := KA.2 p hm
    have dp : Dp X.K H p.1 p.2 := by
      rw [e1, e3]
      exact dp_keys e2
    obtain ⟨as, rd⟩ := Dp.reads I1 _ _ _ dp e
    exact ⟨as, PyProof.Rows.Reads.keeps kS rd⟩
  rw [← KA.1] at hal hsk
  refine wpAny_bind (wpAny_holding ?_)
  refine wpAny_call_entry PyProof.Rows.slot_list_sort ⟨_, hoL, rfl⟩ PyProof.Rows.entry_list_sort (PySem.W.list_sort_vals (s := { s with heap := h'.push (seqObj "list" vs.toArray 0), toks := tk }) (κ := PySem.W.dataKind (PySem.W.sortingHeap (h'.push (seqObj "list" vs.toArray 0)) h'.objs.size vs) (ps.map fun p : DP => p.2)) hoL
    (PySem.W.SortsAt.data (s := { s with heap := PySem.W.sortingHeap (h'.push (seqObj "list" vs.toArray 0)) h'.objs.size vs, toks := tk }) (PySem.W.each_map (R := fun v d => ∃ as, Reads (PySem.W.sortingHeap (h'.push (seqObj "list" vs.toArray 0)) h'.objs.size vs) v d as) (fun p : DP => p.2) er) hal hsk (PySem.W.bound_map fun p hp => ?_)) (by omega) ⟨.none, rfl, ?_⟩) (PyProof.Rows.args_list_sort _)
  · have e2 : X.A.in1.in1.units = X.A.units + 2 := rfl
    have dq : p.2.depth ≤ 3 := by
      have m : p.2 ∈ (kvs.map (·.1)).map keysD := by
        rw [← KA.1]
        exact List.mem_map.mpr ⟨p, hp, rfl⟩
      obtain ⟨k, hk, e⟩ := List.mem_map.mp m
      obtain ⟨x, hx, e3⟩ := List.mem_map.mp hk
      rw [← e, ← e3]
      exact hdp x hx
    omega
  · have rs := PySem.W.sortVals_data false eR er hal
    have lo : (PySem.W.sortVals (PySem.W.dataKind (PySem.W.sortingHeap (h'.push (seqObj "list" vs.toArray 0)) h'.objs.size vs) (ps.map fun p : DP => p.2)) false vs vs).length = vs.length := PySem.W.sortVals_length false rfl
    generalize PySem.W.sortVals (PySem.W.dataKind (PySem.W.sortingHeap (h'.push (seqObj "list" vs.toArray 0)) h'.objs.size vs) (ps.map fun p : DP => p.2)) false vs vs = out at rs lo ⊢
    obtain ⟨c, hc2⟩ := PyProof.Rows.sortedHeap_at (vs := vs) (out := out.toArray) hoL
    have hml : (byData ps).length = ps.length := List.length_mergeSort ps
    have hbl : ((byData ps).map (·.1)).length ≤ sizeLine := by rw [List.length_map, hml, lps]; omega
    refine wpAny_pure ⟨_, rfl, .ref h'.objs.size, upd H h'.objs.size (.lst ((byData ps).map (·.1))), I1.laid (t' := tk) (fun b u e => ?_) (Nat.le_refl _)
      (show ObjOk X.prog X.w _ _ _ (.lst ((byData ps).map (·.1))) from ⟨hbl, out, c, each_valsD rs, hc2⟩), rfl, q ps _ (I1.hok.fresh (Nat.le_refl _)) KA⟩
    have hb : b < h'.objs.size := Heap.lt_size e
    rw [PyProof.Rows.sortedHeap_old (Nat.ne_of_lt hb) (by rw [size_push']; exact Nat.lt_succ_of_lt hb)]
    exact Heap.get?_push_of_some _ e
end
end FM
set_option maxRecDepth 100000
set_option maxHeartbeats 2000000
namespace FM
open PySem PySem.Spec PyProof.Rows L2
/-- the class at C has the def at f under this special name -/
structure OwnD (K : PySem.W.Frag) (C : Addr) (nm : Str) (f : Addr) : Prop where
  at_ : PySem.W.findIn K (.ref C) nm = some (some (.ref f))
  fn : PySem.W.isFn K (.ref f) = true
end FM
set_option maxRecDepth 100000
set_option maxHeartbeats 2000000
namespace FM
open PySem PySem.Spec PyProof.Rows L2 ItX
end FM
set_option maxRecDepth 100000
set_option maxHeartbeats 2000000
namespace FM
open PySem PySem.Spec PyProof.Rows L2 ItX
end FM
set_option maxRecDepth 100000
set_option maxHeartbeats 1000000
namespace FM
open PySem PySem.Spec PyProof.Rows L2 GenW
/-- while it sleeps the consumer's own objects may change, nothing else does -/
structure Nap (C : List Addr) (s t : Shared) : Prop where
  os : t.os = s.os
  bare : AllBare t.gens
  keep : ∀ b o, b ∉ C → s.heap.get? b = some o → t.heap.get? b = some o
  own : ∀ b ∈ C, ∃ o, t.heap.get? b = some o ∧ ∀ v, o.data ≠ .cell v
/-- what each row of items is, and from how many items on nobody asks for more -/
structure Gd where
  ok : List V → Hp → Prop
  lim : Nat
/-- it runs: the consumer's objects stand as in h0 -/
def Up (X : Cx) (C : List Addr) (h0 : Heap) (ip : List (Addr × Obj)) (σ : L2.St) (H : Hp) (s : Shared) : Prop :=
  (∀ b ∈ C, ∃ o, h0.get? b = some o ∧ ∀ v, o.data ≠ .cell v) ∧ Inv X (pinsAt C h0 ++ ip) σ H s
section
variable {X : Cx} {C : List Addr} {Good : Gd} {h0 : Heap} {ip : List (Addr × Obj)} {σ : L2.St} {H : Hp} {s t : Shared}
theorem Up.at (h : Up X C h0 ip σ H s) {b : Addr} (hb : b ∈ C) : ∃ o, h0.get? b = some o ∧ s.heap.get? b = some o ∧ H b = none ∧ b ≠ X.env.locals ∧ b ∉ X.fs ∧ ∀ v, o.data ≠ .cell v := by
  obtain ⟨o, e, d⟩ := h.1 b hb
  obtain ⟨q1, q2, q3, q4, q5⟩ := h.2.pin (b, o) (List.mem_append_right _ (List.mem_append_left _ (mem_pinsAt hb e)))
  exact ⟨o, e, q1, q2, q3, q4, q5⟩
theorem Up.own (h : Up X C h0 ip σ H s) : Inv X ip σ H s :=
  h.2.pins_of fun p hp => h.2.pin p (List.mem_append_right _ (List.mem_append_right _ hp))
variable {st : Stmt} {rest : List Stmt}
end
end FM
set_option maxRecDepth 100000
set_option maxHeartbeats 1000000
namespace FM
open PySem PySem.Spec PyProof.Rows L2 GenW
/-- the consumer's objects stand as they stood when the generator was woken -/
def Still (C : List Addr) (H : Hp) (s₀ s : Shared) : Prop := ∀ b ∈ C, H b = none ∧ ∀ o, s₀.heap.get? b = some o → s.heap.get? b = some o
/-- an end, or an exception -/
def ZEnd (P : Program) (w : World) (outer : List Env) (H : Hp) (s : Shared) (C : List Addr) (a : Addr) (g : Nat) (Q : List V → Hp → Prop) (E : XK) : GenEnd := fun n s₀ r s1 =>
  ((r = .ok (.ret .none) ∨ r = .ok .next) ∧ ∃ H' ys, n + ys.length = sizeLine ∧ s1.os = s.os ∧ AllBare s1.gens ∧ Un (frs outer) [] H H' s.heap s1.heap ∧ HOk P w H' s1.heap ∧ Still C H' s₀ s1 ∧ Q ys H') ∨
  ∃ e, r = .error e ∧ CX P w outer H s E e s1 ∧ s1.heap.IsGen a g
/-- an item -/
def ZItem (P : Program) (w : World) (outer : List Env) (H : Hp) (s : Shared) (C : List Addr) (a : Addr) (g : Nat) (Good : Gd) : Protocol := fun n s₀ v s1 kap =>
  ∃ ys x H1, n + 1 + ys.length = sizeLine ∧ RelV x v ∧ Good.ok (ys ++ [x]) H1 ∧ s1.os = s.os ∧ AllBare s1.gens ∧ s1.heap.IsGen a g ∧ Un (frs outer) [] H H1 s.heap s1.heap ∧ HOk P w H1 s1.heap ∧ Still C H1 s₀ s1 ∧
    (ys.length + 1 < Good.lim → ∀ t, Nap C s1 t → kap (.send .none) t)
end FM
set_option maxRecDepth 100000
set_option maxHeartbeats 1000000
namespace FM
open PySem PySem.Spec PyProof.Rows L2 GenW
open Sem (wp)
end FM
set_option maxRecDepth 100000
set_option maxHeartbeats 1000000
namespace FM
open PySem PySem.Spec PyProof.Rows L2 GenW
open Sem (wp)
end FM
set_option maxRecDepth 100000
set_option maxHeartbeats 1000000
namespace FM
open PySem PySem.Spec PyProof.Rows L2 GenW
open Sem (wp)
end FM
set_option maxRecDepth 100000
set_option maxHeartbeats 1000000
namespace FM
open PySem PySem.Spec PyProof.Rows L2 GenW
open Sem (wp)
end FM
set_option maxRecDepth 100000
set_option maxHeartbeats 2000000
namespace FM
open PySem PySem.Spec PyProof.Rows L2 GenW
open Sem (wp)
section
variable {X : Cx}
/-- the objects of such a zip and of the list that is filled -/
abbrev zC (N : Addr) : List Addr := [N + 3, N + 2, N, N + 4, N + 1]
end
end FM
set_option maxRecDepth 100000
set_option maxHeartbeats 1000000
namespace FM
open PySem PySem.Spec PyProof.Rows L2
end FM
set_option maxRecDepth 100000
set_option maxHeartbeats 1000000
namespace FM
open PySem PySem.Spec PyProof.Rows L2
end FM
set_option maxRecDepth 100000
set_option maxHeartbeats 1000000
namespace FM
open PySem PySem.Spec PyProof.Rows L2
end FM
set_option maxRecDepth 100000
set_option maxHeartbeats 1000000
namespace FM
open PySem PySem.Spec PyProof.Rows L2
end FM
set_option maxRecDepth 100000
set_option maxHeartbeats 1000000
namespace FM
open PySem PySem.Spec PyProof.Rows L2
theorem ext_tup (l : Addr) (items : Array Value) (n : Nat) (b : Addr) (items2 : Array Value) (n2 : Nat) (od : Option Addr) (osl : Array (Option Value)) (hs0 : ¬(!items.isEmpty && Builtin.List.listTooLong (items.size + items2.size)) = true) (hs1 : items.size ≤ sizeLine) (hs2 : items.size + items2.size ≤ sizeLine + 1) :
    Meets (Builtin.«list.extend» ⟨[.ref l, .ref b], []⟩) (fun _ R s => s.heap.get? l = some { cls := .type "list", dict := none, data := .seq items n, slots := #[] } ∧ s.heap.get? b = some { cls := .type "tuple", dict := od, data := .seq items2 n2, slots := osl } ∧ R (.ok (.ret Value.none)) { s with heap := s.heap.update l (Obj.mapSeq fun x => x ++ items2), toks := s.toks }) :=
  .of_wp fun prog w A R s h => by
    rcases s with ⟨heap, gens, drawn, toks, os⟩
    rcases h with ⟨isL, isT, go⟩
    have room : (items ++ items2).size ≤ sizeLine + 1 := by
      rw [Array.size_append]
      exact hs2
    have k1 := AutoSeq1.idx_int
    have k2 := AutoSeq1.sub_tuple_tuple
    have k3 := AutoSeq1.sub_list_list
    have k4 := AutoSeq1.sub_tuple_list
    have k5 := AutoSeq1.sub_list_tuple
    wp_walk using (wpAny_updateSeq isL rfl (hz := hs1) (_hz' := room)), PySem.AutoSeq1.wpAny_loadPart' isL, PySem.AutoSeq1.wpAny_loadPart' isT
    exact ⟨_, rfl, go⟩
section
variable {X : Cx}
def rExtT (K : PySem.W.Frag) : V → List V → Hp → VK → Prop := fun x vs H Q => ∃ l b xs zs, x = .ref l ∧ vs = [.ref b] ∧ H l = some (.lst xs) ∧ SqT K H b zs ∧ xs.length + zs.length ≤ sizeLine ∧ Q .non (upd H l (.lst (xs ++ zs)))
theorem mt_extT : MtR X "list.extend" (rExtT X.K) := by
  intro pins s σ H x vs v us Q I rx rv h
  obtain ⟨l, b, xs, zs, rfl, rfl, hH, hB, hz, q⟩ := h
  cases rx
  obtain ⟨u, rfl, ru⟩ := rv.one
  cases ru
  obtain ⟨z, its, n, r, hl, e⟩ := I.lstM hH
  obtain ⟨its2, r2, isT, z2⟩ := I.tuple hB
  have hl2 := r2.length
  have hsz : its.toArray.size + its2.toArray.size ≤ sizeLine := by rw [List.size_toArray, List.size_toArray]; omega
  have hlong : ¬ (!its.toArray.isEmpty && Builtin.List.listTooLong (its.toArray.size + its2.toArray.size)) = true := by
    rw [notLongL hsz, Bool.and_false]
    exact Bool.false_ne_true
  obtain ⟨⟨oc, od, odt, osl⟩, e2, c2, n2, d2⟩ := isT
  simp only at c2 d2
  subst c2
  subst d2
  refine call_meets F.slot_list_extend ⟨_, e, rfl⟩ F.entry_list_extend (F.args_list_extend_2 _ _)
    (ext_tup l its.toArray n b its2.toArray n2 od osl hlong (by rw [List.size_toArray]; omega) (by omega)) ⟨e, e2, ?_⟩
  refine ⟨.non, _, I.lset (its' := its ++ its2) hH e (by simp) (r.append r2) ?_, rfl, q⟩
  rw [List.length_append]
  omega
end
end FM
set_option maxRecDepth 100000
set_option maxHeartbeats 1000000
namespace FM
open PySem PySem.Spec PyProof.Rows L2 PySem.SeqAt
section
variable {X : Cx}
/-- a text so many times -/
def repS (z : Str) (n : Nat) : Str := if n = 0 then Str.empty else if (n == 1 || z.length == 0) = true then z else ⟨(List.replicate n z.cps).foldl (· ++ ·) #[]⟩
theorem foldl_cps (l : List (Array Nat)) : ∀ a : Array Nat, (l.foldl (· ++ ·) a).toList = a.toList ++ (l.map Array.toList).flatten := by
  induction l with
  | nil => intro a; simp
  | cons x r ih =>
    intro a
    rw [List.foldl_cons, ih]
    simp
theorem repS_cps (z : Str) (n : Nat) : (repS z n).cps.toList = (List.replicate n z.cps.toList).flatten := by
  unfold repS
  by_cases h0 : n = 0
  · subst h0
    rfl
  · rw [if_neg h0]
    by_cases h1 : (n == 1 || z.length == 0) = true
    · rw [if_pos h1]
      rw [Bool.or_eq_true] at h1
      rcases h1 with h1 | h1
      · have : n = 1 := by simpa using h1
        subst this
        simp
      · have e : z.cps.toList = [] := by
          have : z.length = 0 := by simpa using h1
          have l : z.cps.toList.length = 0 := by simpa [Str.length] using this
          exact List.length_eq_zero_iff.mp l
        rw [e]
        simp
    · rw [if_neg h1]
      show ((List.replicate n z.cps).foldl (· ++ ·) #[]).toList = _
      rw [foldl_cps]
      simp
theorem repS_length (z : Str) (n : Nat) : (repS z n).length = n * z.length := by
  have e : (repS z n).length = (repS z n).cps.toList.length := by simp [Str.length]
  rw [e, repS_cps]
  simp [Str.length]
theorem op_repS : OpR X (binaryOp .Mult) (fun x y H Q => ∃ (z : Str) (n : Nat), x = .str z ∧ y = .int (n : Nat) ∧ z.length ≤ 1000 ∧ n ≤ 1000 ∧ Q (.str (repS z n)) H) := by
  intro pins s σ H x y v u Q I rx ry h
  obtain ⟨z, n, rfl, rfl, hz, hn, k⟩ := h
  obtain ⟨t, rfl⟩ := rx
  obtain ⟨t', rfl⟩ := ry
  have hb : z.length * n ≤ 1000000 := Nat.mul_le_mul hz hn
  refine P.mul_str ?_ (fun h1 _ => ?_) (fun _ _ => ?_) ?_
  · have h1 : ¬ ((n : Int) < -(2 ^ 63)) := by omega
    have h2 : ¬ ((n : Int) ≥ 2 ^ 63) := by omega
    rw [decide_eq_false h1, decide_eq_false h2]
    rfl
  · have hd : (1000 : Int) ≤ (2 ^ 63 - 1) / (n : Int) := by
      refine (Int.le_ediv_iff_mul_le (by omega)).mpr ?_
      omega
    omega
  · have : Builtin.Str.tooLong (z.length * (n : Int).toNat) = false := by
      rw [Int.toNat_natCast]
      unfold Builtin.Str.tooLong
      first
        | exact decide_eq_false (by rw [sizeLine_eq]; omega)
        | (simp; omega)
    exact this
  · unfold repS at k
    have fin : ∀ y : Str, y.length ≤ 1000000 → Q (.str y) H → (Made.str y).post (EP X pins σ Q) s := fun y hy q =>
      ⟨by rw [sizeLine_eq]; omega, .str y, H, I.tok _, ⟨_, rfl⟩, q⟩
    have hlen : (repS z n).length ≤ 1000000 := by rw [repS_length, Nat.mul_comm]; exact hb
    unfold repS at hlen
    by_cases h0 : n = 0
    · subst h0
      rw [if_pos (by decide)]
      rw [if_pos rfl] at k
      exact fin _ (by decide) k
    · rw [if_neg (by omega)]
      rw [if_neg h0] at hlen
      rw [if_neg h0] at k
      have e1 : (((n : Nat) : Int) == 1 || z.length == 0) = (n == 1 || z.length == 0) := by
        have : (((n : Nat) : Int) == 1) = (n == 1) := by
          rw [Bool.eq_iff_iff]
          simp
          omega
        rw [this]
      rw [e1]
      by_cases h1 : (n == 1 || z.length == 0) = true
      · rw [if_pos h1] at k ⊢
        exact ⟨.str z, H, I, ⟨_, rfl⟩, k⟩
      · rw [if_neg h1] at k ⊢
        rw [if_neg h1] at hlen
        rw [Int.toNat_natCast]
        exact fin _ hlen k
end
end FM
set_option maxRecDepth 100000
set_option maxHeartbeats 1000000
namespace FM
open PySem PySem.Spec PyProof.Rows L2 PySem.SeqAt
section
variable {X : Cx}
def rNilL (K : PySem.W.Frag) (neg : Bool) : R2 := fun x y H Q => ∃ (p q : Addr) (xs : List V), x = .ref p ∧ y = .ref q ∧ SqL K H p xs ∧ SqL K H q [] ∧ Q (.bl (if neg = true then !xs.isEmpty else xs.isEmpty)) H
theorem op_neNilL (hu : X.A.units + 64 < cLine) : OpR X (compareOp .NotEq) (rNilL X.K true) := by
  intro pins s σ H x y v u Q I rx ry h
  obtain ⟨p, q, xs, rfl, rfl, h1, h2, k⟩ := h
  obtain rfl : v = .ref p := rx
  obtain rfl : u = .ref q := ry
  obtain ⟨us, v1, l1, _⟩ := I.list h1
  obtain ⟨vs, v2, l2, _⟩ := I.list h2
  have n2 : vs = [] := by cases v2; rfl
  subst n2
  have hb : RcNeAt X.A s (.ref p) (.ref q) (!xs.isEmpty) := by
    cases v1 with
    | nil =>
      exact RcNeAt.lists (s := s) (e := fun _ => true) l1.isList l2.isList rfl (show X.A.units < cLine by omega) (fun j a b => absurd a (Nat.not_lt_zero _))
    | cons r rr =>
      exact RcNeAt.lists_lengths l1.isList l2.isList rfl (by omega)
  exact hb _ _ _ _ ⟨.bl _, H, I, rfl, k⟩
end
end FM
set_option maxRecDepth 100000
set_option maxHeartbeats 4000000
namespace FM
open PySem PySem.Spec PyProof.Rows L2
end FM
set_option maxRecDepth 100000
set_option maxHeartbeats 4000000
namespace FM
open PySem PySem.Spec PyProof.Rows L2
def kD : L2.Key → PyData
  | .inl i => .int i
  | .inr x => .str x
mutual
inductive DV (H : Hp) : V → PyData → List Addr → Prop
  | non : DV H .non .none []
  | bl (b : Bool) : DV H (.bl b) (.bool b) []
  | int (i : Int) : DV H (.int i) (.int i) []
  | str (x : Str) : DV H (.str x) (.str x) []
  | lst {a : Addr} {xs : List V} {ds : List PyData} {as : List Addr} : H a = some (.lst xs) → DVs H xs ds as → DV H (.ref a) (.list ds) (a :: as)
  | tup {a : Addr} {xs : List V} {ds : List PyData} {as : List Addr} : H a = some (.tup xs) → DVs H xs ds as → DV H (.ref a) (.tuple ds) as
  | dS {a : Addr} {k : Str} {v : V} {d : PyData} {as : List Addr} : H a = some (.dK [(.inr k, v)]) → DV H v d as → DV H (.ref a) (.dict [(.str k, d)]) (a :: ([] ++ []) ++ (as ++ []))
  | dT {a : Addr} {ks : List L2.Key} {v : V} {d : PyData} {as : List Addr} : H a = some (.dT [(ks, v)]) → DV H v d as → DV H (.ref a) (.dict [(.tuple (ks.map kD), d)]) (a :: ([] ++ []) ++ (as ++ []))
  | dE {a : Addr} : H a = some (.dK []) → DV H (.ref a) (.dict []) (a :: [] ++ [])
inductive DVs (H : Hp) : List V → List PyData → List Addr → Prop
  | nil : DVs H [] [] []
  | cons {v : V} {vs : List V} {d : PyData} {ds : List PyData} {as bs : List Addr} : DV H v d as → DVs H vs ds bs → DVs H (v :: vs) (d :: ds) (as ++ bs)
end
theorem reads_keys {P : Program} {w : World} {h : Heap} : ∀ {ks : List L2.Key} {its : List Value}, ItemsAre (mixKind P w) ks its → ReadsAll h its (ks.map kD) []
  | _, _, .nil => .nil
  | _, _, .cons (k := k) e t => by
    refine .cons (as := []) (bs := []) ?_ (reads_keys t)
    rcases keyIs_shape e with ⟨i, u, rfl, rfl⟩ | ⟨x, u, rfl, rfl⟩
    · exact .int i u
    · exact .str x u
mutual
theorem DV.reads {P : Program} {w : World} {H : Hp} {h : Heap} (ok : HOk P w H h) : ∀ {v : V} {d : PyData} {as : List Addr} {u : Value}, DV H v d as → RelV v u → Reads h u d as
  | _, _, _, _, .non, r => by cases r; exact .none
  | _, _, _, _, .bl b, r => by cases r; exact .bool b
  | _, _, _, _, .int i, ⟨t, r⟩ => by subst r; exact .int i t
  | _, _, _, _, .str x, ⟨t, r⟩ => by subst r; exact .str x t
  | _, _, _, _, .lst (a := a) e q, r => by
    cases r
    obtain ⟨_, its, n, rel, g⟩ := ok a _ e
    exact .list g rfl rfl (DVs.reads ok q rel)
  | _, _, _, _, .tup (a := a) e q, r => by
    cases r
    obtain ⟨_, its, rel, ob, g, c, n, g2⟩ := ok a _ e
    exact .tuple g c g2 (DVs.reads ok q rel)
  | _, _, _, _, .dS (a := a) (k := kk) (v := v0) e q, r => by
    cases r
    obtain ⟨_, _, vs, rel, ob, es, ep, g, gc, gd, gk, gp, _⟩ := dk_of ok e
    cases rel with
    | cons r1 r0 =>
      cases r0
      generalize hes : es.toList = el at gp
      cases gp with
      | cons hk hv g0 =>
        cases g0
        refine .dict g gc.1 gd ?_ ?_
        · rw [hes]
          refine .cons (as := []) (bs := []) ?_ .nil
          rename_i bb _ en
          have hk2 : keyIs (.inr kk) en.key = true := by
            have e2 : (Sum.inr kk : L2.Key) = bb.1 := r1.1
            rw [e2]
            exact hk
          show Reads h en.key (.str kk) []
          rcases keyIs_shape hk2 with ⟨i, t, ek, e2⟩ | ⟨x, t, ek, e2⟩
          · exact nomatch ek
          · rw [e2, Sum.inr.inj ek]
            exact .str x t
        · rw [hes]
          refine .cons (bs := []) ?_ .nil
          refine DV.reads ok q ?_
          rename_i bb _ en
          show L2.RelV v0 en.val
          rw [hv]
          exact r1.2
  | _, _, _, _, .dE (a := a) e, r => by
    cases r
    obtain ⟨_, _, vs, rel, ob, es, ep, g, gc, gd, gk, gp, _⟩ := dk_of ok e
    cases rel
    generalize hes : es.toList = el at gp
    cases gp
    refine .dict g gc.1 gd ?_ ?_
    · rw [hes]
      exact .nil
    · rw [hes]
      exact .nil
  | _, _, _, _, .dT (a := a) e q, r => by
    cases r
    obtain ⟨_, _, xs, rel, ob, es, ep, g, gc, gd, ge, gi, _⟩ := dt_of ok e
    cases rel with
    | cons r1 r0 =>
      cases r0
      refine .dict g gc.1 gd ?_ ?_
      · rw [ge]
        refine .cons (as := []) (bs := []) ?_ .nil
        obtain ⟨o2, its, n, g2, g3, g4, g5⟩ := gi _ List.mem_cons_self
        refine .tuple g2 g3 g4 ?_
        have e2 := r1.1
        simp only at e2
        rw [e2]
        exact reads_keys g5
      · rw [ge]
        refine .cons (bs := []) ?_ .nil
        exact DV.reads ok q r1.2.2
theorem DVs.reads {P : Program} {w : World} {H : Hp} {h : Heap} (ok : HOk P w H h) : ∀ {vs : List V} {ds : List PyData} {as : List Addr} {us : List Value}, DVs H vs ds as → Vals vs us → ReadsAll h us ds as
  | _, _, _, _, .nil, .nil => .nil
  | _, _, _, _, .cons x q, .cons r t => .cons (DV.reads ok x r) (DVs.reads ok q t)
end
mutual
theorem DV.there {H : Hp} : ∀ {v : V} {d : PyData} {as : List Addr}, DV H v d as → ∀ a ∈ as, ∃ o, H a = some o
  | _, _, _, .non, _, h => nomatch h
  | _, _, _, .bl _, _, h => nomatch h
  | _, _, _, .int _, _, h => nomatch h
  | _, _, _, .str _, _, h => nomatch h
  | _, _, _, .lst e q, b, h => by
    rcases List.mem_cons.mp h with h | h
    · rw [h]; exact ⟨_, e⟩
    · exact DVs.there q b h
  | _, _, _, .tup _ q, b, h => DVs.there q b h
  | _, _, _, .dS (a := a) (as := as) e q, b, h => by
    have h2 : b = a ∨ b ∈ as := by simpa using h
    rcases h2 with h | h
    · rw [h]; exact ⟨_, e⟩
    · exact DV.there q b h
  | _, _, _, .dT (a := a) (as := as) e q, b, h => by
    have h2 : b = a ∨ b ∈ as := by simpa using h
    rcases h2 with h | h
    · rw [h]; exact ⟨_, e⟩
    · exact DV.there q b h
  | _, _, _, .dE (a := a) e, b, h => by
    have h2 : b = a := by simpa using h
    rw [h2]; exact ⟨_, e⟩
theorem DVs.there {H : Hp} : ∀ {vs : List V} {ds : List PyData} {as : List Addr}, DVs H vs ds as → ∀ a ∈ as, ∃ o, H a = some o
  | _, _, _, .nil, _, h => nomatch h
  | _, _, _, .cons x q, b, h => by
    rcases List.mem_append.mp h with h | h
    · exact DV.there x b h
    · exact DVs.there q b h
end
mutual
theorem DV.same {H H' : Hp} (S : Same H H') : ∀ {v : V} {d : PyData} {as : List Addr}, DV H v d as → DV H' v d as
  | _, _, _, .non => .non
  | _, _, _, .bl b => .bl b
  | _, _, _, .int i => .int i
  | _, _, _, .str x => .str x
  | _, _, _, .lst e q => .lst (S _ _ e) (DVs.same S q)
  | _, _, _, .tup e q => .tup (S _ _ e) (DVs.same S q)
  | _, _, _, .dS e q => .dS (S _ _ e) (DV.same S q)
  | _, _, _, .dT e q => .dT (S _ _ e) (DV.same S q)
  | _, _, _, .dE e => .dE (S _ _ e)
theorem DVs.same {H H' : Hp} (S : Same H H') : ∀ {vs : List V} {ds : List PyData} {as : List Addr}, DVs H vs ds as → DVs H' vs ds as
  | _, _, _, .nil => .nil
  | _, _, _, .cons x q => .cons (DV.same S x) (DVs.same S q)
end
end FM
set_option maxRecDepth 100000
set_option maxHeartbeats 2000000
namespace FM
open PySem PySem.Spec PyProof.Rows L2 GenW
open Sem (wp)
section
variable {X : Cx}
/-- the objects of the zip, the new list, the block's names -/
abbrev cC (N : Addr) : List Addr := [N + 3, N + 2, N, N + 4, N + 1, N + 5]
end
end FM
set_option maxRecDepth 100000
set_option maxHeartbeats 2000000
namespace FM
open PySem PySem.Spec PyProof.Rows L2 GenW
open Sem (wp)
section
variable {X : Cx}
/-- ahead of item j -/
structure AL (P : Program) (w : World) (A3 : Around) (outer : List Env) (H1 : Hp) (sc : Shared) (G : Gd) (Q : List V → Hp → Prop) (ls : List V) (S a : Addr) (g : Nat) (j : Nat) (s : Shared) : Prop where
  L : ∃ us c, s.heap.get? S = some (lstObj us c) ∧ Vals (ls.take j) us.toList
  gen : s.heap.IsGen a g
  lim : s.heap.NoLimit
  os : s.os = sc.os
  bare : AllBare s.gens
  go : ∃ gs, s.gens[g]? = some gs ∧ ∀ t, Nap [S] s t → gs.Goes (model P w) A3 (ZEnd P w outer H1 sc [S] a g Q fun _ _ _ => False) (ZItem P w outer H1 sc [S] a g G) (sizeLine - j) (.send .none) (t.setGen g .running)
end
end FM
set_option maxRecDepth 100000
set_option maxHeartbeats 4000000
namespace FM
open PySem L2
def rTupOf (K : PySem.W.Frag) : List V → Hp → VK → Prop := fun xs H Q => ∃ p ys, xs = [.ref p] ∧ ((SqL K H p ys ∧ ∀ l, H l = none → Q (.ref l) (upd H l (.tup ys))) ∨ (SqT K H p ys ∧ Q (.ref p) H))
end FM
namespace K0
open PySem L2 FM He
abbrev FnP (K : PySem.W.Frag) (x : Str) (st : Stmt) (f : Addr) (fd : FuncData) : Prop := FunD K x x (defArgs st) (defBody st) (defScope st) [] [] f fd
abbrev FnM (K : PySem.W.Frag) (x q : Str) (st : Stmt) (f : Addr) (fd : FuncData) : Prop := FunD K x q (defArgs st) (defBody st) (defScope st) [] [] f fd
/-- the built-ins that any text here may name -/
structure TE (K : PySem.W.Frag) (mg : Str → Option Value) : Prop where
  b_isinstance : mg "isinstance" = none
  b_range : mg "range" = none
theorem same_upd {H : Hp} {p : Addr} {o : HO} (n : H p = none) : Same H (upd H p o) := fun b u h => by
  rw [upd_ne (ne_of_none h n)]
  exact h
theorem sqT_same {H H' : Hp} {a : Addr} {xs : List V} (e : Same H H') (h : SqT K H a xs) : SqT K H' a xs := by
  rcases h with (h | ⟨o, h⟩) | h
  · exact .inl (.inl (e _ _ h))
  · exact .inl (.inr ⟨o, e _ _ h⟩)
  · exact .inr h
theorem sqL_same {K : PySem.W.Frag} {H H' : Hp} {a : Addr} {xs : List V} (e : Same H H') (h : SqL K H a xs) : SqL K H' a xs := by
  rcases h with (h | ⟨o, h⟩) | h
  · exact .inl (.inl (e _ _ h))
  · exact .inl (.inr ⟨o, e _ _ h⟩)
  · exact .inr h
theorem same_unlock {H H' : Hp} {d : Addr} {u : HO} {od : Obj} (hd : H d = some u) (S : Same (upd H d (.frz od u)) H') : Same H (upd H' d u) := fun b o h => by
  by_cases e : b = d
  · subst e
    rw [hd] at h
    cases h
    exact upd_same
  · rw [upd_ne e]
    exact S _ _ (by rw [upd_ne e]; exact h)
theorem upd_far {H H' : Hp} {D : Addr} {o : HO} (nD : H D = none) (S : Same H H') : Same H (upd H' D o) := fun b u hb => by
  rw [upd_ne (ne_of_none hb nD)]
  exact S _ _ hb
end K0
set_option maxRecDepth 100000
set_option maxHeartbeats 4000000
namespace K0
open PySem L2 FM He
theorem sc_is_integer : FnScope ["value"] ["value"] (defScope s_is_integer) := ⟨rfl, rfl, rfl, by decide +kernel, rfl, by decide +kernel, by decide +kernel⟩
theorem sc_is_below : FnScope ["value", "limit"] ["value", "limit"] (defScope s_is_below) := ⟨rfl, rfl, rfl, by decide +kernel, rfl, by decide +kernel, by decide +kernel⟩
theorem sc_is_tuple_of : FnScope ["value", "many"] ["value", "many"] (defScope s_is_tuple_of) := ⟨rfl, rfl, rfl, by decide +kernel, rfl, by decide +kernel, by decide +kernel⟩
theorem sc_is_letter_of : FnScope ["letters", "value"] ["letters", "value"] (defScope s_is_letter_of) := ⟨rfl, rfl, rfl, by decide +kernel, rfl, by decide +kernel, by decide +kernel⟩
theorem sc_is_state_of : FnScope ["states", "value"] ["states", "value"] (defScope s_is_state_of) := ⟨rfl, rfl, rfl, by decide +kernel, rfl, by decide +kernel, by decide +kernel⟩
theorem sc_is_edge_of : FnScope ["edges", "value"] ["edges", "value"] (defScope s_is_edge_of) := ⟨rfl, rfl, rfl, by decide +kernel, rfl, by decide +kernel, by decide +kernel⟩
theorem sc_is_word : FnScope ["value"] ["value"] (defScope s_is_word) := ⟨rfl, rfl, rfl, by decide +kernel, rfl, by decide +kernel, by decide +kernel⟩
theorem sc_is_letters : FnScope ["value"] ["value"] (defScope s_is_letters) := ⟨rfl, rfl, rfl, by decide +kernel, rfl, by decide +kernel, by decide +kernel⟩
theorem sc_nodes_from : FnScope ["begin", "moves", "onward", "node", "after", "found", "waiting"] ["begin", "moves"] (defScope s_nodes_from) := ⟨rfl, rfl, rfl, by decide +kernel, rfl, by decide +kernel, by decide +kernel⟩
theorem sc_nodes_between : FnScope ["begin", "moves", "goals", "reached", "useful", "node", "after"] ["begin", "moves", "goals"] (defScope s_nodes_between) := ⟨rfl, rfl, rfl, by decide +kernel, rfl, by decide +kernel, by decide +kernel⟩
theorem sc_is_trail : FnScope ["rewriter", "value", "state", "row", "edges", "edge"] ["rewriter", "value"] (defScope s_is_trail) := ⟨rfl, rfl, rfl, by decide +kernel, rfl, by decide +kernel, by decide +kernel⟩
theorem sc_last_state : FnScope ["path", "state", "edges"] ["path"] (defScope s_last_state) := ⟨rfl, rfl, rfl, by decide +kernel, rfl, by decide +kernel, by decide +kernel⟩
theorem sc_text_of : FnScope ["edges", "edge"] ["edges"] (defScope s_text_of) := ⟨rfl, rfl, rfl, by decide +kernel, rfl, by decide +kernel, by decide +kernel⟩
theorem sc_written_before_end : FnScope ["rewriter", "path", "state", "edges", "edge"] ["rewriter", "path"] (defScope s_written_before_end) := ⟨rfl, rfl, rfl, by decide +kernel, rfl, by decide +kernel, by decide +kernel⟩
theorem sc_written_by : FnScope ["rewriter", "path"] ["rewriter", "path"] (defScope s_written_by) := ⟨rfl, rfl, rfl, by decide +kernel, rfl, by decide +kernel, by decide +kernel⟩
theorem sc_check_rewriter : FnScope ["value"] ["value"] (defScope s_check_rewriter) := ⟨rfl, rfl, rfl, by decide +kernel, rfl, by decide +kernel, by decide +kernel⟩
theorem sc__is_short : FnScope ["value"] ["value"] (defScope s__is_short) := ⟨rfl, rfl, rfl, by decide +kernel, rfl, by decide +kernel, by decide +kernel⟩
theorem sc__is_table : FnScope ["value", "state", "word"] ["value"] (defScope s__is_table) := ⟨rfl, rfl, rfl, by decide +kernel, rfl, by decide +kernel, by decide +kernel⟩
theorem sc__is_edge : FnScope ["letters", "value", "state", "letter", "word", "after"] ["letters", "value"] (defScope s__is_edge) := ⟨rfl, rfl, rfl, by decide +kernel, rfl, by decide +kernel, by decide +kernel⟩
theorem sc__are_edges : FnScope ["letters", "value", "edge"] ["letters", "value"] (defScope s__are_edges) := ⟨rfl, rfl, rfl, by decide +kernel, rfl, by decide +kernel, by decide +kernel⟩
theorem sc_is_path : FnScope ["rewriter", "value"] ["rewriter", "value"] (defScope s_is_path) := ⟨rfl, rfl, rfl, by decide +kernel, rfl, by decide +kernel, by decide +kernel⟩
theorem sc_reads : FnScope ["rewriter", "path"] ["rewriter", "path"] (defScope s_reads) := ⟨rfl, rfl, rfl, by decide +kernel, rfl, by decide +kernel, by decide +kernel⟩
theorem sc_writes : FnScope ["rewriter", "path"] ["rewriter", "path"] (defScope s_writes) := ⟨rfl, rfl, rfl, by decide +kernel, rfl, by decide +kernel, by decide +kernel⟩
theorem sc__check_path : FnScope ["rewriter", "path"] ["rewriter", "path"] (defScope s__check_path) := ⟨rfl, rfl, rfl, by decide +kernel, rfl, by decide +kernel, by decide +kernel⟩
theorem sc__law_shuffled : FnScope ["_law_bag", "_law_items", "_law_rest_here", "_law_turn"] ["_law_bag", "_law_items"] (defScope s__law_shuffled) := ⟨rfl, rfl, rfl, by decide +kernel, rfl, by decide +kernel, by decide +kernel⟩
theorem sc__law_drawn_word : FnScope ["_law_bag", "_law_signs", "_law_most", "_law_turn"] ["_law_bag", "_law_signs", "_law_most"] (defScope s__law_drawn_word) := ⟨rfl, rfl, rfl, by decide +kernel, rfl, by decide +kernel, by decide +kernel⟩
theorem sc__law_drawn_turns : FnScope ["_law_bag", "_law_signs", "_law_size", "_law_found", "_law_slots", "_law_mark", "_law_slot", "_law_sign"] ["_law_bag", "_law_signs", "_law_size"] (defScope s__law_drawn_turns) := ⟨rfl, rfl, rfl, by decide +kernel, rfl, by decide +kernel, by decide +kernel⟩
theorem sc__law_guesser : FnScope ["_law_bag", "_law_signs", "_law_size", "_law_copies", "_law_most", "_law_turns", "_law_rooms", "_law_edges", "_law_mark", "_law_lots", "_law_room", "_law_sign", "_law_other", "_law_word", "_law_first", "_law_last", "_law_lot"] ["_law_bag", "_law_signs", "_law_size", "_law_copies", "_law_most"] (defScope s__law_guesser) := ⟨rfl, rfl, rfl, by decide +kernel, rfl, by decide +kernel, by decide +kernel⟩
theorem sc__law_moved : FnScope ["_law_plain", "_law_by", "_law_first", "_law_room", "_law_last", "_law_edges", "_law_a", "_law_sign", "_law_word", "_law_b"] ["_law_plain", "_law_by"] (defScope s__law_moved) := ⟨rfl, rfl, rfl, by decide +kernel, rfl, by decide +kernel, by decide +kernel⟩
theorem sc__law_joined : FnScope ["_law_one", "_law_two", "_law_first", "_law_last"] ["_law_one", "_law_two"] (defScope s__law_joined) := ⟨rfl, rfl, rfl, by decide +kernel, rfl, by decide +kernel, by decide +kernel⟩
theorem sc__law_two_forms : FnScope ["_law_bag", "_law_plain", "_law_rooms", "_law_edge", "_law_room", "_law_sign", "_law_late", "_law_soon", "_law_a", "_law_letter", "_law_word", "_law_b", "_law_first", "_law_last", "_law_other"] ["_law_bag", "_law_plain"] (defScope s__law_two_forms) := ⟨rfl, rfl, rfl, by decide +kernel, rfl, by decide +kernel, by decide +kernel⟩
theorem sc__law_split : FnScope ["_law_bag", "_law_plain", "_law_fresh", "_law_rooms", "_law_edge", "_law_room", "_law_edges", "_law_a", "_law_sign", "_law_word", "_law_b", "_law_begin_here", "_law_goals", "_law_goal", "_law_first", "_law_last"] ["_law_bag", "_law_plain", "_law_fresh"] (defScope s__law_split) := ⟨rfl, rfl, rfl, by decide +kernel, rfl, by decide +kernel, by decide +kernel⟩
theorem sc__law_thinned : FnScope ["_law_bag", "_law_plain", "_law_edges", "_law_size"] ["_law_bag", "_law_plain"] (defScope s__law_thinned) := ⟨rfl, rfl, rfl, by decide +kernel, rfl, by decide +kernel, by decide +kernel⟩
theorem sc__law_told_one : FnScope ["_law_bag", "_law_double", "_law_add", "_law_swap", "_law_found"] ["_law_bag"] (defScope s__law_told_one) := ⟨rfl, rfl, rfl, by decide +kernel, rfl, by decide +kernel, by decide +kernel⟩
theorem sc__law_drawn_single : FnScope ["_law_bag", "_law_way", "_law_signs", "_law_plain", "_law_forms"] ["_law_bag"] (defScope s__law_drawn_single) := ⟨rfl, rfl, rfl, by decide +kernel, rfl, by decide +kernel, by decide +kernel⟩
theorem sc__law_drawn_any : FnScope ["_law_bag", "_law_signs", "_law_size", "_law_edges", "_law_turn", "_law_a", "_law_sign", "_law_word", "_law_first", "_law_last"] ["_law_bag"] (defScope s__law_drawn_any) := ⟨rfl, rfl, rfl, by decide +kernel, rfl, by decide +kernel, by decide +kernel⟩
theorem sc__law_behind : FnScope ["_law_plain", "_law_states", "_law_found", "_law_turn", "_law_more", "_law_edge"] ["_law_plain", "_law_states"] (defScope s__law_behind) := ⟨rfl, rfl, rfl, by decide +kernel, rfl, by decide +kernel, by decide +kernel⟩
theorem sc__law_ahead_of : FnScope ["_law_plain", "_law_states", "_law_found", "_law_turn", "_law_more", "_law_edge"] ["_law_plain", "_law_states"] (defScope s__law_ahead_of) := ⟨rfl, rfl, rfl, by decide +kernel, rfl, by decide +kernel, by decide +kernel⟩
theorem sc__law_useful : FnScope ["_law_plain", "_law_before", "_law_kept", "_law_room", "_law_first", "_law_last", "_law_edges", "_law_edge"] ["_law_plain"] (defScope s__law_useful) := ⟨rfl, rfl, rfl, by decide +kernel, rfl, by decide +kernel, by decide +kernel⟩
theorem sc__law_built : FnScope ["_law_plain"] ["_law_plain"] (defScope s__law_built) := ⟨rfl, rfl, rfl, by decide +kernel, rfl, by decide +kernel, by decide +kernel⟩
theorem sc__law_is_path : FnScope ["_law_plain", "_law_value", "_law_room", "_law_edge"] ["_law_plain", "_law_value"] (defScope s__law_is_path) := ⟨rfl, rfl, rfl, by decide +kernel, rfl, by decide +kernel, by decide +kernel⟩
theorem sc__law_whole : FnScope ["_law_value"] ["_law_value"] (defScope s__law_whole) := ⟨rfl, rfl, rfl, by decide +kernel, rfl, by decide +kernel, by decide +kernel⟩
theorem sc__law_is_edge : FnScope ["_law_plain", "_law_value"] ["_law_plain", "_law_value"] (defScope s__law_is_edge) := ⟨rfl, rfl, rfl, by decide +kernel, rfl, by decide +kernel, by decide +kernel⟩
theorem sc__law_read_by : FnScope ["_law_path", "_law_edge"] ["_law_path"] (defScope s__law_read_by) := ⟨rfl, rfl, rfl, by decide +kernel, rfl, by decide +kernel, by decide +kernel⟩
theorem sc__law_wrote : FnScope ["_law_plain", "_law_path", "_law_size", "_law_edge"] ["_law_plain", "_law_path", "_law_size"] (defScope s__law_wrote) := ⟨rfl, rfl, rfl, by decide +kernel, rfl, by decide +kernel, by decide +kernel⟩
theorem sc__law_room_at : FnScope ["_law_path", "_law_size"] ["_law_path", "_law_size"] (defScope s__law_room_at) := ⟨rfl, rfl, rfl, by decide +kernel, rfl, by decide +kernel, by decide +kernel⟩
theorem sc__law_drawn_path : FnScope ["_law_bag", "_law_plain", "_law_most", "_law_room", "_law_found", "_law_turn", "_law_some", "_law_edge"] ["_law_bag", "_law_plain", "_law_most"] (defScope s__law_drawn_path) := ⟨rfl, rfl, rfl, by decide +kernel, rfl, by decide +kernel, by decide +kernel⟩
theorem sc__law_near : FnScope ["_law_bag", "_law_plain", "_law_path", "_law_room", "_law_edges", "_law_found", "_law_edge", "_law_a", "_law_sign", "_law_word", "_law_b", "_law_wrong", "_law_one"] ["_law_bag", "_law_plain", "_law_path"] (defScope s__law_near) := ⟨rfl, rfl, rfl, by decide +kernel, rfl, by decide +kernel, by decide +kernel⟩
theorem sc__law_met : FnScope ["_law_call"] ["_law_call"] (defScope s__law_met) := ⟨rfl, rfl, rfl, by decide +kernel, rfl, by decide +kernel, by decide +kernel⟩
theorem sc__law_right : FnScope ["_law_bag", "_law_drawn", "_law_made", "_law_plain", "_law_path", "_law_value", "_law_due", "_law_told", "_law_last"] ["_law_bag"] (defScope s__law_right) := ⟨rfl, rfl, rfl, by decide +kernel, rfl, by decide +kernel, by decide +kernel⟩
theorem sc_law : FnScope ["_law_script", "_law_at", "_law_bag", "_law_turn", "_law_edges", "_law_made", "_law_told", "_law_loop", "_law_none"] ["_law_script"] (defScope s_law) := ⟨rfl, rfl, rfl, by decide +kernel, rfl, by decide +kernel, by decide +kernel⟩
theorem sc_Rewriter___init__ : FnScope ["self", "letters", "starts", "edges", "ends", "useful", "edge", "state"] ["self", "letters", "starts", "edges", "ends"] (defScope s_Rewriter___init__) := ⟨rfl, rfl, rfl, by decide +kernel, rfl, by decide +kernel, by decide +kernel⟩
theorem sc_Rewriter_starts : FnScope ["self"] ["self"] (defScope s_Rewriter_starts) := ⟨rfl, rfl, rfl, by decide +kernel, rfl, by decide +kernel, by decide +kernel⟩
theorem sc_Rewriter_edges : FnScope ["self"] ["self"] (defScope s_Rewriter_edges) := ⟨rfl, rfl, rfl, by decide +kernel, rfl, by decide +kernel, by decide +kernel⟩
theorem sc_Rewriter_ends : FnScope ["self"] ["self"] (defScope s_Rewriter_ends) := ⟨rfl, rfl, rfl, by decide +kernel, rfl, by decide +kernel, by decide +kernel⟩
structure TP (K : PySem.W.Frag) (mg : Str → Option Value) : Prop extends TE K mg where
  c__ALPHABET : ∃ u, mg "_ALPHABET" = some u ∧ RelV (.str alpha) u
  c__MOST_LETTERS : ∃ u, mg "_MOST_LETTERS" = some u ∧ RelV (.int 4) u
  c_MAX_STATES : ∃ u, mg "MAX_STATES" = some u ∧ RelV (.int 12) u
  c_MAX_EDGES : ∃ u, mg "MAX_EDGES" = some u ∧ RelV (.int 64) u
  c_MAX_WORD : ∃ u, mg "MAX_WORD" = some u ∧ RelV (.int 8) u
  c_MAX_TEXT : ∃ u, mg "MAX_TEXT" = some u ∧ RelV (.int 60) u
  c__MAX_RESULTS : ∃ u, mg "_MAX_RESULTS" = some u ∧ RelV (.int 1000) u
  b_int : mg "int" = none
  b_bool : mg "bool" = none
  b_tuple : mg "tuple" = none
  b_len : mg "len" = none
  b_str : mg "str" = none
  b_list : mg "list" = none
  b_sorted : mg "sorted" = none
  b_set : mg "set" = none
  b_enumerate : mg "enumerate" = none
  b_any : mg "any" = none
  b_dict : mg "dict" = none
  b_all : mg "all" = none
  b_max : mg "max" = none
  b_abs : mg "abs" = none
  b_repr : mg "repr" = none
  b_min : mg "min" = none
  f_is_integer : ∃ fd, FnP K "is_integer" s_is_integer (ga K "is_integer") fd
  g_is_integer : mg "is_integer" = some (.ref (ga K "is_integer"))
  f_is_below : ∃ fd, FnP K "is_below" s_is_below (ga K "is_below") fd
  g_is_below : mg "is_below" = some (.ref (ga K "is_below"))
  f_is_tuple_of : ∃ fd, FnP K "is_tuple_of" s_is_tuple_of (ga K "is_tuple_of") fd
  g_is_tuple_of : mg "is_tuple_of" = some (.ref (ga K "is_tuple_of"))
  f_is_letter_of : ∃ fd, FnP K "is_letter_of" s_is_letter_of (ga K "is_letter_of") fd
  g_is_letter_of : mg "is_letter_of" = some (.ref (ga K "is_letter_of"))
  f_is_state_of : ∃ fd, FnP K "is_state_of" s_is_state_of (ga K "is_state_of") fd
  g_is_state_of : mg "is_state_of" = some (.ref (ga K "is_state_of"))
  f_is_edge_of : ∃ fd, FnP K "is_edge_of" s_is_edge_of (ga K "is_edge_of") fd
  g_is_edge_of : mg "is_edge_of" = some (.ref (ga K "is_edge_of"))
  f_is_word : ∃ fd, FnP K "is_word" s_is_word (ga K "is_word") fd
  g_is_word : mg "is_word" = some (.ref (ga K "is_word"))
  f_is_text : ∃ fd, FnP K "is_text" s_is_text (ga K "is_text") fd
  g_is_text : mg "is_text" = some (.ref (ga K "is_text"))
  f_is_letters : ∃ fd, FnP K "is_letters" s_is_letters (ga K "is_letters") fd
  g_is_letters : mg "is_letters" = some (.ref (ga K "is_letters"))
  f_sorted_words : ∃ fd, FnP K "sorted_words" s_sorted_words (ga K "sorted_words") fd
  g_sorted_words : mg "sorted_words" = some (.ref (ga K "sorted_words"))
  f_check_text : ∃ fd, FnP K "check_text" s_check_text (ga K "check_text") fd
  g_check_text : mg "check_text" = some (.ref (ga K "check_text"))
  f_check_state : ∃ fd, FnP K "check_state" s_check_state (ga K "check_state") fd
  g_check_state : mg "check_state" = some (.ref (ga K "check_state"))
  f_nodes_from : ∃ fd, FnP K "nodes_from" s_nodes_from (ga K "nodes_from") fd
  g_nodes_from : mg "nodes_from" = some (.ref (ga K "nodes_from"))
  f_nodes_between : ∃ fd, FnP K "nodes_between" s_nodes_between (ga K "nodes_between") fd
  g_nodes_between : mg "nodes_between" = some (.ref (ga K "nodes_between"))
  f_edges_by_start : ∃ fd, FnP K "edges_by_start" s_edges_by_start (ga K "edges_by_start") fd
  g_edges_by_start : mg "edges_by_start" = some (.ref (ga K "edges_by_start"))
  f_edges_by_end : ∃ fd, FnP K "edges_by_end" s_edges_by_end (ga K "edges_by_end") fd
  g_edges_by_end : mg "edges_by_end" = some (.ref (ga K "edges_by_end"))
  f_sources_of : ∃ fd, FnP K "sources_of" s_sources_of (ga K "sources_of") fd
  g_sources_of : mg "sources_of" = some (.ref (ga K "sources_of"))
  f_lefts_along : ∃ fd, FnP K "lefts_along" s_lefts_along (ga K "lefts_along") fd
  g_lefts_along : mg "lefts_along" = some (.ref (ga K "lefts_along"))
  f_some_results : ∃ fd, FnP K "some_results" s_some_results (ga K "some_results") fd
  g_some_results : mg "some_results" = some (.ref (ga K "some_results"))
  f__written_on : ∃ fd, FnP K "_written_on" s__written_on (ga K "_written_on") fd
  g__written_on : mg "_written_on" = some (.ref (ga K "_written_on"))
  f_is_trail : ∃ fd, FnP K "is_trail" s_is_trail (ga K "is_trail") fd
  g_is_trail : mg "is_trail" = some (.ref (ga K "is_trail"))
  f_last_state : ∃ fd, FnP K "last_state" s_last_state (ga K "last_state") fd
  g_last_state : mg "last_state" = some (.ref (ga K "last_state"))
  f_text_of : ∃ fd, FnP K "text_of" s_text_of (ga K "text_of") fd
  g_text_of : mg "text_of" = some (.ref (ga K "text_of"))
  f_written_before_end : ∃ fd, FnP K "written_before_end" s_written_before_end (ga K "written_before_end") fd
  g_written_before_end : mg "written_before_end" = some (.ref (ga K "written_before_end"))
  f_written_by : ∃ fd, FnP K "written_by" s_written_by (ga K "written_by") fd
  g_written_by : mg "written_by" = some (.ref (ga K "written_by"))
  f_check_rewriter : ∃ fd, FnP K "check_rewriter" s_check_rewriter (ga K "check_rewriter") fd
  g_check_rewriter : mg "check_rewriter" = some (.ref (ga K "check_rewriter"))
  f__is_short : ∃ fd, FnP K "_is_short" s__is_short (ga K "_is_short") fd
  g__is_short : mg "_is_short" = some (.ref (ga K "_is_short"))
  f__is_table : ∃ fd, FnP K "_is_table" s__is_table (ga K "_is_table") fd
  g__is_table : mg "_is_table" = some (.ref (ga K "_is_table"))
  f__is_edge : ∃ fd, FnP K "_is_edge" s__is_edge (ga K "_is_edge") fd
  g__is_edge : mg "_is_edge" = some (.ref (ga K "_is_edge"))
  f__are_edges : ∃ fd, FnP K "_are_edges" s__are_edges (ga K "_are_edges") fd
  g__are_edges : mg "_are_edges" = some (.ref (ga K "_are_edges"))
  f_is_path : ∃ fd, FnP K "is_path" s_is_path (ga K "is_path") fd
  g_is_path : mg "is_path" = some (.ref (ga K "is_path"))
  f_reads : ∃ fd, FnP K "reads" s_reads (ga K "reads") fd
  g_reads : mg "reads" = some (.ref (ga K "reads"))
  f_writes : ∃ fd, FnP K "writes" s_writes (ga K "writes") fd
  g_writes : mg "writes" = some (.ref (ga K "writes"))
  f__check_path : ∃ fd, FnP K "_check_path" s__check_path (ga K "_check_path") fd
  g__check_path : mg "_check_path" = some (.ref (ga K "_check_path"))
  f__law_start : ∃ fd, FnP K "_law_start" sStart (ga K "_law_start") fd
  g__law_start : mg "_law_start" = some (.ref (ga K "_law_start"))
  f__law_throw : ∃ fd, FnP K "_law_throw" sThrow (ga K "_law_throw") fd
  g__law_throw : mg "_law_throw" = some (.ref (ga K "_law_throw"))
  f__law_pick : ∃ fd, FnP K "_law_pick" sPick (ga K "_law_pick") fd
  g__law_pick : mg "_law_pick" = some (.ref (ga K "_law_pick"))
  f__law_shuffled : ∃ fd, FnP K "_law_shuffled" s__law_shuffled (ga K "_law_shuffled") fd
  g__law_shuffled : mg "_law_shuffled" = some (.ref (ga K "_law_shuffled"))
  f__law_drawn_word : ∃ fd, FnP K "_law_drawn_word" s__law_drawn_word (ga K "_law_drawn_word") fd
  g__law_drawn_word : mg "_law_drawn_word" = some (.ref (ga K "_law_drawn_word"))
  f__law_drawn_turns : ∃ fd, FnP K "_law_drawn_turns" s__law_drawn_turns (ga K "_law_drawn_turns") fd
  g__law_drawn_turns : mg "_law_drawn_turns" = some (.ref (ga K "_law_drawn_turns"))
  f__law_guesser : ∃ fd, FnP K "_law_guesser" s__law_guesser (ga K "_law_guesser") fd
  g__law_guesser : mg "_law_guesser" = some (.ref (ga K "_law_guesser"))
  f__law_moved : ∃ fd, FnP K "_law_moved" s__law_moved (ga K "_law_moved") fd
  g__law_moved : mg "_law_moved" = some (.ref (ga K "_law_moved"))
  f__law_joined : ∃ fd, FnP K "_law_joined" s__law_joined (ga K "_law_joined") fd
  g__law_joined : mg "_law_joined" = some (.ref (ga K "_law_joined"))
  f__law_two_forms : ∃ fd, FnP K "_law_two_forms" s__law_two_forms (ga K "_law_two_forms") fd
  g__law_two_forms : mg "_law_two_forms" = some (.ref (ga K "_law_two_forms"))
  f__law_split : ∃ fd, FnP K "_law_split" s__law_split (ga K "_law_split") fd
  g__law_split : mg "_law_split" = some (.ref (ga K "_law_split"))
  f__law_thinned : ∃ fd, FnP K "_law_thinned" s__law_thinned (ga K "_law_thinned") fd
  g__law_thinned : mg "_law_thinned" = some (.ref (ga K "_law_thinned"))
  f__law_told_one : ∃ fd, FnP K "_law_told_one" s__law_told_one (ga K "_law_told_one") fd
  g__law_told_one : mg "_law_told_one" = some (.ref (ga K "_law_told_one"))
  f__law_drawn_single : ∃ fd, FnP K "_law_drawn_single" s__law_drawn_single (ga K "_law_drawn_single") fd
  g__law_drawn_single : mg "_law_drawn_single" = some (.ref (ga K "_law_drawn_single"))
  f__law_drawn_any : ∃ fd, FnP K "_law_drawn_any" s__law_drawn_any (ga K "_law_drawn_any") fd
  g__law_drawn_any : mg "_law_drawn_any" = some (.ref (ga K "_law_drawn_any"))
  f__law_behind : ∃ fd, FnP K "_law_behind" s__law_behind (ga K "_law_behind") fd
  g__law_behind : mg "_law_behind" = some (.ref (ga K "_law_behind"))
  f__law_ahead_of : ∃ fd, FnP K "_law_ahead_of" s__law_ahead_of (ga K "_law_ahead_of") fd
  g__law_ahead_of : mg "_law_ahead_of" = some (.ref (ga K "_law_ahead_of"))
  f__law_useful : ∃ fd, FnP K "_law_useful" s__law_useful (ga K "_law_useful") fd
  g__law_useful : mg "_law_useful" = some (.ref (ga K "_law_useful"))
  f__law_built : ∃ fd, FnP K "_law_built" s__law_built (ga K "_law_built") fd
  g__law_built : mg "_law_built" = some (.ref (ga K "_law_built"))
  f__law_is_path : ∃ fd, FnP K "_law_is_path" s__law_is_path (ga K "_law_is_path") fd
  g__law_is_path : mg "_law_is_path" = some (.ref (ga K "_law_is_path"))
  f__law_whole : ∃ fd, FnP K "_law_whole" s__law_whole (ga K "_law_whole") fd
  g__law_whole : mg "_law_whole" = some (.ref (ga K "_law_whole"))
  f__law_is_edge : ∃ fd, FnP K "_law_is_edge" s__law_is_edge (ga K "_law_is_edge") fd
  g__law_is_edge : mg "_law_is_edge" = some (.ref (ga K "_law_is_edge"))
  f__law_read_by : ∃ fd, FnP K "_law_read_by" s__law_read_by (ga K "_law_read_by") fd
  g__law_read_by : mg "_law_read_by" = some (.ref (ga K "_law_read_by"))
  f__law_wrote : ∃ fd, FnP K "_law_wrote" s__law_wrote (ga K "_law_wrote") fd
  g__law_wrote : mg "_law_wrote" = some (.ref (ga K "_law_wrote"))
  f__law_room_at : ∃ fd, FnP K "_law_room_at" s__law_room_at (ga K "_law_room_at") fd
  g__law_room_at : mg "_law_room_at" = some (.ref (ga K "_law_room_at"))
  f__law_drawn_path : ∃ fd, FnP K "_law_drawn_path" s__law_drawn_path (ga K "_law_drawn_path") fd
  g__law_drawn_path : mg "_law_drawn_path" = some (.ref (ga K "_law_drawn_path"))
  f__law_near : ∃ fd, FnP K "_law_near" s__law_near (ga K "_law_near") fd
  g__law_near : mg "_law_near" = some (.ref (ga K "_law_near"))
  f__law_met : ∃ fd, FnP K "_law_met" s__law_met (ga K "_law_met") fd
  g__law_met : mg "_law_met" = some (.ref (ga K "_law_met"))
  f__law_right : ∃ fd, FnP K "_law_right" s__law_right (ga K "_law_right") fd
  g__law_right : mg "_law_right" = some (.ref (ga K "_law_right"))
  y_a : PySem.W.findIn K (.ref (CR K)) "__class__" = some (some (.builtin "object.__class__"))
  y_b : PySem.W.specialIn K (.builtin "object.__class__") "__get__" = some (some (.builtin "getset_descriptor.__get__"))
  y_c : PySem.W.takesIn K (.builtin "object.__class__") = some true
  y_m : PySem.W.mroIn K (CR K) (.type "object") = some true
  k_self : PySem.W.kitOne K (.ref (CR K)) (.ref (CR K)) = some true
  g_Rewriter : mg "Rewriter" = some (.ref (CR K))
  cl : Cls K (CR K)
  n__letters : NoAttr K (CR K) "_letters"
  n__states : NoAttr K (CR K) "_states"
  n__starts : NoAttr K (CR K) "_starts"
  n__edges : NoAttr K (CR K) "_edges"
  n__ends : NoAttr K (CR K) "_ends"
  i_init : ∃ f fd, Mk K (CR K) f ∧ FnM K "__init__" "Rewriter.__init__" s_Rewriter___init__ f fd
  p_letters : ∃ p f fd, PropOf K (CR K) "letters" p f ∧ FnM K "letters" "Rewriter.letters" s_Rewriter_letters f fd
  p_states : ∃ p f fd, PropOf K (CR K) "states" p f ∧ FnM K "states" "Rewriter.states" s_Rewriter_states f fd
  p_starts : ∃ p f fd, PropOf K (CR K) "starts" p f ∧ FnM K "starts" "Rewriter.starts" s_Rewriter_starts f fd
  p_edges : ∃ p f fd, PropOf K (CR K) "edges" p f ∧ FnM K "edges" "Rewriter.edges" s_Rewriter_edges f fd
  p_ends : ∃ p f fd, PropOf K (CR K) "ends" p f ∧ FnM K "ends" "Rewriter.ends" s_Rewriter_ends f fd
  o_call : ∃ f fd, OwnD K (CR K) "__call__" f ∧ PySem.W.fnIn K f = true ∧ FnM K "__call__" "Rewriter.__call__" s_Rewriter___call__ f fd
  o_getitem : ∃ f fd, OwnD K (CR K) "__getitem__" f ∧ PySem.W.fnIn K f = true ∧ FnM K "__getitem__" "Rewriter.__getitem__" s_Rewriter___getitem__ f fd
  o_len : ∃ f fd, OwnD K (CR K) "__len__" f ∧ PySem.W.fnIn K f = true ∧ FnM K "__len__" "Rewriter.__len__" s_Rewriter___len__ f fd
  o_bool : ∃ f fd, OwnD K (CR K) "__bool__" f ∧ PySem.W.fnIn K f = true ∧ FnM K "__bool__" "Rewriter.__bool__" s_Rewriter___bool__ f fd
  o_eq : ∃ f fd, OwnD K (CR K) "__eq__" f ∧ PySem.W.fnIn K f = true ∧ FnM K "__eq__" "Rewriter.__eq__" s_Rewriter___eq__ f fd
end K0
set_option maxRecDepth 100000
set_option maxHeartbeats 2000000
namespace FM
open PySem PySem.Spec PyProof.Rows L2
abbrev khash (P : Program) (w : World) (k : List Key) : Int := tupleKeyHash (mixKind P w) k
abbrev IsKT (P : Program) (w : World) (h : Heap) (k : List Key) (a : Addr) : Prop := IsTupleKey (mixKind P w) h k a
def krows (P : Program) (w : World) (L : List (Addr × List Key)) : List (Int × Value) := L.map fun p => (khash P w p.2, Value.ref p.1)
section
variable {P : Program} {w : World} {A : Around} {E : Value → Shared → Prop} {s : Shared}
/-- a part of a key, as a value -/
def Plain (v : Value) : Prop := (∃ i t, v = .int i t) ∨ ∃ x t, v = .str x t
theorem plain_of {k : List Key} {vs : List Value} (h : ItemsAre (mixKind P w) k vs) : ∀ v ∈ vs, Plain v := by
  induction h with
  | nil => exact fun v z => by cases z
  | cons e _ ih =>
    intro v z
    rcases List.mem_cons.mp z with q | q
    · rw [q]
      rcases keyIs_shape e with ⟨i, u, rfl, rfl⟩ | ⟨x, u, rfl, rfl⟩
      · exact .inl ⟨i, u, rfl⟩
      · exact .inr ⟨x, u, rfl⟩
    · exact ih v q
theorem Plain.calm {v : Value} (p : Plain v) (n : Nat) : ofAClassStatement n v = pure false ∧ ∃ b, hashByValue n v = pure b := by
  rcases p with ⟨i, t, rfl⟩ | ⟨x, t, rfl⟩ <;> cases n <;> exact ⟨rfl, _, rfl⟩
theorem ofAClass_k {k : List Key} {b : Addr} {Q : Bool → Shared → Prop} (hk : IsKT P w s.heap k b) (h : Q false s) : wpAny (model P w) A (ofAClassStatement 8 (.ref b)) Q E s := by
  have ty := hk.typeIs
  obtain ⟨o, its, n, ho, hc, hd, hi⟩ := hk
  unfold ofAClassStatement
  refine wpAny_bind (wpAny_typeOf ty ?_)
  dsimp only
  rw [show (("tuple" : String) == "tuple") = true by decide]
  simp only [if_true, Bool.not_true, Bool.false_eq_true, if_false]
  refine wpAny_bind (m := seqItems? (.ref b)) (wpAny_seqItems ho hd ?_)
  dsimp only
  refine wpAny_bind ?_
  show wpAny _ _ (forIn its _ _) _ _ s
  rw [← Array.forIn_toList]
  refine wpAny_forIn_list _ (fun rest r s' => s' = s ∧ r.1 = none ∧ ∀ v ∈ rest, Plain v) _ ?_ ?_ _ _ ⟨rfl, rfl, plain_of hi⟩
  · rintro v rest r s' ⟨rfl, hr, all⟩
    rw [((all v List.mem_cons_self).calm _).1]
    refine wpAny_bind (wpAny_pure ?_)
    simp only [Bool.false_eq_true, if_false]
    exact wpAny_pure ⟨rfl, rfl, fun u hu => all u (List.mem_cons_of_mem _ hu)⟩
  · rintro ⟨r1, r2⟩ s' ⟨rfl, hr, _⟩
    dsimp only at hr
    subst hr
    exact wpAny_pure h
theorem hashBy_k {k : List Key} {b : Addr} {Q : Bool → Shared → Prop} (hk : IsKT P w s.heap k b) (h : ∀ v, Q v s) : wpAny (model P w) A (hashByValue 8 (.ref b)) Q E s := by
  have ty := hk.typeIs
  obtain ⟨o, its, n, ho, hc, hd, hi⟩ := hk
  unfold hashByValue
  refine wpAny_bind (wpAny_specialOf ty F.slot_tuple_hash.lookup ?_)
  refine wpAny_bind (m := seqItems? (.ref b)) (wpAny_seqItems ho hd ?_)
  refine wpAny_bind ?_
  show wpAny _ _ (forIn its _ _) _ _ s
  rw [← Array.forIn_toList]
  refine wpAny_forIn_list _ (fun rest r s' => s' = s ∧ (r.1 = none ∨ r.1 = some false) ∧ ∀ v ∈ rest, Plain v) _ ?_ ?_ _ _ ⟨rfl, .inl rfl, plain_of hi⟩
  · rintro v rest r s' ⟨rfl, hr, all⟩
    obtain ⟨z, ez⟩ := ((all v List.mem_cons_self).calm 7).2
    rw [ez]
    refine wpAny_bind (wpAny_pure ?_)
    cases z
    · exact wp_if_pos (by decide) (wpAny_pure (wpAny_pure (h _)))
    · exact wp_if_neg (by decide) (wpAny_pure ⟨rfl, .inl rfl, fun u hu => all u (List.mem_cons_of_mem _ hu)⟩)
  · rintro ⟨r1, r2⟩ s' ⟨rfl, hr, _⟩
    dsimp only at hr
    rcases hr with rfl | rfl
    · exact wpAny_pure (h _)
    · exact wpAny_pure (h _)
theorem seen_k {k : List Key} {b : Addr} {Q : Bool → Shared → Prop} (hk : IsKT P w s.heap k b) {ys : List Value} (hy : ∀ y ∈ ys, ∃ k' c, y = Value.ref c ∧ IsKT P w s.heap k' c) (h : Q false s) : wpAny (model P w) A (searchCouldBeSeen (.ref b) ys) Q E s := by
  unfold searchCouldBeSeen
  refine wpAny_bind ?_
  refine wpAny_forIn_list _ (fun rest r s' => s' = s ∧ r.1 = none ∧ ∀ y ∈ rest, ∃ k' c, y = Value.ref c ∧ IsKT P w s.heap k' c) _ ?_ ?_ _ _ ⟨rfl, rfl, hy⟩
  · rintro v rest r s' ⟨rfl, hr, all⟩
    obtain ⟨k2, c, rfl, hc⟩ := all v List.mem_cons_self
    have more := fun u hu => all u (List.mem_cons_of_mem (Value.ref c) hu)
    dsimp only
    by_cases hv : (b == c || (carriedByValue (.ref b) && carriedByValue (.ref c))) = true
    · exact wp_if_pos hv (wpAny_pure ⟨rfl, rfl, more⟩)
    · refine wp_if_neg hv (wpAny_bind (wpAny_eqIsQuiet_tuple hk ?_))
      simp only [Bool.not_true, Bool.false_eq_true, if_false]
      refine wpAny_bind (wpAny_eqIsQuiet_tuple hc ?_)
      simp only [Bool.not_true, Bool.false_eq_true, if_false]
      refine wpAny_bind (ofAClass_k hk ?_)
      simp only [Bool.false_eq_true, if_false]
      refine wpAny_bind (ofAClass_k hc ?_)
      simp only [Bool.false_eq_true, if_false]
      exact wpAny_pure ⟨rfl, rfl, more⟩
  · rintro ⟨r1, r2⟩ s' ⟨rfl, hr, _⟩
    dsimp only at hr
    subst hr
    exact wpAny_pure h
end
structure SetK (P : Program) (w : World) (h : Heap) (a : Addr) (L : List (Addr × List Key)) (es : Array (Int × Value)) (ep : Nat) (t : SetTable) : Prop where
  ob : ∃ o, h.get? a = some o ∧ o.ExactSet ∧ o.data = .set es ep t
  rows : es.toList = krows P w L
  tab : TabOk t (L.map fun p => khash P w p.2)
  nd : (L.map (·.2)).Nodup
  room : L.length * 5 < t.mask * 3
  led : w.params.followText "set-order" = true ∨ t.led = true
  tup : ∀ p ∈ L, IsKT P w h p.2 p.1
section
variable {P : Program} {w : World} {A : Around} {E : Value → Shared → Prop} {s : Shared} {a : Addr} {L : List (Addr × List Key)} {es : Array (Int × Value)} {ep : Nat} {t : SetTable}
theorem krows_size (h : es.toList = krows P w L) : es.size = L.length := by
  have q := congrArg List.length h
  unfold krows at q
  rwa [Array.length_toList, List.length_map] at q
theorem krows_at (h : es.toList = krows P w L) {i : Nat} {p : Addr × List Key} (hp : L[i]? = some p) : es[i]? = some (khash P w p.2, Value.ref p.1) := by
  rw [← Array.getElem?_toList, h]
  unfold krows
  rw [List.getElem?_map, hp]
  rfl
theorem SetK.size (R : SetK P w s.heap a L es ep t) : t.place.size = L.length := by
  have q := R.tab.sz
  rwa [List.length_map] at q
theorem SetK.fits (R : SetK P w s.heap a L es ep t) : t.fits es.size = true := by
  have q := R.room
  unfold SetTable.fits SetTable.fill
  rw [R.size, R.tab.dm, krows_size R.rows, Bool.and_eq_true]
  refine ⟨beq_self_eq_true _, decide_eq_true ?_⟩
  show L.length + 0 ≤ t.mask
  omega
theorem SetK.stands (R : SetK P w s.heap a L es ep t) : ¬ t.gaveWay = true := by
  unfold SetTable.gaveWay
  rw [mask_odd R.tab.mok]
  decide
theorem search_k (R : SetK P w s.heap a L es ep t) {x : Addr} {k : List Key} (hx : IsKT P w s.heap k x) (hu : A.units < cLine) {K : Nat} (lim : K < 10 * SetTable.turns t.mask) (out : (path t.mask (khash P w k) K).j ∉ t.place.toList)
    (ins : ∀ c, c < K → (path t.mask (khash P w k) c).j ∈ t.place.toList) {Q : SetFound → Shared → Prop} (same : k ∈ L.map (·.2) → Q (.there none) s) (free : k ∉ L.map (·.2) → Q (.free (path t.mask (khash P w k) K).j false) s) :
    ∀ (f c : Nat) (st : Option SetTable.Probe), st.getD (t.probeStart (khash P w k)) = path t.mask (khash P w k) c → c ≤ K → K - c < f →
      (∀ (i : Nat) p, L[i]? = some p → p.2 = k → ∃ c', c ≤ c' ∧ c' < K ∧ t.place.toList[i]? = some (path t.mask (khash P w k) c').j) → wpAny (model P w) A (setSearchFrom a (.ref x) (khash P w k) true f st) Q E s
  | 0, _, _, _, _, hf, _ => absurd hf (Nat.not_lt_zero _)
  | f + 1, c, st, hst, hc, hf, ahead => by
    obtain ⟨o, ho, hex, hd⟩ := R.ob
    have on : ∀ q, nth t.mask (path t.mask (khash P w k) c) q = path t.mask (khash P w k) (c + q) := fun q => (nth_add t.mask c _ q).symm
    rw [setSearchFrom_succ]
    refine wpAny_bind (wpAny_setState_of ho hd R.fits ?_)
    dsimp only
    refine wp_if_neg R.stands ?_
    have hash : ∀ (i : Nat) p, L[i]? = some p → (fun i => (es[i]?.map (·.1)).getD 0) i = khash P w p.2 := fun i p hp => by
      show (es[i]?.map (·.1)).getD 0 = _
      rw [krows_at R.rows hp]
      rfl
    have spec := go_spec t R.tab.ris R.tab.dm (fun i => (es[i]?.map (·.1)).getD 0) (khash P w k) (10 * SetTable.turns t.mask) (K - c) _ (path_none _ _ c) (by omega)
      (fun q hq => by rw [on]; exact ins (c + q) (by omega)) (by rw [on, show c + (K - c) = K by omega]; exact out)
    rcases spec with ⟨q, i, hq, hi, hh, hno, hpr⟩ | ⟨hno, hpr⟩
    · have pr : t.probe (fun i => (es[i]?.map (·.1)).getD 0) (khash P w k) (st.getD (t.probeStart (khash P w k))) = some (.candidate (path t.mask (khash P w k) (c + q)).j i (path t.mask (khash P w k) (c + (q + 1)))) := by
        rw [hst, ← on, ← on]
        exact hpr
      rw [on] at hi
      rw [pr]
      dsimp only
      have il : i < L.length := by
        have h1 := (List.getElem?_eq_some_iff.mp hi).1
        rw [Array.length_toList, R.size] at h1
        exact h1
      obtain ⟨p, hp⟩ : ∃ p, L[i]? = some p := ⟨L[i], List.getElem?_eq_getElem il⟩
      have mem : p ∈ L := List.mem_of_getElem? hp
      have tail : wpAny (model P w) A (searchRest a (.ref x) (khash P w k) true f es t (path t.mask (khash P w k) (c + q)).j i (path t.mask (khash P w k) (c + (q + 1)))) Q E s := by
        unfold searchRest
        rw [krows_at R.rows hp]
        dsimp only
        refine wpAny_bind (wpAny_holding (wpAny_eqBool_tuple hu (R.tup p mem) hx ?_))
        refine wpAny_bind (wpAny_setState_of ho hd R.fits ?_)
        dsimp only
        by_cases e : p.2 = k
        · refine wp_if_pos (by simp [e]) (wpAny_pure (same (List.mem_map.mpr ⟨p, mem, e⟩)))
        · refine wp_if_neg (by simp [e]) ?_
          rw [sameMem]
          dsimp only
          have live := slot_live R.tab.ris hi
          simp only [if_true, live, krows_at R.rows hp]
          refine wpAny_bind (wpAny_isSame_ref_self (wpAny_bind (wpAny_pure ?_)))
          simp only [if_true]
          refine wp_if_neg (by simp [e]) ?_
          refine search_k R hx hu lim out ins same free f (c + (q + 1)) _ rfl (by omega) (by omega) fun i0 p0 h0 e0 => ?_
          obtain ⟨c', b1, b2, b3⟩ := ahead i0 p0 h0 e0
          refine ⟨c', ?_, b2, b3⟩
          have n1 : ¬ c' < c + q := fun z => hno (c' - c) i0 (by omega) (by rw [on, show c + (c' - c) = c' by omega]; exact b3) ((hash i0 p0 h0).trans (congrArg (khash P w) e0))
          have n2 : c' ≠ c + q := fun z => by
            rw [z] at b3
            have s0 := slot_live R.tab.ris b3
            rw [live] at s0
            injection s0 with s0
            rw [← s0, hp] at h0
            exact e ((congrArg Prod.snd (Option.some.inj h0)).trans e0)
          omega
      by_cases l : t.led = true
      · exact wp_if_neg (by simp [l]) tail
      · refine wp_if_pos (by simp [l]) (wpAny_bind (seen_k hx (fun y hy => ?_) (wp_if_neg (by decide) tail)))
        obtain ⟨e, he, rfl⟩ := List.mem_map.mp hy
        have h1 : e ∈ es ∧ e.1 = khash P w k := by simpa using he
        have h2 : e ∈ es.toList := by simpa using h1.1
        rw [R.rows] at h2
        obtain ⟨p2, hp2, rfl⟩ := List.mem_map.mp h2
        exact ⟨p2.2, p2.1, rfl, R.tup p2 hp2⟩
    · have pr : t.probe (fun i => (es[i]?.map (·.1)).getD 0) (khash P w k) (st.getD (t.probeStart (khash P w k))) = some (.empty (path t.mask (khash P w k) K).j none) := by
        rw [on, show c + (K - c) = K by omega] at hpr
        rw [hst]
        exact hpr
      rw [pr]
      refine wpAny_pure (free fun hm => ?_)
      obtain ⟨p0, h0, e0⟩ := List.mem_map.mp hm
      obtain ⟨i0, hi0, e1⟩ := List.getElem_of_mem h0
      have h00 : L[i0]? = some p0 := by rw [List.getElem?_eq_getElem hi0, e1]
      obtain ⟨c', b1, b2, b3⟩ := ahead i0 p0 h00 e0
      exact hno (c' - c) i0 (by omega) (by rw [on, show c + (c' - c) = c' by omega]; exact b3) ((hash i0 p0 h00).trans (congrArg (khash P w) e0))
theorem krows_put (L : List (Addr × List Key)) (p : Nat) (x : Addr) (k : List Key) : krows P w (L.take p ++ (x, k) :: L.drop p) = (krows P w L).take p ++ (khash P w k, Value.ref x) :: (krows P w L).drop p := by
  simp only [krows, List.map_append, List.map_cons, List.map_take, List.map_drop]
theorem isKT_same {h h' : Heap} {k : List Key} {a b : Addr} {o : Obj} {es : Array (Int × Value)} {ep : Nat} {t : SetTable} (hb : IsKT P w h k b) (ho : h.get? a = some o) (hd : o.data = .set es ep t) (hs : Heap.SameBut a h h') : IsKT P w h' k b := by
  obtain ⟨o2, its, n, e1, e2, e3, e4⟩ := hb
  refine ⟨o2, its, n, (hs.2 b fun z => ?_).trans e1, e2, e3, e4⟩
  rw [z, ho] at e1
  cases e1
  rw [hd] at e3
  cases e3
theorem isKT_keep {h h' : Heap} {k : List Key} {b : Addr} (x : IsKT P w h k b) (k' : ∀ c o, h.get? c = some o → h'.get? c = some o) : IsKT P w h' k b := let ⟨o, its, n, e, r⟩ := x; ⟨o, its, n, k' b o e, r⟩
theorem fm_range {α : Type} : ∀ l : List α, (List.range l.length).filterMap (fun i => l[i]?) = l
  | [] => rfl
  | a :: l => by
    rw [List.length_cons, List.range_succ_eq_map]
    show a :: (List.map Nat.succ (List.range l.length)).filterMap (fun i => (a :: l)[i]?) = _
    rw [List.filterMap_map]
    exact congrArg (a :: ·) (fm_range l)
theorem kt_order {L : List (Addr × List Key)} {es : Array (Int × Value)} {order : Array Nat} (hr : es.toList = krows P w L) (hp : order.toList.Perm (List.range L.length)) :
    ∃ L2, (order.filterMap (es[·]?)).toList = krows P w L2 ∧ L2.Perm L ∧ (L2.map fun p => khash P w p.2) = order.toList.map fun i => (es.map (·.1)).getD i 0 := by
  have at_ : ∀ i : Nat, es[i]? = (L[i]?).map fun p : Addr × List Key => (khash P w p.2, Value.ref p.1) := fun i => by
    rw [← Array.getElem?_toList, hr]
    unfold krows
    rw [List.getElem?_map]
  have lt : ∀ i ∈ order.toList, i < L.length := fun i hi => List.mem_range.mp (hp.mem_iff.mp hi)
  refine ⟨order.toList.filterMap (L[·]?), ?_, ?_, ?_⟩
  · rw [Array.toList_filterMap]
    unfold krows
    rw [List.map_filterMap]
    exact congrArg (fun f => List.filterMap f order.toList) (funext at_)
  · have := hp.filterMap (L[·]?)
    rwa [fm_range] at this
  · clear hp
    generalize order.toList = l at lt
    induction l with
    | nil => rfl
    | cons i l ih =>
      have hi := lt i List.mem_cons_self
      rw [List.filterMap_cons_some (List.getElem?_eq_getElem hi), List.map_cons, List.map_cons, ih fun j hj => lt j (List.mem_cons_of_mem _ hj)]
      congr 1
      have e5 : (es.map (·.1))[i]? = some (khash P w (L[i]).2) := by
        rw [Array.getElem?_map, at_, List.getElem?_eq_getElem hi]
        rfl
      simp [Array.getD_eq_getD_getElem?, e5]
/-- laid anew, larger -/
theorem relay_k {o : Obj} (ho : s.heap.get? a = some o) (hex : o.ExactSet) (hd : o.data = .set es ep t) (hr : es.toList = krows P w L) (hsz : t.place.size = es.size) (hdm : t.dummies = #[]) (hfl : es.size ≤ t.mask)
    (nd : (L.map (·.2)).Nodup) (tup : ∀ p ∈ L, IsKT P w s.heap p.2 p.1) (ld : w.params.followText "set-order" = true ∨ t.led = true) (few : L.length < 64) {wanted M : Nat}
    (hw : SetTable.sizeAbove wanted - 1 = M) (hM : MaskOk M) (hn : L.length * 5 < M * 3) {Q : Unit → Shared → Prop}
    (hQ : ∀ h' L' es' ep' t', Heap.SameBut a s.heap h' → SetK P w h' a L' es' ep' t' → L'.Perm L → Q () { s with heap := h' }) : wpAny (model P w) A (setRelay a wanted) Q E s := by
  have hsl := krows_size hr
  have fits : t.fits es.size = true := by
    unfold SetTable.fits SetTable.fill
    rw [hdm, Bool.and_eq_true]
    refine ⟨beq_iff_eq.mpr hsz, decide_eq_true ?_⟩
    show t.place.size + 0 ≤ t.mask
    omega
  have M5 : M ≤ 127 := by rcases hM with e | e | e <;> omega
  obtain ⟨t', order, e, hp, T, em, el, ep', edm⟩ := relaid_ok t (hs := es.map (·.1)) (wanted := wanted) hw hM (by rw [Array.size_map, hsl]; omega)
  rw [Array.size_map, hsl] at hp
  obtain ⟨L2, r1, r2, r3⟩ := kt_order hr hp
  rw [← r3] at T
  have hs2 : (order.filterMap (es[·]?)).size = es.size := by rw [krows_size r1, r2.length_eq, hsl]
  have big : (512 : Nat) ≤ sizeLine := by decide
  rw [setRelay_eq]
  refine wpAny_bind (wpAny_setState_of ho hd fits ?_)
  dsimp only
  refine wp_if_neg (by omega) ?_
  rw [e]
  dsimp only
  refine wpAny_bind ?_
  refine wp_if_neg (by rw [hs2]; simp) ?_
  refine wpAny_pure ?_
  dsimp only
  refine wpAny_storeSet_of ho hd ?_ (by rw [hs2, hsl]; omega)
  have sb : Heap.SameBut a s.heap (s.heap.update a (Obj.putSet (order.filterMap (es[·]?)) t')) := Heap.SameBut.update ..
  refine hQ _ L2 (order.filterMap (es[·]?)) (ep + 1) t' sb ?_ r2
  exact ⟨⟨_, store_at ho hd, ⟨hex.1, hex.2.1, hex.2.2⟩, rfl⟩, r1, T, (r2.map _).nodup_iff.mpr nd, by rw [r2.length_eq, em]; exact hn, by rw [el]; exact ld, fun p hpm => isKT_same (tup p (r2.mem_iff.mp hpm)) ho hd sb⟩
theorem kgrown_5 : SetTable.sizeAbove (SetTable.grown 5) - 1 = 31 := by decide +kernel
theorem kgrown_19 : SetTable.sizeAbove (SetTable.grown 19) - 1 = 127 := by decide +kernel
theorem add_k (R : SetK P w s.heap a L es ep t) {x : Addr} {k : List Key} (hx : IsKT P w s.heap k x) (hu : A.units < cLine) (few : L.length < 63) {Q : Bool → Shared → Prop}
    (hQ : ∀ b h' L' es' ep' t', Heap.SameBut a s.heap h' → SetK P w h' a L' es' ep' t' → (L' = L ∧ k ∈ L.map (·.2)) ∨ (k ∉ L.map (·.2) ∧ L'.Perm ((x, k) :: L)) → Q b { s with heap := h' }) :
    wpAny (model P w) A (setAddHashed a (.ref x) (khash P w k)) Q E s := by
  obtain ⟨o, ho, hex, hd⟩ := R.ob
  have hsl := krows_size R.rows
  have hroom := R.room
  have ml : t.mask ≤ 127 := by rcases R.tab.mok with e | e | e <;> omega
  obtain ⟨K, lim, out, ins⟩ := R.tab.first (by rw [List.length_map]; omega) (khash P w k)
  have hbig : K < 100000 := by
    have : 10 * SetTable.turns t.mask ≤ 10000 := by
      unfold SetTable.turns
      rcases R.tab.mok with e | e | e <;> omega
    omega
  unfold setAddHashed
  refine wpAny_holding ?_
  rw [show (100000 : Nat) = 99999 + 1 from rfl, setAddHashedIn_succ]
  refine wpAny_bind (wpAny_setState_of ho hd R.fits ?_)
  dsimp only
  refine wp_if_neg (by simp [byScan, Value.scannable]) ?_
  refine wpAny_bind ?_
  unfold setSearch
  refine search_k R hx hu lim out ins ?same ?free 100000 0 none rfl (Nat.zero_le _) (by omega) fun i p hp e => ?ahead
  case ahead =>
    have hi : (L.map fun p => khash P w p.2)[i]? = some (khash P w k) := by
      rw [List.getElem?_map, hp, ← e]
      rfl
    have il : i < t.place.toList.length := by
      rw [Array.length_toList, R.size]
      exact (List.getElem?_eq_some_iff.mp hp).1
    have hj := List.getElem?_eq_getElem il
    obtain ⟨c, hc, e2⟩ := R.tab.before out hi hj
    exact ⟨c, Nat.zero_le _, hc, by rw [hj, ← e2]⟩
  case same =>
    intro hm
    dsimp only
    exact wpAny_pure (hQ false s.heap L es ep t (Heap.SameBut.refl a s.heap) R (.inl ⟨rfl, hm⟩))
  case free =>
    intro hno
    dsimp only
    refine wpAny_bind (wpAny_setState_of ho hd R.fits ?_)
    dsimp only
    have qq : (t.put (path t.mask (khash P w k) K).j).2 = SetTable.below t.place (path t.mask (khash P w k) K).j ∧ SetTable.below t.place (path t.mask (khash P w k) K).j ≤ (L.map fun p => khash P w p.2).length ∧
        TabOk (t.put (path t.mask (khash P w k) K).j).1 ((L.map fun p => khash P w p.2).take (SetTable.below t.place (path t.mask (khash P w k) K).j) ++ khash P w k :: (L.map fun p => khash P w p.2).drop (SetTable.below t.place (path t.mask (khash P w k) K).j)) ∧
        (t.put (path t.mask (khash P w k) K).j).1.mask = t.mask ∧ (t.put (path t.mask (khash P w k) K).j).1.led = t.led ∧ (t.put (path t.mask (khash P w k) K).j).1.fill = (L.map fun p => khash P w p.2).length + 1 := by
      obtain ⟨q1, q2, T1, m1, l1, p1, mv1, fg1, fill1⟩ := R.tab.put out ins
      exact ⟨q1, q2, T1, m1, l1, fill1⟩
    generalize (path t.mask (khash P w k) K).j = j at qq ⊢
    obtain ⟨q1, q2, T1, m1, l1, fill1⟩ := qq
    rw [List.length_map] at q2 fill1
    rw [q1]
    have hin : (SetTable.insertAt es (SetTable.below t.place j) (khash P w k, Value.ref x)).toList = krows P w (L.take (SetTable.below t.place j) ++ (x, k) :: L.drop (SetTable.below t.place j)) := by
      rw [SetTable.toList_insertAt, krows_put, R.rows]
    have pm := put_perm L (SetTable.below t.place j) (x, k)
    have T2 : TabOk (t.put j).1 ((L.take (SetTable.below t.place j) ++ (x, k) :: L.drop (SetTable.below t.place j)).map fun p => khash P w p.2) := by
      rw [List.map_append, List.map_cons, List.map_take, List.map_drop]
      exact T1
    have hlen := pm.length_eq
    rw [List.length_cons] at hlen
    have hes := (krows_size hin).trans hlen
    generalize SetTable.insertAt es (SetTable.below t.place j) (khash P w k, Value.ref x) = es1 at hin hes ⊢
    generalize L.take (SetTable.below t.place j) ++ (x, k) :: L.drop (SetTable.below t.place j) = L1 at pm hlen hin T2
    clear T1 q1 q2
    have big : (512 : Nat) ≤ sizeLine := by decide
    have nd1 : (L1.map (·.2)).Nodup := (pm.map _).nodup_iff.mpr (List.nodup_cons.mpr ⟨hno, R.nd⟩)
    have key : ∀ v : Bool, ∃ t2 : SetTable, (if v = true then (t.put j).1 else { (t.put j).1 with plain := false }) = t2 ∧ TabOk t2 (L1.map fun p => khash P w p.2) ∧ t2.mask = t.mask ∧ t2.led = t.led ∧ t2.fill = L.length + 1 := fun v => by
      cases v
      · exact ⟨_, if_neg Bool.false_ne_true, ⟨T2.ris, T2.dm, T2.sz, T2.mok, T2.bd, T2.reach⟩, m1, l1, fill1⟩
      · exact ⟨_, if_pos rfl, T2, m1, l1, fill1⟩
    have fin : ∀ t2 : SetTable, TabOk t2 (L1.map fun p => khash P w p.2) → t2.mask = t.mask → t2.led = t.led → t2.fill = L.length + 1 → wpAny (model P w) A (do
        storeSet a es1 t2
        if (!false && t2.tooFull) = true then do
            setRelay a (SetTable.grown (es.size + 1))
            pure true
          else pure true) Q E s := fun t2 T3 m2 l2 f2 => by
      refine wpAny_bind (wpAny_storeSet_of ho hd ?_ (by rw [hes]; omega))
      have sb : Heap.SameBut a s.heap (s.heap.update a (Obj.putSet es1 t2)) := Heap.SameBut.update ..
      have ho1 := store_at (es' := es1) (t' := t2) ho hd
      generalize s.heap.update a (Obj.putSet es1 t2) = h1 at sb ho1 ⊢
      have tup1 : ∀ p ∈ L1, IsKT P w h1 p.2 p.1 := fun p hp => by
        rcases List.mem_cons.mp (pm.mem_iff.mp hp) with e | hp
        · rw [e]; exact isKT_same hx ho hd sb
        · exact isKT_same (R.tup p hp) ho hd sb
      have ld1 : w.params.followText "set-order" = true ∨ t2.led = true := by rw [l2]; exact R.led
      have sz3 := T3.sz
      rw [List.length_map, hlen] at sz3
      by_cases hf : t2.tooFull = true
      · refine wp_if_pos (by simp [hf]) (wpAny_bind ?_)
        have full : (L.length + 1) * 5 ≥ t2.mask * 3 := by
          have h := hf
          unfold SetTable.tooFull at h
          rwa [decide_eq_true_eq, f2] at h
        rw [m2] at full
        rw [hsl]
        have go : ∀ M, SetTable.sizeAbove (SetTable.grown (L.length + 1)) - 1 = M → MaskOk M → (L.length + 1) * 5 < M * 3 → L.length + 1 ≤ t2.mask →
            wpAny (model P w) A (setRelay a (SetTable.grown (L.length + 1))) (fun _ s' => wpAny (model P w) A (pure true) Q E s') E { s with heap := h1 } := fun M g1 g2 g3 g4 => by
          refine relay_k (s := { s with heap := h1 }) ho1 ⟨hex.1, hex.2.1, hex.2.2⟩ rfl hin (by rw [sz3, hes]) T3.dm (by rw [hes]; exact g4) nd1 tup1 ld1 (by omega) g1 g2 (by rw [hlen]; exact g3) ?_
          intro h2 L2 es2 ep2 t3 sb2 R2 pm2
          exact wpAny_pure (hQ true h2 L2 es2 ep2 t3 (sb.trans sb2) R2 (.inr ⟨hno, pm2.trans pm⟩))
        rw [m2] at go
        rcases R.tab.mok with e | e | e
        · have e2 : L.length + 1 = 5 := by rw [e] at full hroom; omega
          exact go 31 (by rw [e2]; exact kgrown_5) (.inr (.inl rfl)) (by omega) (by omega)
        · have e2 : L.length + 1 = 19 := by rw [e] at full hroom; omega
          exact go 127 (by rw [e2]; exact kgrown_19) (.inr (.inr rfl)) (by omega) (by omega)
        · exact absurd full (by rw [e]; omega)
      · refine wp_if_neg (by simp [hf]) ?_
        refine wpAny_pure (hQ true h1 L1 es1 (ep + 1) t2 sb ⟨⟨_, ho1, ⟨hex.1, hex.2.1, hex.2.2⟩, rfl⟩, hin, T3, nd1, ?_, ld1, tup1⟩ (.inr ⟨hno, pm⟩))
        have h := hf
        unfold SetTable.tooFull at h
        rw [decide_eq_true_eq, f2] at h
        rw [hlen]
        omega
    by_cases pl : (t.put j).1.plain = true
    · refine wp_if_pos pl (wpAny_bind (hashBy_k hx fun v => ?_))
      obtain ⟨t2, e2, T3, m2, l2, f2⟩ := key v
      rw [e2]
      exact fin t2 T3 m2 l2 f2
    · refine wp_if_neg pl (wpAny_bind (wpAny_pure ?_))
      obtain ⟨t2, e2, T3, m2, l2, f2⟩ := key true
      rw [e2]
      exact fin t2 T3 m2 l2 f2
end
structure GotK (ks : List (Addr × List Key)) (i : Nat) (L : List (Addr × List Key)) : Prop where
  sub : ∀ p ∈ L, p ∈ ks.take i
  all : ∀ p ∈ ks.take i, p.2 ∈ L.map (·.2)
  len : L.length ≤ i
theorem gotK_next {ks L L' : List (Addr × List Key)} {i : Nat} {x : Addr × List Key} (g : GotK ks i L) (h : ks[i]? = some x) (c : (L' = L ∧ x.2 ∈ L.map (·.2)) ∨ (x.2 ∉ L.map (·.2) ∧ L'.Perm (x :: L))) : GotK ks (i + 1) L' := by
  have next : ks.take (i + 1) = ks.take i ++ [x] := by
    rw [List.take_add_one, h]
    rfl
  rcases c with ⟨rfl, m⟩ | ⟨_, c⟩
  · refine ⟨fun p hp => ?_, fun p hp => ?_, Nat.le_succ_of_le g.len⟩
    · rw [next]
      exact List.mem_append_left _ (g.sub p hp)
    · rw [next] at hp
      rcases List.mem_append.mp hp with q | q
      · exact g.all p q
      · rw [List.mem_singleton.mp q]
        exact m
  · refine ⟨fun p hp => ?_, fun p hp => (c.map _).mem_iff.mpr ?_, by rw [c.length_eq]; exact Nat.succ_le_succ g.len⟩
    · rw [next]
      rcases List.mem_cons.mp (c.mem_iff.mp hp) with q | q
      · rw [q]
        exact List.mem_append_right _ (List.mem_singleton.mpr rfl)
      · exact List.mem_append_left _ (g.sub p q)
    · rw [next] at hp
      rcases List.mem_append.mp hp with q | q
      · exact List.mem_cons_of_mem _ (g.all p q)
      · rw [List.mem_singleton.mp q]
        exact List.mem_cons_self
theorem GotK.zero (ks : List (Addr × List Key)) : GotK ks 0 [] := ⟨(fun p h => by cases h), (fun p h => by simp at h), Nat.le_refl _⟩
section
variable {P : Program} {w : World} {A : Around} {E : Value → Shared → Prop} {s : Shared}
theorem SetK.keep {h h' : Heap} {a : Addr} {L : List (Addr × List Key)} {es : Array (Int × Value)} {ep : Nat} {t : SetTable} (R : SetK P w h a L es ep t) (ha : ∀ o, h.get? a = some o → h'.get? a = some o) (ht : ∀ p ∈ L, IsKT P w h' p.2 p.1) : SetK P w h' a L es ep t := by
  obtain ⟨o, ho, r⟩ := R.ob
  exact ⟨⟨o, ha o ho, r⟩, R.rows, R.tab, R.nd, R.room, R.led, ht⟩
theorem setK_fresh {h : Heap} {a : Addr} (ho : h.get? a = some (freshSet w)) : SetK P w h a [] #[] 0 (.fresh 0 0 (!w.params.followText "set-order")) where
  ob := ⟨_, ho, ⟨rfl, rfl, rfl⟩, rfl⟩
  rows := rfl
  tab := ⟨List.Pairwise.nil, rfl, rfl, .inl rfl, (fun x hx => by cases hx), (fun i h j e => by simp at e)⟩
  nd := .nil
  room := by show 0 * 5 < 7 * 3; decide
  tup := fun p hp => by cases hp
  led := by
    show _ ∨ (!w.params.followText "set-order") = true
    cases w.params.followText "set-order"
    · exact .inr rfl
    · exact .inl rfl
theorem set_update_k {I : Addr} {fp wr : List Addr} {G : Array GenState → Array GenState → Prop} {n : Nat} {Pv : Nat → Value → Prop} {St : Nat → Shared → Prop} {R : Result → Shared → Prop}
    (W : WalksS P w A.in1 I fp wr G n Pv St) (S : Addr) (hSf : S ∉ fp) (ks : List (Addr × List Key)) (hn : n = ks.length) (hfew : ∀ i L, GotK ks i L → (L.map (·.2)).Nodup → i < ks.length → L.length < 63) (hval : ∀ i v, Pv i v → ∃ p, ks[i]? = some p ∧ v = .ref p.1)
    (h0 : Heap) (hk : ∀ p ∈ ks, IsKT P w h0 p.2 p.1) (hS0 : h0.get? S = none) (hw0 : ∀ b ∈ wr, h0.get? b = none) (hu : A.in1.units < cLine) :
    ∀ (k i : Nat) (s : Shared), n - i = k → i ≤ n → St i s → (∀ b o, h0.get? b = some o → s.heap.get? b = some o) → (∃ L es ep t, SetK P w s.heap S L es ep t ∧ GotK ks i L) →
      (∀ s' L es ep t, Moved (S :: wr) G s s' → SetK P w s'.heap S L es ep t → GotK ks n L → (∀ b o, h0.get? b = some o → s'.heap.get? b = some o) → R (.ok (.ret .none)) s') →
      codeAny (model P w) A (.builtin "set.update.loop" ⟨[.ref S, .ref I], []⟩) R s := by
  have hSw : S ∉ wr := fun h => hSf (W.sub _ h)
  have hsub : ∀ b ∈ wr, b ∈ S :: wr := fun b hb => List.mem_cons_of_mem _ hb
  have keepM : ∀ {s s' : Shared}, Moved wr G s s' → (∀ b o, h0.get? b = some o → s.heap.get? b = some o) → ∀ b o, h0.get? b = some o → s'.heap.get? b = some o := fun hm hkp b o e =>
    hm.heap b o (fun hb => by rw [hw0 b hb] at e; cases e) (hkp b o e)
  intro k
  induction k with
  | zero =>
    intro i s hk' hi hst hkp ⟨L, es, ep, t, hS, g⟩ hR
    have hin : i = n := by omega
    subst hin
    refine codeAny_builtin F.entry_set_update_loop ?_
    rw [Around.under_plainId F.plain_set_update_loop _]
    show wpAny _ A.in1 (pyNext (.ref I) >>= _) _ _ s
    refine wpAny_bind (W.done s _ _ hst fun s' hm => ?_)
    show wpAny _ A.in1 (ret Value.none) _ _ s'
    have hkp' := keepM hm hkp
    exact wpAny_pure (hR s' L es ep t (hm.mono hsub) (hS.keep (fun o e => hm.heap S o hSw e) fun p hp => isKT_keep (hk p (List.mem_of_mem_take (g.sub p hp))) hkp') g hkp')
  | succ k ih =>
    intro i s hk' hi hst hkp ⟨L, es, ep, t, hS, g⟩ hR
    have hlt : i < n := by omega
    refine codeAny_builtin F.entry_set_update_loop ?_
    rw [Around.under_plainId F.plain_set_update_loop _]
    show wpAny _ A.in1 (pyNext (.ref I) >>= _) _ _ s
    refine wpAny_bind (W.item i s _ _ hlt hst fun v s' hP hst' hm => ?_)
    obtain ⟨p, hp, rfl⟩ := hval i v hP
    have hkp' := keepM hm hkp
    have hS' : SetK P w s'.heap S L es ep t := hS.keep (fun o e => hm.heap S o hSw e) fun q hq => isKT_keep (hk q (List.mem_of_mem_take (g.sub q hq))) hkp'
    have hx : IsKT P w s'.heap p.2 p.1 := isKT_keep (hk p (List.mem_of_getElem? hp)) hkp'
    show wpAny _ A.in1 (holding [Value.ref p.1] (setAdd S (.ref p.1)) >>= _) _ _ s'
    refine wpAny_bind (wpAny_holding ?_)
    unfold setAdd
    refine wpAny_holding ?_
    refine wpAny_bind (wpAny_pyHash_tuple hu hx ?_)
    refine add_k (s := { s' with toks := s'.toks + (p.2.length + 1) }) hS' hx hu (hfew i L g hS'.nd (by omega)) fun b h' L' es' ep' t' hsb hS2 c => ?_
    have g' : GotK ks (i + 1) L' := gotK_next g hp c
    have hkp2 : ∀ b o, h0.get? b = some o → h'.get? b = some o := fun b o e => (hsb.2 b (fun z => by rw [z, hS0] at e; cases e)).trans (hkp' b o e)
    refine wpAny_pure ⟨plainId_quiet F.plain_set_update_loop _, ih (i + 1) _ (by omega) hlt (W.frame _ s' _ _ hst' (Nat.le_add_right _ _) fun b hb o e => ?_) hkp2 ⟨L', es', ep', t', hS2, g'⟩ fun s'' L2 es2 ep2 t2 hm'' hS'' g'' hkp'' => ?_⟩
    · rw [hsb.2 b (fun h : b = S => hSf (by rw [← h]; exact hb))]; exact e
    · refine hR s'' L2 es2 ep2 t2 (Moved.trans W.gtrans ((hm.mono hsub).then_heap (Nat.le_add_right _ _) fun b o hb e => ?_) hm'') hS'' g'' hkp''
      rw [hsb.2 b (fun h : b = S => hb (by rw [h]; exact List.mem_cons_self))]; exact e
theorem call_set_k {l : Addr} {items : Array Value} (ks : List (Addr × List Key)) {Q : Value → Shared → Prop} (hh : A.handled = none) (hl : s.heap.IsList l items) (hit : items.toList = ks.map fun p => Value.ref p.1)
    (hk : ∀ p ∈ ks, IsKT P w s.heap p.2 p.1) (hfew : ∀ i L, GotK ks i L → (L.map (·.2)).Nodup → i < ks.length → L.length < 63) (hu : A.units + 3 < cLine)
    (h : ∀ (h' : Heap) (tk : Nat) L es ep t, SetK P w h' s.heap.objs.size L es ep t → GotK ks ks.length L → (∀ b o, s.heap.get? b = some o → h'.get? b = some o) → Q (.ref s.heap.objs.size) { s with heap := h', toks := tk }) :
    wpAny (model P w) A (call (.type "set") [.ref l]) Q E s := by
  have hisz : items.size = ks.length := by
    have q := congrArg List.length hit
    rw [Array.length_toList, List.length_map] at q
    exact q
  obtain ⟨c, tl, hmro⟩ := F.called_set.mro
  have hmade := F.called_set.made
  have hsub := F.called_set.sub
  refine wpAny_call (codeAny_of_tree ?_)
  show wpAny _ _ (callAny (.type "set") _) _ _ _
  refine wpAny_pure ⟨Code.quiet_builtin _ (by decide +kernel), codeAny_builtin PySem.F.entry_type_call ?_⟩
  rw [Around.under_plain (weight_type_call_type "set" [.ref l] []) rfl]
  have h1 := F.called_set.notType
  have h2 := F.called_set.canCreate
  have hct := F.typeCall_set_1 (.ref l)
  repeat (any_goals (first | assumption | wp_step))
  refine codeAny_mono (code_set_led1 (.ref l) (E := E) (Q₁ := fun obj s₁ => obj = .ref s.heap.objs.size ∧ s₁ = { s with heap := s.heap.push (freshSet w) }) ⟨rfl, rfl⟩) fun r s₁ hr => ?_
  cases r with
  | error e => exact hr
  | ok fl =>
    cases fl with
    | ret obj =>
      obtain ⟨rfl, rfl⟩ := hr
      have hS : (s.heap.push (freshSet w)).get? s.heap.objs.size = some (freshSet w) := Heap.get?_push_size _ rfl
      have hT : Shared.TypeIs { s with heap := s.heap.push (freshSet w) } (.ref s.heap.objs.size) "set" := ⟨_, hS, rfl⟩
      have hli := F.called_set.init.lookup
      have hbi := F.called_set.init.bind (.ref s.heap.objs.size)
      repeat (any_goals (first | assumption | wp_step))
      refine codeAny_mono (codeAny_call_builtin (R := wants (fun r s₂ => r = .none ∧ ∃ h' tk L es ep t, s₂ = { s with heap := h', toks := tk } ∧ SetK P w h' s.heap.objs.size L es ep t ∧ GotK ks ks.length L ∧
          (∀ b o, s.heap.get? b = some o → h'.get? b = some o)) E) F.called_set.init.plain F.entry_set_init (check_set_init_1 hT ?_)) fun r₂ s₂ hr₂ => ?_
      · obtain ⟨ol, hol, hcl, nl, hdl⟩ := hl
        obtain ⟨ocls, odict, odata, oslots⟩ := ol
        simp only at hcl hdl
        subst hcl
        subst hdl
        have hol' : (s.heap.push (freshSet w)).get? l = some { cls := .type "list", dict := odict, data := .seq items nl, slots := oslots } := Heap.get?_push_of_some _ hol
        have hsls := PySem.F.sub_list_set
        have hslf := PySem.F.sub_list_frozenset
        have hne : (Value.type "list" == Value.type "dict") = false := by decide
        have hl1 : (s.heap.push (freshSet w)).IsList l items := ⟨_, hol', rfl, nl, rfl⟩
        unfold Builtin.«set.__init__» noKeywords Builtin.Frozenset.updateFrom
        generalize hPI : pyIter = PI
        wp_walk
        subst hPI
        refine wpAny_pyIter_list hl1 ?_
        refine wpAny_bind (wpAny_runValue ?_)
        have hlS : l < s.heap.objs.size := Heap.lt_size hol
        have hh3 : A.in1.in1.in1.handled = none := by simp [hh]
        have hz1 : (s.heap.push (freshSet w)).objs.size = s.heap.objs.size + 1 := Heap.size_push ..
        have hneI : l ≠ (s.heap.push (freshSet w)).objs.size := by
          rw [hz1]
          exact Nat.ne_of_lt (Nat.lt_succ_of_lt hlS)
        have hSf : s.heap.objs.size ∉ [(s.heap.push (freshSet w)).objs.size, l] := by
          rw [hz1]
          intro hm
          rcases List.mem_cons.mp hm with q | q
          · exact absurd q (Nat.ne_of_lt (Nat.lt_succ_self _))
          · exact absurd (List.mem_singleton.mp q) (Nat.ne_of_gt hlS)
        have hval : ∀ (i : Nat) (v : Value), items[i]? = some v → ∃ p, ks[i]? = some p ∧ v = .ref p.1 := fun i v hv => by
          have q : items.toList[i]? = some v := by rw [Array.getElem?_toList]; exact hv
          rw [hit, List.getElem?_map] at q
          cases hq : ks[i]? with
          | none => rw [hq] at q; cases q
          | some p =>
            rw [hq] at q
            exact ⟨p, rfl, (Option.some.inj q).symm⟩
        have none_of : ∀ b, s.heap.objs.size ≤ b → s.heap.get? b = none := fun b hb => by
          cases q : s.heap.get? b with
          | none => rfl
          | some o => exact absurd (Nat.lt_of_lt_of_le (Heap.lt_size q) hb) (Nat.lt_irrefl _)
        refine set_update_k ((Walks.list hh3 _ l hneI items).toS) s.heap.objs.size hSf ks hisz hfew hval s.heap hk (none_of _ (Nat.le_refl _)) (fun b hb => none_of b (by
            rw [List.mem_singleton.mp hb, hz1]
            exact Nat.le_succ _)) hu (items.size - 0) 0 _ (by omega) (Nat.zero_le _)
          ⟨⟨_, Heap.get?_push_size _ rfl, rfl, rfl⟩, (hl1.push _)⟩ (fun b o e => Heap.get?_push_of_some _ (Heap.get?_push_of_some _ e)) ?hS0 ?hR
        case hS0 =>
          exact ⟨[], #[], 0, _, setK_fresh (Heap.get?_push_of_some _ hS), GotK.zero ks⟩
        case hR =>
          intro s' L es ep t hm hS' g' hkp
          obtain ⟨h', g2, d', tk', os'⟩ := s'
          have eg : g2 = s.gens := hm.gens
          have ed : d' = s.drawn := hm.drawn
          have eo : os' = s.os := hm.os
          subst eg; subst ed; subst eo
          show wpAny _ _ _ _ _ _
          refine wpAny_pure ?_
          show wpAny _ _ (ret Value.none) _ _ _
          rw [hisz] at g'
          exact wpAny_pure ⟨rfl, h', tk', L, es, ep, t, rfl, hS', g', hkp⟩
      · cases r₂ with
        | error e => exact hr₂
        | ok fl₂ =>
          cases fl₂ with
          | ret r =>
            obtain ⟨rfl, h', tk, L, es, ep, t, rfl, hS', g', hk'⟩ := hr₂
            repeat (any_goals (first | assumption | wp_step))
            exact h _ _ _ _ _ _ hS' g' hk'
          | _ => exact hr₂.elim
    | _ => exact hr.elim
theorem call_set_kt {l : Addr} {items : Array Value} (ks : List (Addr × List Key)) {Q : Value → Shared → Prop} (hh : A.handled = none) (hl : s.heap.IsTuple l items) (hit : items.toList = ks.map fun p => Value.ref p.1)
    (hk : ∀ p ∈ ks, IsKT P w s.heap p.2 p.1) (hfew : ks.length ≤ 63) (hu : A.units + 3 < cLine)
    (h : ∀ (h' : Heap) (tk : Nat) L es ep t, SetK P w h' s.heap.objs.size L es ep t → GotK ks ks.length L → (∀ b o, s.heap.get? b = some o → h'.get? b = some o) → Q (.ref s.heap.objs.size) { s with heap := h', toks := tk }) :
    wpAny (model P w) A (call (.type "set") [.ref l]) Q E s := by
  have hisz : items.size = ks.length := by
    have q := congrArg List.length hit
    rw [Array.length_toList, List.length_map] at q
    exact q
  obtain ⟨c, tl, hmro⟩ := F.called_set.mro
  have hmade := F.called_set.made
  have hsub := F.called_set.sub
  refine wpAny_call (codeAny_of_tree ?_)
  show wpAny _ _ (callAny (.type "set") _) _ _ _
  refine wpAny_pure ⟨Code.quiet_builtin _ (by decide +kernel), codeAny_builtin PySem.F.entry_type_call ?_⟩
  rw [Around.under_plain (weight_type_call_type "set" [.ref l] []) rfl]
  have h1 := F.called_set.notType
  have h2 := F.called_set.canCreate
  have hct := F.typeCall_set_1 (.ref l)
  repeat (any_goals (first | assumption | wp_step))
  refine codeAny_mono (code_set_led1 (.ref l) (E := E) (Q₁ := fun obj s₁ => obj = .ref s.heap.objs.size ∧ s₁ = { s with heap := s.heap.push (freshSet w) }) ⟨rfl, rfl⟩) fun r s₁ hr => ?_
  cases r with
  | error e => exact hr
  | ok fl =>
    cases fl with
    | ret obj =>
      obtain ⟨rfl, rfl⟩ := hr
      have hS : (s.heap.push (freshSet w)).get? s.heap.objs.size = some (freshSet w) := Heap.get?_push_size _ rfl
      have hT : Shared.TypeIs { s with heap := s.heap.push (freshSet w) } (.ref s.heap.objs.size) "set" := ⟨_, hS, rfl⟩
      have hli := F.called_set.init.lookup
      have hbi := F.called_set.init.bind (.ref s.heap.objs.size)
      repeat (any_goals (first | assumption | wp_step))
      refine codeAny_mono (codeAny_call_builtin (R := wants (fun r s₂ => r = .none ∧ ∃ h' tk L es ep t, s₂ = { s with heap := h', toks := tk } ∧ SetK P w h' s.heap.objs.size L es ep t ∧ GotK ks ks.length L ∧
          (∀ b o, s.heap.get? b = some o → h'.get? b = some o)) E) F.called_set.init.plain F.entry_set_init (check_set_init_1 hT ?_)) fun r₂ s₂ hr₂ => ?_
      · obtain ⟨ol, hol, hcl, nl, hdl⟩ := hl
        obtain ⟨ocls, odict, odata, oslots⟩ := ol
        simp only at hcl hdl
        subst hcl
        subst hdl
        have hol' : (s.heap.push (freshSet w)).get? l = some { cls := .type "tuple", dict := odict, data := .seq items nl, slots := oslots } := Heap.get?_push_of_some _ hol
        have hsls := PySem.F.sub_tuple_set
        have hslf := PySem.F.sub_tuple_frozenset
        have hne : (Value.type "tuple" == Value.type "dict") = false := by decide
        have hl1 : (s.heap.push (freshSet w)).IsTuple l items := ⟨_, hol', rfl, nl, rfl⟩
        unfold Builtin.«set.__init__» noKeywords Builtin.Frozenset.updateFrom
        generalize hPI : pyIter = PI
        wp_walk
        subst hPI
        refine wpAny_pyIter_tuple hl1 ?_
        refine wpAny_bind (wpAny_runValue ?_)
        have hlS : l < s.heap.objs.size := Heap.lt_size hol
        have hh3 : A.in1.in1.in1.handled = none := by simp [hh]
        have hz1 : (s.heap.push (freshSet w)).objs.size = s.heap.objs.size + 1 := Heap.size_push ..
        have hneI : l ≠ (s.heap.push (freshSet w)).objs.size := by
          rw [hz1]
          exact Nat.ne_of_lt (Nat.lt_succ_of_lt hlS)
        have hSf : s.heap.objs.size ∉ [(s.heap.push (freshSet w)).objs.size, l] := by
          rw [hz1]
          intro hm
          rcases List.mem_cons.mp hm with q | q
          · exact absurd q (Nat.ne_of_lt (Nat.lt_succ_self _))
          · exact absurd (List.mem_singleton.mp q) (Nat.ne_of_gt hlS)
        have hval : ∀ (i : Nat) (v : Value), items[i]? = some v → ∃ p, ks[i]? = some p ∧ v = .ref p.1 := fun i v hv => by
          have q : items.toList[i]? = some v := by rw [Array.getElem?_toList]; exact hv
          rw [hit, List.getElem?_map] at q
          cases hq : ks[i]? with
          | none => rw [hq] at q; cases q
          | some p =>
            rw [hq] at q
            exact ⟨p, rfl, (Option.some.inj q).symm⟩
        have none_of : ∀ b, s.heap.objs.size ≤ b → s.heap.get? b = none := fun b hb => by
          cases q : s.heap.get? b with
          | none => rfl
          | some o => exact absurd (Nat.lt_of_lt_of_le (Heap.lt_size q) hb) (Nat.lt_irrefl _)
        refine set_update_k ((Walks.tuple hh3 _ l hneI items).toS) s.heap.objs.size hSf ks hisz (fun i L g _ hi => by have := g.len; omega) hval s.heap hk (none_of _ (Nat.le_refl _)) (fun b hb => none_of b (by
            rw [List.mem_singleton.mp hb, hz1]
            exact Nat.le_succ _)) hu (items.size - 0) 0 _ (by omega) (Nat.zero_le _)
          ⟨⟨_, Heap.get?_push_size _ rfl, rfl, rfl⟩, (hl1.push _)⟩ (fun b o e => Heap.get?_push_of_some _ (Heap.get?_push_of_some _ e)) ?hS0 ?hR
        case hS0 =>
          exact ⟨[], #[], 0, _, setK_fresh (Heap.get?_push_of_some _ hS), GotK.zero ks⟩
        case hR =>
          intro s' L es ep t hm hS' g' hkp
          obtain ⟨h', g2, d', tk', os'⟩ := s'
          have eg : g2 = s.gens := hm.gens
          have ed : d' = s.drawn := hm.drawn
          have eo : os' = s.os := hm.os
          subst eg; subst ed; subst eo
          show wpAny _ _ _ _ _ _
          refine wpAny_pure ?_
          show wpAny _ _ (ret Value.none) _ _ _
          rw [hisz] at g'
          exact wpAny_pure ⟨rfl, h', tk', L, es, ep, t, rfl, hS', g', hkp⟩
      · cases r₂ with
        | error e => exact hr₂
        | ok fl₂ =>
          cases fl₂ with
          | ret r =>
            obtain ⟨rfl, h', tk, L, es, ep, t, rfl, hS', g', hk'⟩ := hr₂
            repeat (any_goals (first | assumption | wp_step))
            exact h _ _ _ _ _ _ hS' g' hk'
          | _ => exact hr₂.elim
    | _ => exact hr.elim
end
/-- the set at a, without the tuples themselves -/
def SetK0 (P : Program) (w : World) (h : Heap) (a : Addr) (L : List (Addr × List Key)) : Prop :=
  ∃ (es : Array (Int × Value)) (ep : Nat) (t : SetTable), (∃ o, h.get? a = some o ∧ o.ExactSet ∧ o.data = .set es ep t) ∧ es.toList = krows P w L ∧ TabOk t (L.map fun p => khash P w p.2) ∧ (L.map (·.2)).Nodup ∧ L.length * 5 < t.mask * 3 ∧ (w.params.followText "set-order" = true ∨ t.led = true)
def SetKO (P : Program) (w : World) (a : Addr) (L : List (Addr × List Key)) : HO := .ext fun h => SetK0 P w h a L
theorem SetK.bare {P : Program} {w : World} {h : Heap} {a : Addr} {L : List (Addr × List Key)} {es : Array (Int × Value)} {ep : Nat} {t : SetTable} (R : SetK P w h a L es ep t) : SetK0 P w h a L := ⟨es, ep, t, R.ob, R.rows, R.tab, R.nd, R.room, R.led⟩
theorem SetK0.full {P : Program} {w : World} {h : Heap} {a : Addr} {L : List (Addr × List Key)} (R : SetK0 P w h a L) (ht : ∀ p ∈ L, IsKT P w h p.2 p.1) : ∃ es ep t, SetK P w h a L es ep t := by
  obtain ⟨es, ep, t, h1, h2, h3, h4, h5, h6⟩ := R
  exact ⟨es, ep, t, h1, h2, h3, h4, h5, h6, ht⟩
theorem setKO_new {P : Program} {w : World} {H : Hp} {h : Heap} {a : Addr} {L : List (Addr × List Key)} (R : SetK0 P w h a L) : ObjOk P w H h a (SetKO P w a L) := by
  have ⟨es, ep, t, ⟨o, ho, r⟩, q⟩ := R
  refine ⟨R, ⟨o, ho⟩, fun h1 h2 p k => ?_⟩
  have ⟨es', ep', t', ⟨o', ho', r'⟩, q'⟩ := p
  exact ⟨es', ep', t', ⟨o', k o' ho', r'⟩, q'⟩
section
variable {X : Cx}
/-- set(xs), xs a list of fewer than 64 tuples: L has the same keys, each once -/
def rSetOfK (K : PySem.W.Frag) (P : Program) (w : World) : List V → Hp → VK → Prop := fun xs H Q => ∃ (l : Addr) (ks : List (Addr × List Key)), xs = [V.ref l] ∧ SqL K H l (ks.map fun p => V.ref p.1) ∧ (∀ p ∈ ks, H p.1 = some (.tup (p.2.map kV))) ∧ ks.length ≤ 63 ∧
  ∀ a L, H a = none → (∀ p ∈ L, p ∈ ks) → (∀ p ∈ ks, p.2 ∈ L.map (·.2)) → (L.map (·.2)).Nodup → Q (.ref a) (upd H a (SetKO P w a L))
theorem cr_setOfK (hc : X.calm = true) (hu : X.A.units + 64 < cLine) : CallR X (.type "set") (rSetOfK X.K X.prog X.w) := by
  intro pins s σ H xs us Q I r h
  obtain ⟨l, ks, rfl, hl, hk, hf, q⟩ := h
  rw [Vals.ref1 r]
  obtain ⟨its, rv, pl, hz⟩ := I.list hl
  have hn : H s.heap.objs.size = none := I.hok.fresh (Nat.le_refl _)
  have ei : its = ks.map fun p => Value.ref p.1 := by
    have := L2.refs_at (ps := ks.map (·.1)) (by rw [List.map_map]; exact rv)
    rw [this, List.map_map]
    rfl
  refine call_set_k (P := X.prog) (w := X.w) ks (I.ok.hd hc) pl.isList (by simpa using ei) (fun p hp => key_of I.hok (hk p hp)) (fun i L g _ hi => by have := g.len; omega) (by omega) fun h' tk L es ep t R g k => ?_
  refine ⟨.ref s.heap.objs.size, upd H s.heap.objs.size (SetKO X.prog X.w s.heap.objs.size L), I.laid (t' := tk) k (Nat.le_refl _) (setKO_new R.bare), rfl, q _ L hn (fun p hp => ?_) (fun p hp => ?_) R.nd⟩
  · exact List.mem_of_mem_take (g.sub p hp)
  · exact g.all p (by rw [List.take_length]; exact hp)
/-- set(xs), xs a tuple of such -/
def rSetTupK (K : PySem.W.Frag) (P : Program) (w : World) : List V → Hp → VK → Prop := fun xs H Q => ∃ (l : Addr) (ks : List (Addr × List Key)), xs = [V.ref l] ∧ SqT K H l (ks.map fun p => V.ref p.1) ∧ (∀ p ∈ ks, H p.1 = some (.tup (p.2.map kV))) ∧ ks.length ≤ 63 ∧
  ∀ a L, H a = none → (∀ p ∈ L, p ∈ ks) → (∀ p ∈ ks, p.2 ∈ L.map (·.2)) → (L.map (·.2)).Nodup → Q (.ref a) (upd H a (SetKO P w a L))
theorem cr_setTupK (hc : X.calm = true) (hu : X.A.units + 64 < cLine) : CallR X (.type "set") (rSetTupK X.K X.prog X.w) := by
  intro pins s σ H xs us Q I r h
  obtain ⟨l, ks, rfl, hl, hk, hf, q⟩ := h
  rw [Vals.ref1 r]
  obtain ⟨its, rv, pl, hz⟩ := I.tuple hl
  have hn : H s.heap.objs.size = none := I.hok.fresh (Nat.le_refl _)
  have ei : its = ks.map fun p => Value.ref p.1 := by
    have := L2.refs_at (ps := ks.map (·.1)) (by rw [List.map_map]; exact rv)
    rw [this, List.map_map]
    rfl
  have ht : s.heap.IsTuple l its.toArray := by
    obtain ⟨o, e, c, n, d⟩ := pl
    exact ⟨o, e, c, n, d⟩
  refine call_set_kt (P := X.prog) (w := X.w) ks (I.ok.hd hc) ht (by simpa using ei) (fun p hp => key_of I.hok (hk p hp)) hf (by omega) fun h' tk L es ep t R g k => ?_
  refine ⟨.ref s.heap.objs.size, upd H s.heap.objs.size (SetKO X.prog X.w s.heap.objs.size L), I.laid (t' := tk) k (Nat.le_refl _) (setKO_new R.bare), rfl, q _ L hn (fun p hp => ?_) (fun p hp => ?_) R.nd⟩
  · exact List.mem_of_mem_take (g.sub p hp)
  · exact g.all p (by rw [List.take_length]; exact hp)
end
end FM
set_option maxRecDepth 100000
set_option maxHeartbeats 2000000
namespace FM
open PySem PySem.Spec PyProof.Rows L2
def encK (p : Addr × List Key) : PyData := keysD p.2
def byKey (L : List (Addr × List Key)) : List (Addr × List Key) := L.mergeSort (PySem.W.dataLe false encK)
theorem each_refsK : ∀ L : List (Addr × List Key), PySem.W.EachIs (fun v (p : Addr × List Key) => v = Value.ref p.1) (L.map fun p => Value.ref p.1) L
  | [] => .nil
  | p :: L => .cons rfl (each_refsK L)
theorem refs_eachK {out : List Value} {L : List (Addr × List Key)} (h : PySem.W.EachIs (fun v (p : Addr × List Key) => v = Value.ref p.1) out L) : out = L.map fun p => Value.ref p.1 := by
  induction h with
  | nil => rfl
  | cons e _ ih => rw [List.map_cons, e, ih]
theorem keysD_depth (ks : List Key) : (keysD ks).depth ≤ 3 := by
  unfold keysD
  rw [PyData.depth]
  have : ∀ l : List Key, PyData.depthAll (l.map keyD) ≤ 1 := fun l => by
    induction l with
    | nil => simp [PyData.depthAll]
    | cons x l ih =>
      rw [List.map_cons, PyData.depthAll]
      have : (keyD x).depth ≤ 1 := by cases x <;> simp [keyD, PyData.depth]
      omega
  have := this ks
  omega
section
variable {P : Program} {w : World} {A : Around} {E : Value → Shared → Prop} {s : Shared}
theorem sorted_k {a : Addr} {L : List (Addr × List Key)} {es : Array (Int × Value)} {ep : Nat} {t : SetTable} {Q : Value → Shared → Prop} (R : SetK P w s.heap a L es ep t) (hh : A.handled = none) (few : L.length ≤ 63)
    (hr : ∀ p ∈ L, ∃ as, Reads s.heap (.ref p.1) (encK p) as) (hz : ∀ p ∈ L, p.2 ≠ []) (hal0 : PySem.W.AllAlike (L.map encK)) (hdep : ∀ p ∈ L, (encK p).depth ≤ 3) (hu : A.units + 64 < cLine)
    (hQ : ∀ s' q (L' : List (Addr × List Key)) (c : Nat), (∀ b o, s.heap.get? b = some o → s'.heap.get? b = some o) → s'.gens = s.gens → s'.os = s.os → s.heap.objs.size ≤ q →
      s'.heap.get? q = some (seqObj "list" ((byKey L').map fun p => Value.ref p.1).toArray c) → L'.Perm L → Q (.ref q) s') :
    wpAny (model P w) A (call (.builtin "sorted") [.ref a]) Q E s := by
  obtain ⟨o, ho, hex, hd⟩ := R.ob
  have hsz := krows_size R.rows
  refine Calls.call_function_entry kind_sorted plain_sorted entry_sorted (args_sorted1 _) ?_
  unfold Builtin.«sorted»
  refine wpAny_bind (m := checkCount "sorted" 1 1 _) (wpAny_pure ?_)
  refine wpAny_bind (collect_set (A := A.in1) hh ⟨o, ho, hex.1, hd⟩ R.fits (by unfold scanBound; omega) R.tab.ris R.led fun s1 vs k1 hz1 g1 o1 pm => ?_)
  have hes : es.toList.map (·.2) = L.map fun q => Value.ref q.1 := by
    rw [R.rows]
    unfold krows
    rw [List.map_map]
    rfl
  rw [hes] at pm
  obtain ⟨L1, pL, rfl⟩ := perm_map (fun q : Addr × List Key => Value.ref q.1) pm L rfl
  have len1 : (L1.map fun q => Value.ref q.1).length ≤ 63 := by rw [List.length_map, pL.length_eq]; exact few
  have big : (1000 : Nat) ≤ sizeLine := by decide
  refine wpAny_bind (wpAny_newList ?_ (by omega))
  generalize hvs : (L1.map fun q => Value.ref q.1) = vs at len1
  have hoL : (s1.heap.push (seqObj "list" vs.toArray 0)).get? s1.heap.objs.size = some (seqObj "list" vs.toArray 0) := Heap.get?_push_size _ rfl
  have kS : ∀ b u, s.heap.get? b = some u → (PySem.W.sortingHeap (s1.heap.push (seqObj "list" vs.toArray 0)) s1.heap.objs.size vs).get? b = some u := fun b u e => by
    have q := k1 b u e
    exact PySem.W.sortingHeap_old (Nat.ne_of_lt (Heap.lt_size q)) (Heap.get?_push_of_some _ q)
  have eR : PySem.W.EachIs (fun v (p : Addr × List Key) => v = Value.ref p.1) vs L1 := by rw [← hvs]; exact each_refsK L1
  have er : PySem.W.EachIs (fun v (p : Addr × List Key) => ∃ as, Reads (PySem.W.sortingHeap (s1.heap.push (seqObj "list" vs.toArray 0)) s1.heap.objs.size vs) v (encK p) as) vs L1 := each_mem2 eR fun v p hm e => by
    obtain ⟨as, r⟩ := hr p (pL.mem_iff.mp hm)
    rw [e]
    exact ⟨as, PyProof.Rows.Reads.keeps kS r⟩
  have hal : PySem.W.AllAlike (L1.map encK) := fun a ha b hb => hal0 a ((pL.map encK).mem_iff.mp ha) b ((pL.map encK).mem_iff.mp hb)
  have hk : PySem.W.Sortable (L1.map encK) := .inl fun d hd => by
    obtain ⟨p, hp, rfl⟩ := List.mem_map.mp hd
    have nz := hz p (pL.mem_iff.mp hp)
    cases e : p.2 with
    | nil => exact absurd e nz
    | cons x r => exact ⟨keyD x, r.map keyD, by unfold encK; rw [e]; rfl⟩
  refine wpAny_bind (wpAny_holding ?_)
  refine wpAny_call_entry PyProof.Rows.slot_list_sort ⟨_, hoL, rfl⟩ PyProof.Rows.entry_list_sort (PySem.W.list_sort_vals (s := { s1 with heap := s1.heap.push (seqObj "list" vs.toArray 0) }) (κ := PySem.W.dataKind (PySem.W.sortingHeap (s1.heap.push (seqObj "list" vs.toArray 0)) s1.heap.objs.size vs) (L1.map encK)) hoL
    (PySem.W.SortsAt.data (s := { s1 with heap := PySem.W.sortingHeap (s1.heap.push (seqObj "list" vs.toArray 0)) s1.heap.objs.size vs }) (PySem.W.each_map (R := fun v d => ∃ as, Reads (PySem.W.sortingHeap (s1.heap.push (seqObj "list" vs.toArray 0)) s1.heap.objs.size vs) v d as) encK er) hal hk (PySem.W.bound_map fun p _ => ?_)) (by omega) ⟨.none, rfl, ?_⟩) (PyProof.Rows.args_list_sort _)
  · have := hdep p (pL.mem_iff.mp ‹p ∈ L1›)
    have e2 : A.in1.in1.units = A.units + 2 := rfl
    omega
  · have rs := refs_eachK (PySem.W.sortVals_data false eR er hal)
    generalize PySem.W.sortVals (PySem.W.dataKind (PySem.W.sortingHeap (s1.heap.push (seqObj "list" vs.toArray 0)) s1.heap.objs.size vs) (L1.map encK)) false vs vs = out at rs ⊢
    obtain ⟨c, hc⟩ := PyProof.Rows.sortedHeap_at (vs := vs) (out := out.toArray) hoL
    rw [rs] at hc ⊢
    refine wpAny_pure ⟨_, rfl, hQ _ s1.heap.objs.size L1 c (fun b u e => ?_) g1 o1 hz1 hc pL⟩
    have q := k1 b u e
    have hlt := Heap.lt_size q
    rw [PyProof.Rows.sortedHeap_old (Nat.ne_of_lt hlt) (by rw [size_push']; exact Nat.lt_succ_of_lt hlt)]
    exact Heap.get?_push_of_some _ q
end
section
variable {X : Cx}
theorem vals_of_refsK : ∀ L : List (Addr × List Key), Vals (L.map fun p => V.ref p.1) (L.map fun p => Value.ref p.1)
  | [] => .nil
  | _ :: L => .cons rfl (vals_of_refsK L)
/-- sorted(a set of tuples of ints and texts) -/
def rSortK (K : PySem.W.Frag) (P : Program) (w : World) : List V → Hp → VK → Prop := fun vs H Q => ∃ (a : Addr) (L : List (Addr × List Key)), vs = [V.ref a] ∧ H a = some (SetKO P w a L) ∧ (∀ p ∈ L, H p.1 = some (.tup (p.2.map kV)) ∧ p.2 ≠ []) ∧ PySem.W.AllAlike (L.map encK) ∧ L.length ≤ 63 ∧
  ∀ (L' : List (Addr × List Key)) (p : Addr), L'.Perm L → H p = none → Q (.ref p) (upd H p (.lst ((byKey L').map fun q => V.ref q.1)))
theorem cr_sortK (hc : X.calm = true) (hu : X.A.units + 64 < cLine) : CallR X (.builtin "sorted") (rSortK X.K X.prog X.w) := by
  intro pins s σ H vs us Q I r h
  obtain ⟨a, L, rfl, ha, hk, hal, few, q⟩ := h
  have R0 : SetK0 X.prog X.w s.heap a L := (I.hok a _ ha).1
  obtain ⟨es, ep, t, R⟩ := R0.full fun p hp => key_of I.hok (hk p hp).1
  rw [Vals.ref1 r]
  refine sorted_k R (I.ok.hd hc) few (fun p hp => Dp.reads I _ _ _ (dp_keys (hk p hp).1) rfl) (fun p hp => (hk p hp).2) hal (fun p hp => keysD_depth p.2) hu fun s' p L' c k g o hp hg pm => ?_
  have hml : (byKey L').length = L'.length := List.length_mergeSort L'
  have hlen : ((byKey L').map fun q => V.ref q.1).length ≤ sizeLine := by rw [List.length_map, hml, pm.length_eq, sizeLine_eq]; omega
  have hn : H p = none := I.hok.fresh hp
  have J : Inv X pins σ (upd H p (.lst ((byKey L').map fun q => V.ref q.1))) { s with heap := s'.heap, gens := s'.gens, drawn := s'.drawn, toks := s'.toks } :=
    I.call (ch := []) (Un.laid k hp hn) (I.hok.laid k hp ⟨hlen, _, c, vals_of_refsK _, hg⟩) (by rw [g]; exact I.bare) (fun _ z => nomatch z)
  have e : s' = { s with heap := s'.heap, gens := s'.gens, drawn := s'.drawn, toks := s'.toks } := by
    cases s'
    cases s
    cases o
    rfl
  rw [e]
  exact ⟨.ref p, _, J, rfl, q L' p pm hn⟩
end
end FM
namespace FM
open PySem PySem.Spec PyProof.Rows L2
def rLenSetK (P : Program) (w : World) : List V → Hp → VK → Prop := fun xs H Q => ∃ (a : Addr) (L : List (Addr × List Key)), xs = [V.ref a] ∧ H a = some (SetKO P w a L) ∧ L.length ≤ 63 ∧ Q (.int ((L.length : Nat) : Int)) H
theorem cr_lenSetK {X : Cx} : CallR X (.builtin "len") (rLenSetK X.prog X.w) := by
  intro pins s σ H xs us Q I r h
  obtain ⟨a, L, rfl, ha, few, q⟩ := h
  rw [Vals.ref1 r]
  obtain ⟨es, ep, t, ⟨o, ho, hex, hd⟩, hrows, tab, nd, room, led⟩ : SetK0 X.prog X.w s.heap a L := (I.hok a _ ha).1
  have sz : es.size = L.length := krows_size hrows
  have tz : t.place.size = L.length := by
    have q := tab.sz
    rwa [List.length_map] at q
  have hf : t.fits es.size = true := by
    unfold SetTable.fits SetTable.fill
    rw [tz, tab.dm, sz, Bool.and_eq_true]
    refine ⟨beq_self_eq_true _, decide_eq_true ?_⟩
    show L.length + 0 ≤ t.mask
    omega
  refine call_len_set ho hex hd hf (by rw [sz]; omega) ⟨.int ((L.length : Nat) : Int), H, I.tok _, ⟨_, by rw [sz]⟩, q⟩
end FM
set_option maxRecDepth 100000
set_option maxHeartbeats 1000000
namespace FM
open PySem PySem.Spec L2
theorem natL_anti : ∀ {a b : List Nat}, ¬ a < b → ¬ b < a → a = b
  | [], [], _, _ => rfl
  | [], _ :: _, h, _ => absurd (List.nil_lt_cons ..) h
  | _ :: _, [], _, h => absurd (List.nil_lt_cons ..) h
  | x :: a, y :: b, h1, h2 => by
    rw [List.cons_lt_cons_iff, not_or] at h1 h2
    have e : x = y := by omega
    subst e
    rw [natL_anti (fun z => h1.2 ⟨rfl, z⟩) fun z => h2.2 ⟨rfl, z⟩]
theorem key_anti {x y : Key} (a : PySem.W.alike (keyD x) (keyD y) = true) (h1 : PySem.W.dataLt (keyD x) (keyD y) = false) (h2 : PySem.W.dataLt (keyD y) (keyD x) = false) : x = y := by
  cases x with
  | inl i =>
    cases y with
    | inl j =>
      change PySem.W.dataLt (.int i) (.int j) = false at h1
      change PySem.W.dataLt (.int j) (.int i) = false at h2
      rw [PySem.W.dataLt_int, decide_eq_false_iff_not] at h1 h2
      rw [show i = j by omega]
    | inr z => cases a
  | inr u =>
    cases y with
    | inl j => cases a
    | inr z =>
      change PySem.W.dataLt (.str u) (.str z) = false at h1
      change PySem.W.dataLt (.str z) (.str u) = false at h2
      rw [PySem.W.dataLt_str, decide_eq_false_iff_not] at h1 h2
      rw [PySem.W.str_of_cps (natL_anti h1 h2)]
theorem key_alike_symm {x y : Key} (a : PySem.W.alike (keyD x) (keyD y) = true) : PySem.W.alike (keyD y) (keyD x) = true := by
  cases x <;> cases y <;> first | rfl | cases a
theorem key_eqv {x y : Key} (a : PySem.W.alike (keyD x) (keyD y) = true) : PyData.eqv (keyD x) (keyD y) = decide (x = y) := by
  rw [Bool.eq_iff_iff]
  cases x with
  | inl i =>
    cases y with
    | inl j => simp [keyD, PyData.eqv]
    | inr z => cases a
  | inr u =>
    cases y with
    | inl j => cases a
    | inr z => simp [keyD, PyData.eqv]
theorem row_anti : ∀ {xs ys : List Key}, xs.length = ys.length → PySem.W.alikeAll (xs.map keyD) (ys.map keyD) = true →
    PyProof.Rows.lexLt PyProof.Rows.itemOrd (PySem.W.keyToksAll (xs.map keyD)) (PySem.W.keyToksAll (ys.map keyD)) = false → PyProof.Rows.lexLt PyProof.Rows.itemOrd (PySem.W.keyToksAll (ys.map keyD)) (PySem.W.keyToksAll (xs.map keyD)) = false → xs = ys
  | [], [], _, _, _, _ => rfl
  | [], _ :: _, l, _, _, _ => by cases l
  | _ :: _, [], l, _, _, _ => by cases l
  | x :: xs, y :: ys, l, a, h1, h2 => by
    obtain ⟨a1, a2⟩ := PySem.W.alike_all_cons a
    rw [List.map_cons, List.map_cons] at h1 h2
    rw [PySem.W.dataLt_cons a1, key_eqv a1] at h1
    rw [PySem.W.dataLt_cons (key_alike_symm a1), key_eqv (key_alike_symm a1)] at h2
    by_cases e : x = y
    · subst e
      rw [decide_eq_true rfl, if_pos rfl] at h1 h2
      rw [row_anti (Nat.succ.inj l) a2 h1 h2]
    · rw [decide_eq_false e, if_neg Bool.false_ne_true] at h1
      rw [decide_eq_false fun z => e z.symm, if_neg Bool.false_ne_true] at h2
      exact absurd (key_anti a1 h1 h2) e
/-- rows in order -/
def KSorted (l : List (List Key)) : Prop := l.Pairwise fun p q => PySem.W.dataLt (keysD q) (keysD p) = false
/-- rows of one form -/
def KForm (l : List (List Key)) : Prop := ∀ p ∈ l, ∀ q ∈ l, p.length = q.length ∧ PySem.W.alikeAll (p.map keyD) (q.map keyD) = true
theorem ksorted_one {a b : List (List Key)} (ha : KSorted a) (hb : KSorted b) (f : KForm b) (p : a.Perm b) : a = b := by
  refine p.eq_of_pairwise (le := fun x y => PySem.W.dataLt (keysD y) (keysD x) = false) (fun x y hx hy h1 h2 => ?_) ha hb
  obtain ⟨l, al⟩ := f x (p.mem_iff.mp hx) y hy
  have h1 : PySem.W.dataLt (keysD y) (keysD x) = false := h1
  have h2 : PySem.W.dataLt (keysD x) (keysD y) = false := h2
  unfold keysD at h1 h2
  rw [PySem.W.dataLt_tuple] at h1 h2
  exact row_anti l al h2 h1
theorem byKey_perm (L : List (Addr × List Key)) : (byKey L).Perm L := List.mergeSort_perm ..
theorem byKey_sorted (L : List (Addr × List Key)) : KSorted ((byKey L).map (·.2)) := by
  unfold KSorted
  rw [List.pairwise_map]
  have := PySem.W.sort_pairwise (PySem.W.sortLe_total (PyProof.Rows.listOrd PyProof.Rows.itemOrd) false fun p : Addr × List Key => PySem.W.keyToks (encK p)) L
  refine this.imp fun {a b} z => ?_
  have z2 : (!PySem.W.dataLt (keysD b.2) (keysD a.2)) = true := z
  simpa using z2
theorem KForm.alike {L : List (Addr × List Key)} (f : KForm (L.map (·.2))) : PySem.W.AllAlike (L.map encK) := by
  intro a ha b hb
  obtain ⟨p, hp, rfl⟩ := List.mem_map.mp ha
  obtain ⟨q, hq, rfl⟩ := List.mem_map.mp hb
  show PySem.W.alike (.tuple _) (.tuple _) = true
  rw [PySem.W.alike]
  exact (f _ (List.mem_map.mpr ⟨p, hp, rfl⟩) _ (List.mem_map.mpr ⟨q, hq, rfl⟩)).2
end FM
set_option maxRecDepth 100000
set_option maxHeartbeats 1000000
namespace FM
open PySem L2
/-- the signs of a text, by number -/
abbrev sg (x : Str) : List Nat := x.cps.toList
def ofL (l : List Nat) : Str := ⟨l.toArray⟩
theorem sg_ofL (l : List Nat) : sg (ofL l) = l := by simp [sg, ofL]
theorem sg_app (x y : Str) : sg (x ++ y) = sg x ++ sg y := by
  show (x.cps ++ y.cps).toList = _
  simp [sg]
theorem app_len (x y : Str) : (x ++ y).length = x.length + y.length := Str.length_append ..
def Let (z : Str) : Prop := ∀ c ∈ sg z, 97 ≤ c ∧ c ≤ 122
theorem Let.app {x y : Str} (h : Let x) (k : Let y) : Let (x ++ y) := fun c hc => by
  rw [sg_app] at hc
  rcases List.mem_append.mp hc with q | q
  · exact h c q
  · exact k c q
theorem Let.ofSub {x : Str} {l : List Nat} (h : Let x) (s : ∀ c ∈ l, c ∈ sg x) : Let (ofL l) := fun c hc => by
  rw [sg_ofL] at hc
  exact h c (s c hc)
theorem Let.take {x : Str} (h : Let x) (n : Nat) : Let (ofL ((sg x).take n)) := h.ofSub fun _ => List.mem_of_mem_take
end FM
set_option maxRecDepth 100000
set_option maxHeartbeats 1000000
namespace FM
open PySem L2
theorem word_of {z : Str} (h : ∀ c ∈ z.cps.toList, alpha.cps.contains c = true) : isWord z = true := by
  unfold isWord
  rw [decide_eq_true_iff]
  unfold Txt.stripChars
  rw [PyProof.Rows.stripBy_eq]
  have e1 : z.cps.toList.takeWhile alpha.cps.contains = z.cps.toList := by
    generalize z.cps.toList = l at h
    induction l with
    | nil => rfl
    | cons c r ih => rw [List.takeWhile_cons, h c List.mem_cons_self, if_pos rfl, ih fun d hd => h d (List.mem_cons_of_mem _ hd)]
  have e2 : stripLo alpha.cps.contains true z = z.cps.size := by
    show (if true = true then (z.cps.toList.takeWhile alpha.cps.contains).length else 0) = _
    rw [if_pos rfl, e1, Array.length_toList]
  rw [e2]
  show (⟨z.cps.extract z.cps.size _⟩ : Str) = ""
  have e3 : ∀ j, z.cps.extract z.cps.size j = #[] := fun j => by simp
  rw [e3]
  rfl
theorem Let.word {z : Str} (h : Let z) : isWord z = true := word_of fun c hc => by
  obtain ⟨h1, h2⟩ := h c hc
  have all : ∀ c < 123, 97 ≤ c → alpha.cps.contains c = true := by decide +kernel
  exact all c (by omega) h1
end FM
set_option maxRecDepth 100000
set_option maxHeartbeats 1000000
namespace FM
open PySem L2
/-- an edge: from, sign, word, to -/
structure Edg where
  a : Nat
  c : Nat
  u : Str
  b : Nat
def Edg.row (e : Edg) : List Key := [.inl (e.a : Int), .inr ⟨#[e.c]⟩, .inr e.u, .inl (e.b : Int)]
theorem row_inj {e f : Edg} (h : e.row = f.row) : e = f := by
  obtain ⟨a, c, u, b⟩ := e
  obtain ⟨a', c', u', b'⟩ := f
  unfold Edg.row at h
  simp only [List.cons.injEq, Sum.inl.injEq, Sum.inr.injEq, Str.mk.injEq, and_true] at h
  obtain ⟨h1, h2, h3, h4⟩ := h
  have e1 : a = a' := by omega
  have e2 : b = b' := by omega
  have e3 : c = c' := by
    have := congrArg Array.toList h2
    simpa using this
  subst e1 e2 e3 h3
  rfl
theorem row_form (es : List Edg) : KForm (es.map Edg.row) := by
  intro p hp q hq
  obtain ⟨e, _, rfl⟩ := List.mem_map.mp hp
  obtain ⟨f, _, rfl⟩ := List.mem_map.mp hq
  exact ⟨rfl, rfl⟩
/-- reached from bs by moves -/
inductive Rch (es : List (List Int)) (bs : List Nat) : Nat → Prop
  | base {m : Nat} : m ∈ bs → Rch es bs m
  | step {m x : Nat} : Rch es bs m → [(m : Int), (x : Int)] ∈ es → Rch es bs x
theorem Rch.mono {es es' : List (List Int)} {bs bs' : List Nat} (h1 : ∀ m x : Nat, [(m : Int), (x : Int)] ∈ es → [(m : Int), (x : Int)] ∈ es') (h2 : ∀ m ∈ bs, m ∈ bs') {m : Nat} (h : Rch es bs m) : Rch es' bs' m := by
  induction h with
  | base h => exact .base (h2 _ h)
  | step _ h ih => exact .step ih (h1 _ _ h)
/-- entries of a dict from states to words -/
def ent1 (p : Nat × Str) : Key × V := (.inl (p.1 : Int), .str p.2)
def entW (st : List (Nat × Str)) : List (Key × V) := st.map ent1
/-- states and words as a rewriter may have them -/
structure TblOk (st : List (Nat × Str)) : Prop where
  nd : (st.map (·.1)).Nodup
  few : ∀ p ∈ st, p.1 < 12
  word : ∀ p ∈ st, Let p.2 ∧ p.2.length ≤ 8
structure SgOk (sg : List Nat) : Prop where
  rise : sg.Pairwise (· < ·)
  one : sg ≠ []
  four : sg.length ≤ 4
  let_ : ∀ c ∈ sg, 97 ≤ c ∧ c ≤ 122
def sgTxt (sg : List Nat) : Str := ⟨sg.toArray⟩
structure EdgOk (sg : List Nat) (e : Edg) : Prop where
  a : e.a < 12
  b : e.b < 12
  c : e.c ∈ sg
  u : Let e.u
  len : e.u.length ≤ 8
/-- what a rewriter is made of -/
structure RwP where
  sg : List Nat
  st : List (Nat × Str)
  ed : List Edg
  en : List (Nat × Str)
structure RwP.Ok (P : RwP) : Prop where
  sg : SgOk P.sg
  st : TblOk P.st
  ed : ∀ e ∈ P.ed, EdgOk P.sg e
  few : P.ed.length ≤ 63
  en : TblOk P.en
def mvs (es : List Edg) : List (List Int) := es.map fun e => [(e.a : Int), (e.b : Int)]
def mvsB (es : List Edg) : List (List Int) := es.map fun e => [(e.b : Int), (e.a : Int)]
/-- reached from a start, and an end is reached from it -/
def RwP.Useful (P : RwP) (m : Nat) : Prop := Rch (mvs P.ed) (P.st.map (·.1)) m ∧ Rch (mvsB P.ed) (P.en.map (·.1)) m
/-- what it keeps: useful states, and what stands at them -/
structure Kept (P : RwP) (us : List Nat) (ed : List Edg) : Prop where
  rise : us.Pairwise (· < ·)
  mem : ∀ m, m ∈ us ↔ P.Useful m
  srt : KSorted (ed.map Edg.row)
  nd : ed.Nodup
  eds : ∀ e, e ∈ ed ↔ e ∈ P.ed ∧ e.a ∈ us ∧ e.b ∈ us
/-- the entries at some states -/
def atS (st : List (Nat × Str)) (us : List Nat) : List (Nat × Str) := us.flatMap fun m => st.filter fun p => p.1 == m
theorem rise_oneN {a b : List Nat} (ha : a.Pairwise (· < ·)) (hb : b.Pairwise (· < ·)) (m : ∀ k, k ∈ a ↔ k ∈ b) : a = b := by
  have na : a.Nodup := ha.imp fun h => Nat.ne_of_lt h
  have nb : b.Nodup := hb.imp fun h => Nat.ne_of_lt h
  exact ((List.perm_ext_iff_of_nodup na nb).mpr m).eq_of_pairwise (fun x y _ _ h k => absurd (Nat.lt_trans h k) (Nat.lt_irrefl _)) ha hb
theorem Kept.one {P : RwP} {us us' : List Nat} {ed ed' : List Edg} (h : Kept P us ed) (h' : Kept P us' ed') : us = us' ∧ ed = ed' := by
  have e : us = us' := rise_oneN h.rise h'.rise fun k => (h.mem k).trans (h'.mem k).symm
  subst e
  refine ⟨rfl, ?_⟩
  have pm : ed.Perm ed' := (List.perm_ext_iff_of_nodup h.nd h'.nd).mpr fun e => (h.eds e).trans (h'.eds e).symm
  have e2 := ksorted_one h.srt h'.srt (row_form _) (pm.map Edg.row)
  have go : ∀ a b : List Edg, a.map Edg.row = b.map Edg.row → a = b := fun a => by
    induction a with
    | nil =>
      intro b h
      cases b with
      | nil => rfl
      | cons _ _ => cases h
    | cons x a ih =>
      intro b h
      cases b with
      | nil => cases h
      | cons y b =>
        rw [List.map_cons, List.map_cons] at h
        injection h with h1 h2
        rw [row_inj h1, ih b h2]
  exact go _ _ e2
theorem valV_mem {κ : Type} [DecidableEq κ] {k : κ} {v : V} : ∀ {kvs : List (κ × V)}, (kvs.map (·.1)).Nodup → (k, v) ∈ kvs → valV kvs k = some v
  | [], _, h => by cases h
  | p :: r, nd, h => by
    rw [List.map_cons, List.nodup_cons] at nd
    rcases List.mem_cons.mp h with e | h
    · rw [← e]
      exact valV_pos rfl
    · rw [valV_neg fun e => nd.1 (List.mem_map.mpr ⟨(k, v), h, e.symm⟩)]
      exact valV_mem nd.2 h
theorem valV_out {κ : Type} [DecidableEq κ] {k : κ} : ∀ {kvs : List (κ × V)}, k ∉ kvs.map (·.1) → valV kvs k = none
  | [], _ => rfl
  | p :: r, h => by
    rw [List.map_cons, List.mem_cons, not_or] at h
    rw [valV_neg fun e => h.1 e.symm]
    exact valV_out h.2
theorem putF_len (f : Str) (v : V) : ∀ fs : List (Str × V), (putF f v fs).length ≤ fs.length + 1
  | [] => Nat.le_refl _
  | (g, x) :: r => by
    unfold putF
    split
    · simp
    · rw [List.length_cons, List.length_cons]
      exact Nat.succ_le_succ (putF_len f v r)
end FM
set_option maxRecDepth 100000
set_option maxHeartbeats 1000000
namespace FM
open PySem L2
theorem inV_ints (m : Int) : ∀ ns : List Int, inV (.int m) (ns.map V.int) = decide (m ∈ ns)
  | [] => rfl
  | n :: ns => by
    have ih := inV_ints m ns
    have e : inV (.int m) ((n :: ns).map V.int) = (eqV (.int n) (.int m) || inV (.int m) (ns.map V.int)) := rfl
    rw [e, ih]
    have e2 : eqV (.int n) (.int m) = decide (n = m) := by
      rw [Bool.eq_iff_iff]
      simp [eqV]
    rw [e2]
    by_cases h : n = m
    · rw [decide_eq_true h, decide_eq_true (show m ∈ n :: ns by rw [h]; exact List.mem_cons_self), Bool.true_or]
    · rw [decide_eq_false h, Bool.false_or]
      exact decide_eq_decide.mpr ⟨List.mem_cons_of_mem _, fun z => (List.mem_cons.mp z).resolve_left fun e => h e.symm⟩
end FM
namespace K0
open PySem L2 FM He
/-- one to four ascending letters -/
def lettersB (z : Str) : Prop := 1 ≤ z.length ∧ z.length ≤ 4 ∧ PyProof.Rows.sortedS (FM.signs z) = true ∧ (FM.signs z).Nodup
section
variable {P : Program} {w : World} {K : PySem.W.Frag} {mg : Str → Option Value} {base : Heap}
theorem ok_is_integer {f : Addr} {fd : FuncData} (F : FnP K "is_integer" s_is_integer f fd) (T : TP K mg) : FnOk P w K mg base CX0 1 f fd ["value"] (fun vs H Q _ => ∃ i : Int, vs = [.int i] ∧ Q (.bl true) H) := by
  refine F.ok sc_is_integer (fun vs H Q E h => ?_) (fun cdv A outer s H vs Q E hr h => ?_)
  · obtain ⟨i, rfl, _⟩ := h
    rfl
  · obtain ⟨i, rfl, k⟩ := h
    have nd := sc_is_integer.nd
    refine ⟨_, PSs.nox (pss_one (ps_ret (pe_and (pe_callB call_isi (by rfl) T.b_isinstance (by decide +kernel) (pa_cons (pv 0) (pa_cons (pe_bltn (v := .ty "int") (by rfl) T.b_int (by decide +kernel) rfl) pa_nil))) (pe_one (pe_not (pe_callB call_isi (by rfl) T.b_isinstance (by decide +kernel) (pa_cons (pv 0) (pa_cons (pe_bltn (v := .ty "bool") (by rfl) T.b_bool (by decide +kernel) rfl) pa_nil)))))))), ?_⟩
    refine ⟨_, rfl, _, _, _, _, true, rfl, ClsV.ty _, .base (.int i), kit_ty (by decide +kernel), true, rfl, iteT ?_⟩
    exact ⟨_, rfl, _, _, _, _, false, rfl, ClsV.ty _, .base (.int i), kit_ty (by decide +kernel), false, rfl, k⟩
theorem ok_is_below {f : Addr} {fd : FuncData} (F : FnP K "is_below" s_is_below f fd) (T : TP K mg) : FnOk P w K mg base CX0 2 f fd ["value", "limit"] (fun vs H Q _ => ∃ i n : Int, vs = [.int i, .int n] ∧ 0 ≤ i ∧ i < n ∧ Q (.bl true) H) := by
  obtain ⟨d_is_integer, F_is_integer⟩ := T.f_is_integer
  have G_is_integer := ok_is_integer (P := P) (w := w) (base := base) F_is_integer T
  have b_is_integer : Binds K d_is_integer ["value"] [] := F_is_integer.bindsN fun _ _ _ _ _ _ us hl => match us, hl with | [_], _ => rfl
  refine F.ok sc_is_below (fun vs H Q E h => ?_) (fun cdv A outer s H vs Q E hr h => ?_)
  · obtain ⟨i, n, rfl, _⟩ := h
    rfl
  · obtain ⟨i, n, rfl, h0, h1, k⟩ := h
    have nd := sc_is_below.nd
    refine ⟨_, PSs.nox (pss_one (ps_ret (pe_and (pe_call G_is_integer (hr.mono (by decide)) rfl T.g_is_integer F_is_integer.kp b_is_integer .nil pass0 (pa_cons (pv 0) pa_nil)) (pe_one (pe_chain op_le op_lt pe_int (pv 0) (pv 1)))))), ?_⟩
    refine ⟨_, rfl, i, rfl, true, rfl, iteT ?_⟩
    refine ⟨_, rfl, _, _, rfl, rfl, _, rfl, ?_⟩
    rw [decide_eq_true h0]
    refine iteT ⟨_, rfl, _, _, rfl, rfl, ?_⟩
    show Q (.bl (decide (i < n))) H
    rw [decide_eq_true h1]
    exact k
theorem ok_is_tuple_of {f : Addr} {fd : FuncData} (F : FnP K "is_tuple_of" s_is_tuple_of f fd) (T : TP K mg) : FnOk P w K mg base CX0 1 f fd ["value", "many"] (fun vs H Q _ => ∃ (t : Addr) (xs : List V), vs = [.ref t, .int (xs.length : Nat)] ∧ SqT K H t xs ∧ Q (.bl true) H) := by
  refine F.ok sc_is_tuple_of (fun vs H Q E h => ?_) (fun cdv A outer s H vs Q E hr h => ?_)
  · obtain ⟨x, xs, rfl, _⟩ := h
    rfl
  · obtain ⟨t, xs, rfl, hs, k⟩ := h
    have nd := sc_is_tuple_of.nd
    refine ⟨_, PSs.nox (pss_one (ps_ret (pe_and (pe_callB call_isi (by rfl) T.b_isinstance (by decide +kernel) (pa_cons (pv 0) (pa_cons (pe_bltn (v := .ty "tuple") (by rfl) T.b_tuple (by decide +kernel) rfl) pa_nil))) (pe_one (pe_cmpR op_eq (pe_callB call_len (by rfl) T.b_len (by decide +kernel) (pa_cons (pv 0) pa_nil)) (pv 1) (nomark _)))))), ?_⟩
    refine ⟨_, rfl, _, _, _, _, true, rfl, ClsV.ty _, ty_tup hs, kit_ty (by decide +kernel), true, rfl, iteT ?_⟩
    refine ⟨_, rfl, _, xs.length, rfl, .inr ⟨xs, hs, rfl⟩, _, rfl, rfl, ?_⟩
    show Q (.bl (decide _)) H
    rw [decide_eq_true rfl]
    exact k
theorem ok_is_letter_of {f : Addr} {fd : FuncData} (F : FnP K "is_letter_of" s_is_letter_of f fd) (T : TP K mg) : FnOk P w K mg base CX0 1 f fd ["letters", "value"] (fun vs H Q _ => ∃ (c : Nat) (z : Str), vs = [.str z, .str ⟨#[c]⟩] ∧ c ∈ sg z ∧ Q (.bl true) H) := by
  refine F.ok sc_is_letter_of (fun vs H Q E h => ?_) (fun cdv A outer s H vs Q E hr h => ?_)
  · obtain ⟨c, z, rfl, _⟩ := h
    rfl
  · obtain ⟨c, z, rfl, hc, k⟩ := h
    have nd := sc_is_letter_of.nd
    refine ⟨_, PSs.nox (pss_one (ps_ret (pe_and (pe_callB call_isi (by rfl) T.b_isinstance (by decide +kernel) (pa_cons (pv 1) (pa_cons (pe_bltn (v := .ty "str") (by rfl) T.b_str (by decide +kernel) rfl) pa_nil))) (pe_and (pe_cmpR op_eq (pe_callB call_len (by rfl) T.b_len (by decide +kernel) (pa_cons (pv 1) pa_nil)) pe_int (nomark _)) (pe_one (pe_cmpR op_inS (pv 1) (pv 0) (by rfl))))))), ?_⟩
    refine ⟨_, rfl, _, _, _, _, true, rfl, ClsV.ty _, .base (.str ⟨#[c]⟩), kit_ty (by decide +kernel), true, rfl, iteT ?_⟩
    refine ⟨_, rfl, _, 1, rfl, ⟨by rw [sizeLine_eq]; show 1 ≤ _; omega, rfl⟩, rfl, _, rfl, ?_⟩
    rw [decide_eq_true (show V.int ((1 : Nat) : Int) = V.int 1 from rfl)]
    refine iteT ?_
    refine ⟨_, rfl, _, rfl, c, z, rfl, rfl, ?_⟩
    rw [decide_eq_true (show c ∈ z.cps.toList from hc)]
    exact k
theorem ok_is_word {f : Addr} {fd : FuncData} (F : FnP K "is_word" s_is_word f fd) (T : TP K mg) : FnOk P w K mg base CX0 1 f fd ["value"] (fun vs H Q _ => ∃ z : Str, vs = [.str z] ∧ Let z ∧ z.length ≤ 4000 ∧ Q (.bl true) H) := by
  refine F.ok sc_is_word (fun vs H Q E h => ?_) (fun cdv A outer s H vs Q E hr h => ?_)
  · obtain ⟨x, rfl, _⟩ := h
    rfl
  · obtain ⟨z, rfl, hl, hz, k⟩ := h
    have nd := sc_is_word.nd
    have hz2 : z.length ≤ sizeLine := by rw [sizeLine_eq]; omega
    refine ⟨_, PSs.nox (pss_one (ps_ret (pe_and (pe_callB call_isi (by rfl) T.b_isinstance (by decide +kernel) (pa_cons (pv 0) (pa_cons (pe_bltn (v := .ty "str") (by rfl) T.b_str (by decide +kernel) rfl) pa_nil))) (pe_one (pe_cmpR op_eq (pe_bm PySem.F.plainAttrs_str PySem.F.slot_str_strip PySem.F.type_str_strip mt_stripChars (pv 0) (pa_cons (C8.pe_gc (v := .str alpha) (by rfl) T.c__ALPHABET) pa_nil)) pe_str (nomark _)))))), ?_⟩
    refine ⟨_, rfl, _, _, _, _, true, rfl, ClsV.ty _, .base (.str z), kit_ty (by decide +kernel), true, rfl, iteT ?_⟩
    refine ⟨_, rfl, rfl, _, _, rfl, rfl, hz2, rfl, ?_⟩
    have e : (decide (V.str (Txt.stripChars z alpha) = V.str "")) = true := (dec_strV _ _).trans hl.word
    rw [e]
    exact k
theorem ok_is_letters {f : Addr} {fd : FuncData} (F : FnP K "is_letters" s_is_letters f fd) (T : TP K mg) : FnOk P w K mg base CX0 2 f fd ["value"] (fun vs H Q _ => ∃ z : Str, vs = [.str z] ∧ Let z ∧ lettersB z ∧ ∀ H', Same H H' → Q (.bl true) H') := by
  obtain ⟨d_is_word, F_is_word⟩ := T.f_is_word
  have G_is_word := ok_is_word (P := P) (w := w) (base := base) F_is_word T
  have b_is_word : Binds K d_is_word ["value"] [] := F_is_word.bindsN fun _ _ _ _ _ _ us hl => match us, hl with | [_], _ => rfl
  refine F.ok sc_is_letters (fun vs H Q E h => ?_) (fun cdv A outer s H vs Q E hr h => ?_)
  · obtain ⟨z, rfl, _⟩ := h
    rfl
  · obtain ⟨z, rfl, hw, ⟨h1, h4, hs, hd⟩, k⟩ := h
    have nd := sc_is_letters.nd
    have hu64 := hr.units
    have hz : z.length ≤ sizeLine := by rw [sizeLine_eq]; omega
    refine ⟨_, PSs.nox (pss_cons (ps_if (PW.pt (pw_or (pt_not (pt_val (pe_call G_is_word (hr.mono (by decide)) rfl T.g_is_word F_is_word.kp b_is_word .nil pass0 (pa_cons (pv 0) pa_nil)))) (pw_or1 (pt_not (pt_chain op_le op_le pe_int (pe_callB call_len (by rfl) T.b_len (by decide +kernel) (pa_cons (pv 0) pa_nil)) (C8.pe_gc (v := .int 4) (by rfl) T.c__MOST_LETTERS)))))) (pss_one (ps_ret pe_bl)) pss_nil)
      (pss_one (ps_ret (pe_cmpR (op_eqS hu64) (pe_callTy (cr_listStr rfl) (by rfl) T.b_list (by decide +kernel) (pa_cons (pv 0) pa_nil)) (pe_callB (cr_sortSetT rfl) (by rfl) T.b_sorted (by decide +kernel) (pa_cons (pe_callTy (cr_setStr rfl) (by rfl) T.b_set (by decide +kernel) (pa_cons (pv 0) pa_nil)) pa_nil)) (nomark _))))), ?_⟩
    refine ⟨_, rfl, z, rfl, hw, by omega, ?_⟩
    refine ⟨_, rfl, iteF ?_⟩
    refine ⟨_, rfl, _, z.length, rfl, ⟨hz, rfl⟩, 1, _, rfl, rfl, _, rfl, ?_⟩
    rw [decide_eq_true (by omega : (1 : Int) ≤ ((z.length : Nat) : Int))]
    refine iteT ⟨_, _, rfl, rfl, _, rfl, ?_⟩
    rw [decide_eq_true (by omega : ((z.length : Nat) : Int) ≤ 4)]
    refine iteF ⟨_, rfl, _, rfl, hz, fun p np => ?_⟩
    have S1 := same_upd (o := .lst ((FM.signs z).map V.str)) np
    refine ⟨_, rfl, z, rfl, by omega, fun p1 n np1 hn => ?_⟩
    have S2 := same_upd (o := SetT w p1 (fun j => decide (j ∈ FM.signs z)) n) np1
    refine ⟨p1, _, n, rfl, upd_same, by omega, fun ks p2 hs2 hd2 hm hl np2 => ?_⟩
    have S3 := same_upd (o := .lst (ks.map V.str)) np2
    have e2 : FM.signs z = ks := sorted_one hs hd hs2 hd2 fun j => by simpa using (hm j).symm
    exact ⟨p, p2, FM.signs z, ks, rfl, rfl, .of (S3 _ _ (S2 _ _ upd_same)), .of upd_same, by rw [decide_eq_true e2]; exact k _ ((S1.trans S2).trans S3)⟩
theorem ok_is_short {f : Addr} {fd : FuncData} (F : FnP K "_is_short" s__is_short f fd) (T : TP K mg) : FnOk P w K mg base CX0 2 f fd ["value"] (fun vs H Q _ => ∃ z : Str, vs = [.str z] ∧ Let z ∧ z.length ≤ 8 ∧ Q (.bl true) H) := by
  obtain ⟨d_is_word, F_is_word⟩ := T.f_is_word
  have G_is_word := ok_is_word (P := P) (w := w) (base := base) F_is_word T
  have b_is_word : Binds K d_is_word ["value"] [] := F_is_word.bindsN fun _ _ _ _ _ _ us hl => match us, hl with | [_], _ => rfl
  refine F.ok sc__is_short (fun vs H Q E h => ?_) (fun cdv A outer s H vs Q E hr h => ?_)
  · obtain ⟨x, rfl, _⟩ := h
    rfl
  · obtain ⟨z, rfl, hl, hz, k⟩ := h
    have nd := sc__is_short.nd
    have hz2 : z.length ≤ sizeLine := by rw [sizeLine_eq]; omega
    refine ⟨_, PSs.nox (pss_one (ps_ret (pe_and (pe_call G_is_word (hr.mono (by decide)) rfl T.g_is_word F_is_word.kp b_is_word .nil pass0 (pa_cons (pv 0) pa_nil)) (pe_one (pe_cmpR op_le (pe_callB call_len (by rfl) T.b_len (by decide +kernel) (pa_cons (pv 0) pa_nil)) (C8.pe_gc (v := .int 8) (by rfl) T.c_MAX_WORD) (nomark _)))))), ?_⟩
    refine ⟨_, rfl, z, rfl, hl, by omega, true, rfl, iteT ⟨_, rfl, _, z.length, rfl, ⟨hz2, rfl⟩, _, _, rfl, rfl, ?_⟩⟩
    have e : decide (((z.length : Nat) : Int) ≤ 8) = true := decide_eq_true (by omega)
    rw [← e] at k
    exact k
theorem ok_check_rewriter {f : Addr} {fd : FuncData} (F : FnP K "check_rewriter" s_check_rewriter f fd) (T : TP K mg) : FnOk P w K mg base CX0 1 f fd ["value"] (fun vs H Q _ => ∃ (x dx : Addr) (fs : List (Str × V)), vs = [.ref x] ∧ H x = some (.ins (CR K) dx fs) ∧ Q .non H) := by
  refine F.ok sc_check_rewriter (fun vs H Q E h => ?_) (fun cdv A outer s H vs Q E hr h => ?_)
  · obtain ⟨x, dx, fs, rfl, _⟩ := h
    rfl
  · obtain ⟨x, dx, fs, rfl, hx, k⟩ := h
    have nd := sc_check_rewriter.nd
    refine ⟨_, PSs.nox (pss_one (ps_if (pt_not (pt_val (pe_callB call_isi (by rfl) T.b_isinstance (by decide +kernel) (pa_cons (pv 0) (pa_cons (C8.pe_gc (v := .ref (CR K)) (by rfl) ⟨_, T.g_Rewriter, rfl⟩) pa_nil))))) (pss_one ps_never) pss_nil)), ?_⟩
    exact ⟨_, rfl, _, _, _, _, true, rfl, .own _, .base (.ins hx T.cl T.y_a T.y_b T.y_c T.y_m), T.k_self, true, rfl, iteF k⟩
theorem ok_is_edge {f : Addr} {fd : FuncData} (F : FnP K "_is_edge" s__is_edge f fd) (T : TP K mg) : FnOk P w K mg base CX0 4 f fd ["letters", "value"] (fun vs H Q _ => ∃ (e : Edg) (sg : List Nat) (t : Addr), vs = [.str (sgTxt sg), .ref t] ∧ EdgOk sg e ∧ H t = some (.tup (e.row.map kV)) ∧ Q (.bl true) H) := by
  obtain ⟨d_is_tuple_of, F_is_tuple_of⟩ := T.f_is_tuple_of
  have G_is_tuple_of := ok_is_tuple_of (P := P) (w := w) (base := base) F_is_tuple_of T
  have b_is_tuple_of : Binds K d_is_tuple_of ["value", "many"] [] := F_is_tuple_of.bindsN fun _ _ _ _ _ _ us hl => match us, hl with | [_, _], _ => rfl
  obtain ⟨d_is_below, F_is_below⟩ := T.f_is_below
  have G_is_below := ok_is_below (P := P) (w := w) (base := base) F_is_below T
  have b_is_below : Binds K d_is_below ["value", "limit"] [] := F_is_below.bindsN fun _ _ _ _ _ _ us hl => match us, hl with | [_, _], _ => rfl
  obtain ⟨d_is_letter_of, F_is_letter_of⟩ := T.f_is_letter_of
  have G_is_letter_of := ok_is_letter_of (P := P) (w := w) (base := base) F_is_letter_of T
  have b_is_letter_of : Binds K d_is_letter_of ["letters", "value"] [] := F_is_letter_of.bindsN fun _ _ _ _ _ _ us hl => match us, hl with | [_, _], _ => rfl
  obtain ⟨d__is_short, F__is_short⟩ := T.f__is_short
  have G__is_short := ok_is_short (P := P) (w := w) (base := base) F__is_short T
  have b__is_short : Binds K d__is_short ["value"] [] := F__is_short.bindsN fun _ _ _ _ _ _ us hl => match us, hl with | [_], _ => rfl
  refine F.ok sc__is_edge (fun vs H Q E h => ?_) (fun cdv A outer s H vs Q E hr h => ?_)
  · obtain ⟨e, sg, t, rfl, _⟩ := h
    rfl
  · obtain ⟨e, sg, t, rfl, ok, ht, k⟩ := h
    have nd := sc__is_edge.nd
    refine ⟨_, PSs.nox (pss_cons (ps_if (pt_not (pt_val (pe_call G_is_tuple_of (hr.mono (by decide)) rfl T.g_is_tuple_of F_is_tuple_of.kp b_is_tuple_of .nil pass0 (pa_cons (pv 1) (pa_cons pe_int pa_nil))))) (pss_one (ps_ret pe_bl)) pss_nil)
      (pss_cons (ps_asg (pv 1) (pg_tup (by rfl) (pgs_cons (pg_name (i := 2) nd rfl (.inl rfl)) (pgs_cons (pg_name (i := 3) nd rfl (.inl rfl)) (pgs_cons (pg_name (i := 4) nd rfl (.inl rfl)) (pgs_cons (pg_name (i := 5) nd rfl (.inl rfl)) pgs_nil))))))
      (pss_one (ps_ret (pe_and (pe_call G_is_below (hr.mono (by decide)) rfl T.g_is_below F_is_below.kp b_is_below .nil pass0 (pa_cons (pv 2) (pa_cons (C8.pe_gc (v := .int 12) (by rfl) T.c_MAX_STATES) pa_nil))) (pe_and (pe_call G_is_letter_of (hr.mono (by decide)) rfl T.g_is_letter_of F_is_letter_of.kp b_is_letter_of .nil pass0 (pa_cons (pv 0) (pa_cons (pv 3) pa_nil))) (pe_and (pe_call G__is_short (hr.mono (by decide)) rfl T.g__is_short F__is_short.kp b__is_short .nil pass0 (pa_cons (pv 4) pa_nil)) (pe_one (pe_call G_is_below (hr.mono (by decide)) rfl T.g_is_below F_is_below.kp b_is_below .nil pass0 (pa_cons (pv 5) (pa_cons (C8.pe_gc (v := .int 12) (by rfl) T.c_MAX_STATES) pa_nil))))))))))), ?_⟩
    refine ⟨_, rfl, t, e.row.map kV, rfl, .of ht, true, rfl, iteF ?_⟩
    refine ⟨_, rfl, t, _, rfl, .of ht, rfl, _, _, rfl, _, _, rfl, _, _, rfl, _, _, rfl, rfl, ?_⟩
    have ha := ok.a
    have hb := ok.b
    refine ⟨_, rfl, (e.a : Int), 12, rfl, by omega, by omega, _, rfl, iteT ?_⟩
    refine ⟨_, rfl, _, rfl, e.c, sgTxt sg, rfl, (show e.c ∈ (sgTxt sg).cps.toList by simpa [sgTxt] using ok.c), _, rfl, iteT ?_⟩
    refine ⟨_, rfl, e.u, rfl, ok.u, ok.len, _, rfl, iteT ?_⟩
    exact ⟨_, rfl, (e.b : Int), 12, rfl, by omega, by omega, k⟩
theorem ok_is_table {f : Addr} {fd : FuncData} (F : FnP K "_is_table" s__is_table f fd) (T : TP K mg) : FnOk P w K mg base CX0 3 f fd ["value"] (fun vs H Q _ => ∃ (d : Addr) (st : List (Nat × Str)), vs = [.ref d] ∧ TblOk st ∧ H d = some (.dK (entW st)) ∧ ∀ H', Same H H' → Q (.bl true) H') := by
  obtain ⟨d_is_below, F_is_below⟩ := T.f_is_below
  have G_is_below := ok_is_below (P := P) (w := w) (base := base) F_is_below T
  have b_is_below : Binds K d_is_below ["value", "limit"] [] := F_is_below.bindsN fun _ _ _ _ _ _ us hl => match us, hl with | [_, _], _ => rfl
  obtain ⟨d__is_short, F__is_short⟩ := T.f__is_short
  have G__is_short := ok_is_short (P := P) (w := w) (base := base) F__is_short T
  have b__is_short : Binds K d__is_short ["value"] [] := F__is_short.bindsN fun _ _ _ _ _ _ us hl => match us, hl with | [_], _ => rfl
  refine F.ok sc__is_table (fun vs H Q E h => ?_) (fun cdv A outer s H vs Q E hr h => ?_)
  · obtain ⟨d, st, rfl, _⟩ := h
    rfl
  · obtain ⟨d, st, rfl, ok, hd, k⟩ := h
    have nd := sc__is_table.nd
    have big : (100000 : Nat) ≤ sizeLine := by decide
    have few : st.length ≤ 12 := by
      have := nat_nodup_len (st.map (·.1)) (List.range 12) ok.nd fun m hm => by
        obtain ⟨p, hp, rfl⟩ := List.mem_map.mp hm
        exact List.mem_range.mpr (ok.few p hp)
      simpa using this
    refine ⟨_, PSs.nox (pss_cons (ps_if (pt_not (pt_val (pe_callB call_isi (by rfl) T.b_isinstance (by decide +kernel) (pa_cons (pv 0) (pa_cons (pe_bltn (v := .ty "dict") (by rfl) T.b_dict (by decide +kernel) rfl) pa_nil))))) (pss_one (ps_ret pe_bl)) pss_nil)
      (pss_one (ps_ret (pe_callB (cr_all rfl) (by rfl) T.b_all (by decide +kernel) (pa_cons (pe_lock (pe_lc (own := [("state", 1), ("word", 2)]) rfl nd (pi_items (pv 0)) (blkOk_by (own := [("state", 1), ("word", 2)]) (N := ["value", "state", "word"]) (sc := defScope s__is_table) (by decide +kernel)) (fun _ _ _ _ _ => (pg_tup (by rfl) (pgs_cons (pg_name (i := 1) nd rfl (.inl rfl)) (pgs_cons (pg_name (i := 2) nd rfl (.inl rfl)) pgs_nil)) : PG _ _ (gTup K 2 _))) (fun _ _ _ _ _ => pts_nil) (fun _ _ _ _ _ => (pe_and (pe_call G_is_below (hr.mono (by decide)) rfl T.g_is_below F_is_below.kp b_is_below .nil pass0 (pa_cons (pv 1) (pa_cons (C8.pe_gc (v := .int 12) (by rfl) T.c_MAX_STATES) pa_nil))) (pe_one (pe_call G__is_short (hr.mono (by decide)) rfl T.g__is_short F__is_short.kp b__is_short .nil pass0 (pa_cons (pv 2) pa_nil))))))) pa_nil))))), ?_⟩
    refine ⟨_, rfl, _, _, _, _, true, rfl, ClsV.ty _, .base (.dK hd), kit_ty (by decide +kernel), true, rfl, iteF ?_⟩
    refine ⟨d, _, hd, trivial, fun od => ?_⟩
    refine ⟨_, rfl, d, od, _, rfl, upd_same, fun D nD => ?_⟩
    have nDd : D ≠ d := fun z => by rw [z, upd_same] at nD; cases nD
    refine lc_it walk_items (fun i H' => Same (upd H d (.frz od (.dK (entW st)))) H' ∧ H' D = some (.lst ((List.replicate i true).map V.bl))) ⟨same_upd nD, upd_same⟩ (fun i H' _ h => h.1 _ _ upd_same) ?_ ?_
    · rintro i y H4 H4' hi ⟨S, hD⟩ ⟨T', x1, x2, rfl, nT, rfl, e1, e2⟩
      obtain ⟨p, hp⟩ : ∃ p, st[i]? = some p := ⟨st[i]'(by simpa [entW] using hi), List.getElem?_eq_getElem _⟩
      have pm := List.mem_of_getElem? hp
      have ee : (entW st)[i]? = some (ent1 p) := by
        unfold entW
        rw [List.getElem?_map, hp]
        rfl
      dsimp only at e1 e2
      rw [ee] at e1 e2
      obtain rfl : x1 = V.int (p.1 : Int) := (Option.some.inj e1).symm
      obtain rfl : x2 = V.str p.2 := (Option.some.inj e2).symm
      have ST := same_upd (o := .tup [.int (p.1 : Int), .str p.2]) nT
      have h1 := ok.few p pm
      have h2 := ok.word p pm
      refine ⟨T', _, rfl, .of upd_same, rfl, _, _, rfl, _, _, rfl, rfl, rfl, ?_⟩
      refine ⟨_, rfl, (p.1 : Int), 12, rfl, by omega, by omega, ?_⟩
      refine ⟨_, rfl, iteT ?_⟩
      refine ⟨_, rfl, p.2, rfl, h2.1, h2.2, ?_⟩
      have hi2 : i < st.length := (List.getElem?_eq_some_iff.mp hp).1
      refine ⟨_, ST _ _ hD, by rw [List.length_map, List.length_replicate]; omega, upd_far nD (S.trans ST), ?_⟩
      rw [upd_same, List.replicate_succ', List.map_append]
      rfl
    · rintro H4 ⟨S, hD⟩
      have eall : ∀ n : Nat, (List.replicate n true).all id = true := fun n => by
        rw [List.all_eq_true]
        intro b hb
        rw [List.eq_of_mem_replicate hb]
        rfl
      have S4 := same_unlock hd S
      refine ⟨S _ _ upd_same, D, _, rfl, .of (by rw [upd_ne nDd]; exact hD), ?_⟩
      rw [eall]
      exact k _ S4
theorem ok_are_edges {f : Addr} {fd : FuncData} (F : FnP K "_are_edges" s__are_edges f fd) (T : TP K mg) : FnOk P w K mg base CX0 5 f fd ["letters", "value"] (fun vs H Q _ => ∃ (sg : List Nat) (t : Addr) (ks : List (Addr × Edg)), vs = [.str (sgTxt sg), .ref t] ∧ SqT K H t (ks.map fun p => V.ref p.1) ∧ (∀ p ∈ ks, EdgOk sg p.2 ∧ H p.1 = some (.tup (p.2.row.map kV))) ∧ ks.length ≤ 63 ∧ ∀ H', Same H H' → Q (.bl true) H') := by
  obtain ⟨d__is_edge, F__is_edge⟩ := T.f__is_edge
  have G__is_edge := ok_is_edge (P := P) (w := w) (base := base) F__is_edge T
  have b__is_edge : Binds K d__is_edge ["letters", "value"] [] := F__is_edge.bindsN fun _ _ _ _ _ _ us hl => match us, hl with | [_, _], _ => rfl
  refine F.ok sc__are_edges (fun vs H Q E h => ?_) (fun cdv A outer s H vs Q E hr h => ?_)
  · obtain ⟨sg, t, ks, rfl, _⟩ := h
    rfl
  · obtain ⟨sg, t, ks, rfl, ht, hk, few, k⟩ := h
    have nd := sc__are_edges.nd
    have hu64 := hr.units
    have big : (100000 : Nat) ≤ sizeLine := by decide
    refine ⟨_, PSs.nox (pss_cons (ps_if (PW.pt (pw_or (pt_not (pt_val (pe_callB call_isi (by rfl) T.b_isinstance (by decide +kernel) (pa_cons (pv 1) (pa_cons (pe_bltn (v := .ty "tuple") (by rfl) T.b_tuple (by decide +kernel) rfl) pa_nil))))) (pw_or1 (pt_not (pt_val (pe_callB (cr_all rfl) (by rfl) T.b_all (by decide +kernel) (pa_cons (pe_lc (own := [("edge", 2)]) rfl nd (pi_tup (pv 1)) (blkOk_by (own := [("edge", 2)]) (N := ["letters", "value", "edge"]) (sc := defScope s__are_edges) (by decide +kernel)) (fun _ _ _ _ _ => (pg_name (i := 2) nd rfl (.inl rfl))) (fun _ _ _ _ _ => pts_nil) (fun _ _ _ _ _ => (pe_call G__is_edge (hr.mono (by decide)) rfl T.g__is_edge F__is_edge.kp b__is_edge .nil pass0 (pa_cons (pv 0) (pa_cons (pv 2) pa_nil))))) pa_nil))))))) (pss_one (ps_ret pe_bl)) pss_nil)
      (pss_one (ps_ret (pe_cmpR op_le (pe_callB cr_lenSetK (by rfl) T.b_len (by decide +kernel) (pa_cons (pe_callTy (cr_setTupK rfl hu64) (by rfl) T.b_set (by decide +kernel) (pa_cons (pv 1) pa_nil)) pa_nil)) (C8.pe_gc (v := .int 64) (by rfl) T.c_MAX_EDGES) (nomark _))))), ?_⟩
    refine ⟨_, rfl, _, _, _, _, true, rfl, ClsV.ty _, ty_tup ht, kit_ty (by decide +kernel), _, rfl, iteF ?_⟩
    refine ⟨_, rfl, t, rfl, ⟨_, ht⟩, fun D nD => ?_⟩
    refine lc_tup (xs := ks.map fun p => V.ref p.1) (K := K) (fun i H' => Same H H' ∧ H' D = some (.lst ((List.replicate i true).map V.bl))) ⟨same_upd nD, upd_same⟩ (fun i H' _ h => sqT_same h.1 ht) (fun i x H' hx hP => ?_) (fun H' hP => ?_)
    · obtain ⟨S, hD⟩ := hP
      rw [List.getElem?_map] at hx
      obtain ⟨p, hp, rfl⟩ := Option.map_eq_some_iff.mp hx
      obtain ⟨ok, hpt⟩ := hk p (List.mem_of_getElem? hp)
      have hi : i < ks.length := (List.getElem?_eq_some_iff.mp hp).1
      refine ⟨rfl, _, rfl, _, rfl, p.2, sg, p.1, rfl, ok, S _ _ hpt, ?_⟩
      refine ⟨_, hD, by rw [List.length_map, List.length_replicate]; omega, upd_far nD S, ?_⟩
      rw [upd_same, List.replicate_succ', List.map_append]
      rfl
    · obtain ⟨S, hD⟩ := hP
      have eall : ∀ n : Nat, (List.replicate n true).all id = true := fun n => by
        rw [List.all_eq_true]
        intro b hb
        rw [List.eq_of_mem_replicate hb]
        rfl
      refine ⟨D, _, rfl, .of hD, ?_⟩
      rw [eall]
      refine ⟨_, rfl, iteF ?_⟩
      refine ⟨_, rfl, t, ks.map fun p => (p.1, p.2.row), rfl, ?_, ?_, ?_, fun a L na sub all ndL => ?_⟩
      · rw [List.map_map]
        exact sqT_same S ht
      · rintro p hp
        obtain ⟨q, hq, rfl⟩ := List.mem_map.mp hp
        exact S _ _ (hk q hq).2
      · rw [List.length_map]
        exact few
      · have SA := same_upd (o := SetKO P w a L) na
        have lL : L.length ≤ 63 := by
          have := ndL.length_le_of_subset (l₂ := (ks.map fun p => (p.1, p.2.row)).map (·.2)) fun x hx => by
            obtain ⟨p, hp, rfl⟩ := List.mem_map.mp hx
            exact List.mem_map.mpr ⟨p, sub p hp, rfl⟩
          rw [List.length_map, List.length_map, List.length_map] at this
          omega
        refine ⟨a, L, rfl, upd_same, lL, _, _, rfl, rfl, ?_⟩
        have e : decide (((L.length : Nat) : Int) ≤ 64) = true := decide_eq_true (by omega)
        have := k _ (S.trans SA)
        rw [← e] at this
        exact this
end
end K0
set_option maxRecDepth 100000
set_option maxHeartbeats 1000000
namespace FM
open PySem L2
/-- what is still to be followed -/
def left (od : Nat → Nat) (fs : List Nat) (n : Nat) : Nat := ((List.range n).map fun m => if m ∈ fs then 0 else od m).sum
theorem left_more (od : Nat → Nat) (fs : List Nat) (x : Nat) : ∀ n, left od (fs ++ [x]) n + (if x < n ∧ x ∉ fs then od x else 0) = left od fs n
  | 0 => by simp [left]
  | n + 1 => by
    have ih := left_more od fs x n
    unfold left at ih ⊢
    rw [List.range_succ, List.map_append, List.map_append, List.sum_append, List.sum_append]
    simp only [List.map_cons, List.map_nil, List.sum_cons, List.sum_nil, Nat.add_zero]
    by_cases h1 : x ∈ fs
    · have e : ∀ m, (m ∈ fs ++ [x]) ↔ m ∈ fs := fun m => by
        rw [List.mem_append, List.mem_singleton]
        exact ⟨fun z => z.elim id fun e => e ▸ h1, .inl⟩
      simp only [h1, not_true_eq_false, and_false, if_false, Nat.add_zero] at ih ⊢
      simp only [e]
    · by_cases h2 : x = n
      · subst h2
        have a1 : ¬ (x < x ∧ x ∉ fs) := fun z => Nat.lt_irrefl _ z.1
        have a2 : x < x + 1 ∧ x ∉ fs := ⟨Nat.lt_succ_self _, h1⟩
        have a3 : x ∈ fs ++ [x] := List.mem_append_right _ (List.mem_singleton.mpr rfl)
        rw [if_neg a1] at ih
        rw [if_pos a2, if_pos a3, if_neg h1]
        omega
      · have a3 : (n ∈ fs ++ [x]) ↔ n ∈ fs := by
          rw [List.mem_append, List.mem_singleton]
          exact ⟨fun z => z.elim id fun e => absurd e.symm h2, .inl⟩
        have e1 : (if n ∈ fs ++ [x] then 0 else od n) = (if n ∈ fs then 0 else od n) := by simp only [a3]
        have e2 : (if x < n + 1 ∧ x ∉ fs then od x else 0) = (if x < n ∧ x ∉ fs then od x else 0) := by
          by_cases h3 : x < n
          · rw [if_pos (show x < n + 1 ∧ x ∉ fs from ⟨by omega, h1⟩), if_pos (show x < n ∧ x ∉ fs from ⟨h3, h1⟩)]
          · rw [if_neg (show ¬ (x < n + 1 ∧ x ∉ fs) from fun z => by omega), if_neg (show ¬ (x < n ∧ x ∉ fs) from fun z => h3 z.1)]
        rw [e1, e2]
        omega
theorem left_le {od : Nat → Nat} {b : Nat} (h : ∀ m, od m ≤ b) (fs : List Nat) : ∀ n, left od fs n ≤ n * b
  | 0 => by simp [left]
  | n + 1 => by
    have ih := left_le h fs n
    unfold left at ih ⊢
    rw [List.range_succ, List.map_append, List.sum_append, Nat.succ_mul]
    have := h n
    simp only [List.map_cons, List.map_nil, List.sum_cons, List.sum_nil, Nat.add_zero]
    split <;> omega
/-- marks that were met, as keys -/
def metK (fs : List Nat) : List (Key × V) := fs.map fun (m : Nat) => ((.inl (m : Int) : Key), V.bl true)
theorem metK_val {fs : List Nat} (nd : fs.Nodup) (m : Nat) : (valV (metK fs) (.inl (m : Int))).isSome = decide (m ∈ fs) := by
  have keys : ((metK fs).map (·.1)).Nodup := by
    unfold metK List.Nodup
    rw [List.map_map, List.pairwise_map]
    refine nd.imp fun ne e => ne ?_
    simp only [Function.comp, Sum.inl.injEq] at e
    omega
  by_cases h : m ∈ fs
  · rw [valV_mem keys (List.mem_map.mpr ⟨m, h, rfl⟩), decide_eq_true h]
    rfl
  · rw [decide_eq_false h]
    cases e : valV (metK fs) (.inl (m : Int)) with
    | none => rfl
    | some v =>
      exfalso
      unfold valV at e
      obtain ⟨p, hp, _⟩ := Option.map_eq_some_iff.mp e
      have := List.find?_some hp
      have mem := List.mem_of_find?_eq_some hp
      obtain ⟨m', hm', rfl⟩ := List.mem_map.mp mem
      have e2 := of_decide_eq_true this
      simp only [Sum.inl.injEq] at e2
      have : m' = m := by omega
      exact h (this ▸ hm')
theorem metK_new {fs : List Nat} (nd : fs.Nodup) {m : Nat} (h : m ∉ fs) : putK (metK fs) (.inl (m : Int)) (.bl true) = metK (fs ++ [m]) := by
  have e := metK_val nd m
  rw [decide_eq_false h] at e
  rw [putK_new _ (by simpa using e)]
  unfold metK
  rw [List.map_append]
  rfl
end FM
namespace K0
open PySem L2 FM He
section
variable {P : Program} {w : World} {K : PySem.W.Frag} {mg : Str → Option Value} {base : Heap}
/-- the dict at D tells what follows each mark by the moves es -/
def OnAt (K : PySem.W.Frag) (H : Hp) (D : Addr) (es : List (List Int)) : Prop := ∃ kvs, H D = some (.dK kvs) ∧ kvs.length ≤ es.length ∧
  ∀ m : Nat, (∃ (t : Addr) (ys : List Nat), valV kvs (.inl (m : Int)) = some (.ref t) ∧ SqT K H t (ys.map fun x => V.int (x : Nat)) ∧ ys ≠ [] ∧ ys.length ≤ es.length ∧ ∀ x : Nat, x ∈ ys ↔ [(m : Int), (x : Int)] ∈ es) ∨
    (valV kvs (.inl (m : Int)) = none ∧ ∀ x : Nat, [(m : Int), (x : Int)] ∉ es)
theorem on_next {H H' : Hp} {D t2 : Addr} {es : List (List Int)} {m x : Nat} {kvs : List (Key × V)} {ys2 : List Nat} (kl : kvs.length ≤ es.length)
    (on : ∀ m : Nat, (∃ (t : Addr) (ys : List Nat), valV kvs (.inl (m : Int)) = some (.ref t) ∧ SqT K H t (ys.map fun x => V.int (x : Nat)) ∧ ys ≠ [] ∧ ys.length ≤ es.length ∧ ∀ x : Nat, x ∈ ys ↔ [(m : Int), (x : Int)] ∈ es) ∨
      (valV kvs (.inl (m : Int)) = none ∧ ∀ x : Nat, [(m : Int), (x : Int)] ∉ es))
    (hD : H' D = some (.dK (putK kvs (.inl (m : Int)) (.ref t2)))) (ht : SqT K H' t2 (ys2.map fun x => V.int (x : Nat))) (ne : ys2 ≠ []) (len : ys2.length ≤ es.length + 1) (mem : ∀ y : Nat, y ∈ ys2 ↔ [(m : Int), (y : Int)] ∈ es ++ [[(m : Int), (x : Int)]])
    (keep : ∀ t xs, SqT K H t xs → SqT K H' t xs) : OnAt K H' D (es ++ [[(m : Int), (x : Int)]]) := by
  refine ⟨_, hD, ?_, fun m' => ?_⟩
  · rw [List.length_append]
    unfold putK
    split
    · rw [List.length_map]
      exact Nat.le_succ_of_le kl
    · rw [List.length_append]
      exact Nat.succ_le_succ kl
  · rw [valV_put, List.length_append]
    by_cases e : m' = m
    · subst e
      rw [if_pos rfl]
      exact .inl ⟨t2, ys2, rfl, ht, ne, len, mem⟩
    · have ek : ¬ ((.inl (m' : Int) : Key) = .inl (m : Int)) := fun z => e (by
        have := Sum.inl.inj z
        omega)
      have em : ∀ y : Nat, [(m' : Int), (y : Int)] ∈ es ++ [[(m : Int), (x : Int)]] ↔ [(m' : Int), (y : Int)] ∈ es := fun y => by
        rw [List.mem_append, List.mem_singleton]
        refine ⟨fun z => z.elim id fun z => ?_, .inl⟩
        simp only [List.cons.injEq] at z
        exact absurd (by omega) e
      rw [if_neg ek]
      rcases on m' with ⟨t, ys, a1, a2, a3, a4, a5⟩ | ⟨a1, a2⟩
      · exact .inl ⟨t, ys, a1, keep _ _ a2, a3, Nat.le_succ_of_le a4, fun y => (a5 y).trans (em y).symm⟩
      · exact .inr ⟨a1, fun y z => a2 y ((em y).mp z)⟩
def spNodes (K : PySem.W.Frag) : Sp := fun vs H Q _ => ∃ (b l : Addr) (kb : List (Key × V)) (bs : List Nat) (ks : List (Addr × List Int)) (n : Nat), vs = [.ref b, .ref l] ∧ H b = some (.dK kb) ∧ kb.map (·.1) = bs.map (fun (m : Nat) => (.inl (m : Int) : Key)) ∧ (∀ m ∈ bs, m < n) ∧ bs.length ≤ 300 ∧ SqL K H l (ks.map fun p => V.ref p.1) ∧ (∀ p ∈ ks, SqT K H p.1 (p.2.map V.int) ∧ ∃ m x : Nat, m < n ∧ x < n ∧ p.2 = [(m : Int), (x : Int)]) ∧ ks.length ≤ 300 ∧ n ≤ 100 ∧
  ∀ p H' fs, Same H H' → H p = none → H' p = some (.dK (metK fs)) → fs.Nodup → (∀ m ∈ fs, m < n) → (∀ m, m ∈ fs ↔ Rch (ks.map (·.2)) bs m) → Q (.ref p) H'
theorem ok_nodes_from {f : Addr} {fd : FuncData} (F : FnP K "nodes_from" s_nodes_from f fd) (T : TP K mg) : FnOk P w K mg base CX0 1 f fd ["begin", "moves"] (spNodes K) := by
  refine F.ok sc_nodes_from (fun vs H Q E h => ?_) (fun cdv A outer s H vs Q E hr h => ?_)
  · obtain ⟨b, l, kb, bs, ks, n, rfl, _⟩ := h
    rfl
  · obtain ⟨b, l, kb, bs, ks, n, rfl, hb, ekb, hbs, fbs, hl, hk, few, nfew, k⟩ := h
    have nd := sc_nodes_from.nd
    have hu64 := hr.units
    have hu1 := Nat.lt_of_le_of_lt (Nat.add_le_add_left (by decide : 1 ≤ 64) _) hu64
    have big : (100000 : Nat) ≤ sizeLine := by decide
    refine ⟨_, PSs.nox (pss_cons (ps_set (i := 2) nd rfl (.inl rfl) pe_dnewK)
      (pss_cons (ps_for PassesOwn.never rfl (pi_list (pe_callB (cr_sortW rfl hu64) (by rfl) T.b_sorted (by decide +kernel) (pa_cons (pe_callTy (cr_setOfW rfl hu64) (by rfl) T.b_set (by decide +kernel) (pa_cons (pv 1) pa_nil)) pa_nil))) (pg_tup (by rfl) (pgs_cons (pg_name (i := 3) nd rfl (.inl rfl)) (pgs_cons (pg_name (i := 4) nd rfl (.inl rfl)) pgs_nil))) (pss_one (ps_dput hu1 (pv 2) (pv 3) (pe_op op_catA (pe_dget2 hu1 (pv 2) (pv 3) (pe_tup pa_nil) ⟨rfl, rfl, rfl, rfl⟩) (pe_tup (pa_cons (pv 4) pa_nil))) rfl)))
      (pss_cons (ps_set (i := 5) nd rfl (.inl rfl) pe_dnewK)
      (pss_cons (ps_set (i := 6) nd rfl (.inl rfl) (pe_callTy (call_listD rfl) (by rfl) T.b_list (by decide +kernel) (pa_cons (pv 0) pa_nil)))
      (pss_cons (ps_while PassesOwn.never (pt_truth (pv 6) (by intro _; rfl)) (pss_cons (ps_set (i := 3) nd rfl (.inl rfl) (pe_bm0 PySem.F.plainAttrs_list PySem.F.slot_list_pop PySem.F.type_list_pop mt_pop (pv 6)))
      (pss_one (ps_if (pt_cmp (pc_dnotin hu1 (pv 3) (pv 5)) rfl) (pss_cons (ps_dput hu1 (pv 5) (pv 3) pe_bl rfl)
      (pss_one (ps_expr (pe_bm PySem.F.plainAttrs_list PySem.F.slot_list_extend PySem.F.type_list_extend mt_extT (pv 6) (pa_cons (pe_dget2 hu1 (pv 2) (pv 3) (pe_tup pa_nil) ⟨rfl, rfl, rfl, rfl⟩) pa_nil))))) pss_nil))))
      (pss_one (ps_ret (pv 5)))))))), ?_⟩
    intro D nD
    have S1 := same_upd (o := .dK []) nD
    refine ⟨_, rfl, l, ks, rfl, sqL_same S1 hl, fun p hp => sqT_same S1 (hk p hp).1, few, fun q L nq sub all Ll => ?_⟩
    have S2 := same_upd (o := SetWO P w q L) nq
    have hkL : ∀ p ∈ L, SqT K H p.1 (p.2.map V.int) ∧ ∃ m x : Nat, m < n ∧ x < n ∧ p.2 = [(m : Int), (x : Int)] := fun p hp => hk p (sub p hp)
    refine ⟨q, L, rfl, upd_same, fun p hp => ⟨sqT_same (S1.trans S2) (hkL p hp).1, fun z => ?_⟩, by omega, fun L' r pm nr => ?_⟩
    · obtain ⟨m, x, _, _, e⟩ := (hkL p hp).2
      rw [e] at z
      cases z
    have S3 := same_upd (o := .lst ((byTup L').map fun q => V.ref q.1)) nr
    have pz : (byTup L').Perm L := (List.mergeSort_perm ..).trans pm
    generalize byTup L' = zs at S3 pz ⊢
    have zl : zs.length ≤ 300 := by rw [pz.length_eq]; omega
    have hz : ∀ p ∈ zs, SqT K H p.1 (p.2.map V.int) ∧ ∃ m x : Nat, m < n ∧ x < n ∧ p.2 = [(m : Int), (x : Int)] := fun p hp => hkL p (pz.mem_iff.mp hp)
    have S123 := (S1.trans S2).trans S3
    refine ⟨r, rfl, ⟨_, .of upd_same⟩, ?_⟩
    refine for_list (K := K) (xs := zs.map fun q => V.ref q.1) (fun i σ H' => (∃ u3 u4, σ = [some (.ref b), some (.ref l), some (.ref D), u3, u4, none, none]) ∧ Same H H' ∧ H' r = some (.lst (zs.map fun q => V.ref q.1)) ∧ OnAt K H' D ((zs.take i).map (·.2)))
      ⟨⟨_, _, rfl⟩, S123, upd_same, [], ?_, Nat.zero_le _, fun m => .inr ⟨rfl, fun x z => by simp at z⟩⟩ (fun _ _ _ _ h => .of h.2.2.1) ?_ ?_
    · exact S3 _ _ (S2 _ _ upd_same)
    · rintro i x σ H1 hx ⟨⟨u3, u4, rfl⟩, S, hr1, kvs, hD, kl, on⟩
      rw [List.getElem?_map] at hx
      obtain ⟨p, hp, rfl⟩ := Option.map_eq_some_iff.mp hx
      obtain ⟨pt, m, x, mn, xn, e⟩ := hz p (List.mem_of_getElem? hp)
      have pt1 := sqT_same S pt
      rw [e] at pt1
      have len : ((zs.take i).map (·.2)).length ≤ 300 := by rw [List.length_map, List.length_take]; omega
      have next : (zs.take (i + 1)).map (·.2) = (zs.take i).map (·.2) ++ [[(m : Int), (x : Int)]] := by
        rw [List.take_add_one, hp, List.map_append]
        show _ ++ [p.2] = _
        rw [e]
      rw [next]
      generalize (zs.take i).map (·.2) = es at kl on len ⊢
      refine ⟨p.1, _, rfl, pt1, rfl, _, _, rfl, _, _, rfl, rfl, ?_⟩
      have zD : D ≠ r := fun z => by rw [z, hr1] at hD; cases hD
      have onm := on m
      rcases onm with ⟨t, ys, ev, ht, yne, yl, ym⟩ | ⟨ev, ynone⟩
      · refine ⟨_, rfl, D, rfl, .inl ⟨kvs, .inl hD⟩, _, rfl, Nat.zero_le _, fun e0 ne0 => ?_⟩
        have SA := same_upd (o := .tup []) ne0
        have dg := DGet.k (k := (.inl (m : Int) : Key)) (SA _ _ hD)
        rw [ev] at dg
        refine ⟨_, dg, _, rfl, by show 1 ≤ _; omega, fun e1 ne1 => ?_⟩
        have SB := same_upd (o := .tup [.int (x : Nat)]) ne1
        have ht2 := sqT_same (SA.trans SB) ht
        refine ⟨t, e1, _, _, rfl, rfl, ht2, .of upd_same, by rw [List.length_map]; show _ + 1 ≤ _; omega, fun z => absurd z (by simpa using yne), fun _ z => absurd z (by simp), fun _ _ p2 np2 => ?_⟩
        have SC := same_upd (o := .tup ((ys.map fun x => V.int (x : Nat)) ++ [.int (x : Nat)])) np2
        have SABC := (SA.trans SB).trans SC
        have pD : p2 ≠ D := fun z => by rw [z, (SA.trans SB) _ _ hD] at np2; cases np2
        refine ⟨_, rfl, _, rfl, D, _, rfl, .inl ⟨kvs, .inl (m : Int), SABC _ _ hD, rfl, by omega, rfl⟩, ⟨_, _, rfl⟩, upd_far nD (S.trans SABC), by rw [upd_ne zD.symm]; exact SABC _ _ hr1, ?_⟩
        have keep : ∀ t xs, SqT K H1 t xs → SqT K (upd (upd (upd (upd H1 e0 (.tup [])) e1 (.tup [.int (x : Nat)])) p2 (.tup ((ys.map fun x => V.int (x : Nat)) ++ [.int (x : Nat)]))) D (.dK (putK kvs (.inl (m : Int)) (.ref p2)))) t xs := fun t xs h => by
          have h2 := sqT_same SABC h
          rcases h2 with (h2 | ⟨o, h2⟩) | h2
          · refine .inl (.inl ?_)
            rw [upd_ne fun z => by rw [z, SABC _ _ hD] at h2; cases h2]
            exact h2
          · refine .inl (.inr ⟨o, ?_⟩)
            rw [upd_ne fun z => by rw [z, SABC _ _ hD] at h2; cases h2]
            exact h2
          · exact .inr h2
        refine on_next kl on upd_same (ys2 := ys ++ [x]) (t2 := p2) (.of ?_) (by simp) (by rw [List.length_append]; exact Nat.succ_le_succ yl) (fun y => ?_) keep
        · rw [upd_ne pD, upd_same, List.map_append]
          rfl
        · rw [List.mem_append, List.mem_append, ym, List.mem_singleton, List.mem_singleton]
          refine or_congr Iff.rfl ⟨fun z => by rw [z], fun z => ?_⟩
          simp only [List.cons.injEq] at z
          omega
      · refine ⟨_, rfl, D, rfl, .inl ⟨kvs, .inl hD⟩, _, rfl, Nat.zero_le _, fun e0 ne0 => ?_⟩
        have SA := same_upd (o := .tup []) ne0
        have dg := DGet.k (k := (.inl (m : Int) : Key)) (SA _ _ hD)
        rw [ev] at dg
        refine ⟨_, dg, _, rfl, by show 1 ≤ _; omega, fun e1 ne1 => ?_⟩
        have SB := same_upd (o := .tup [.int (x : Nat)]) ne1
        have n01 : e0 ≠ e1 := fun z => by rw [← z, upd_same] at ne1; cases ne1
        refine ⟨e0, e1, [], _, rfl, rfl, .of (by rw [upd_ne n01]; exact upd_same), .of upd_same, by show 0 + 1 ≤ _; omega, fun _ => ?_, fun z => absurd rfl z, fun z => absurd rfl z⟩
        have SABC := SA.trans SB
        have pD : e1 ≠ D := fun z => by rw [z, SA _ _ hD] at ne1; cases ne1
        refine ⟨_, rfl, _, rfl, D, _, rfl, .inl ⟨kvs, .inl (m : Int), SABC _ _ hD, rfl, by omega, rfl⟩, ⟨_, _, rfl⟩, upd_far nD (S.trans SABC), by rw [upd_ne zD.symm]; exact SABC _ _ hr1, ?_⟩
        have keep : ∀ t xs, SqT K H1 t xs → SqT K (upd (upd (upd H1 e0 (.tup [])) e1 (.tup [.int (x : Nat)])) D (.dK (putK kvs (.inl (m : Int)) (.ref e1)))) t xs := fun t xs h => by
          have h2 := sqT_same SABC h
          rcases h2 with (h2 | ⟨o, h2⟩) | h2
          · refine .inl (.inl ?_)
            rw [upd_ne fun z => by rw [z, SABC _ _ hD] at h2; cases h2]
            exact h2
          · refine .inl (.inr ⟨o, ?_⟩)
            rw [upd_ne fun z => by rw [z, SABC _ _ hD] at h2; cases h2]
            exact h2
          · exact .inr h2
        refine on_next kl on upd_same (ys2 := [x]) (t2 := e1) (.of ?_) (by simp) (by show 1 ≤ _; omega) (fun y => ?_) keep
        · rw [upd_ne pD, upd_same]
          rfl
        · rw [List.mem_append, List.mem_singleton, List.mem_singleton]
          refine ⟨fun z => .inr (by rw [z]), fun z => z.elim (fun z => absurd z (ynone y)) fun z => ?_⟩
          simp only [List.cons.injEq] at z
          omega
    · rintro σ H1 ⟨⟨u3, u4, rfl⟩, S, hr1, on⟩
      rw [List.length_map, List.take_length] at on
      have esl : (zs.map (·.2)).length ≤ 300 := by rw [List.length_map]; exact zl
      have hes : ∀ e ∈ zs.map (·.2), ∃ m x : Nat, m < n ∧ x < n ∧ e = [(m : Int), (x : Int)] := fun e he => by
        obtain ⟨p, hp, rfl⟩ := List.mem_map.mp he
        exact (hz p hp).2
      have rch : ∀ (m : Nat), Rch (ks.map (·.2)) bs m ↔ Rch (zs.map (·.2)) bs m := fun m => by
        refine ⟨fun h => h.mono (fun m x z => ?_) (fun _ h => h), fun h => h.mono (fun m x z => ?_) (fun _ h => h)⟩
        · obtain ⟨p, hp, e⟩ := List.mem_map.mp z
          rw [← e]
          exact (pz.map (·.2)).mem_iff.mpr (all p hp)
        · obtain ⟨p, hp, e⟩ := List.mem_map.mp z
          rw [← e]
          exact List.mem_map.mpr ⟨p, sub p (pz.mem_iff.mp hp), rfl⟩
      have k2 : ∀ p H' fs, Same H H' → H p = none → H' p = some (.dK (metK fs)) → fs.Nodup → (∀ m ∈ fs, m < n) → (∀ m, m ∈ fs ↔ Rch (zs.map (·.2)) bs m) → Q (.ref p) H' := fun p H' fs a1 a2 a3 a4 a5 a6 => k p H' fs a1 a2 a3 a4 a5 fun m => (a6 m).trans (rch m).symm
      clear rch k
      generalize zs.map (·.2) = es at on esl hes k2
      obtain ⟨kvs, hD, kl, on⟩ := on
      have ex : ∀ m : Nat, ∃ c : Nat, c ≤ 300 ∧ ((∃ (t : Addr) (ys : List Nat), valV kvs (.inl (m : Int)) = some (.ref t) ∧ SqT K H1 t (ys.map fun x => V.int (x : Nat)) ∧ ys.length = c ∧ ∀ x : Nat, x ∈ ys ↔ [(m : Int), (x : Int)] ∈ es) ∨
          (valV kvs (.inl (m : Int)) = none ∧ c = 0 ∧ ∀ x : Nat, [(m : Int), (x : Int)] ∉ es)) := fun m => by
        rcases on m with ⟨t, ys, a1, a2, _, a4, a5⟩ | ⟨a1, a2⟩
        · exact ⟨ys.length, by omega, .inl ⟨t, ys, a1, a2, rfl, a5⟩⟩
        · exact ⟨0, by omega, .inr ⟨a1, rfl, a2⟩⟩
      obtain ⟨od, hod⟩ := Classical.skolem.mp ex
      clear on ex
      intro F nF
      have SF := same_upd (o := .dK []) nF
      have ekv : (kb.map fun kv => kV kv.1) = bs.map fun m => V.int (m : Nat) := by
        have := congrArg (List.map kV) ekb
        rw [List.map_map, List.map_map] at this
        exact this
      refine ⟨_, rfl, b, kb, rfl, .inl ((S.trans SF) _ _ hb), fun Wd nW => ?_⟩
      rw [ekv]
      have SW := same_upd (o := .lst (bs.map fun m => V.int (m : Nat))) nW
      have FW : F ≠ Wd := fun z => by rw [← z, upd_same] at nW; cases nW
      have lo := left_le (fun m => (hod m).1) [] n
      have nW1 : H1 Wd = none := by rw [upd_ne FW.symm] at nW; exact nW
      refine ⟨fun m σ H' => ∃ (u3 : Option V) (fs ws : List Nat), σ = [some (.ref b), some (.ref l), some (.ref D), u3, u4, some (.ref F), some (.ref Wd)] ∧ m = ws.length + left od fs n ∧ m ≤ 40000 ∧ (∀ b o, b ≠ F → b ≠ Wd → H1 b = some o → H' b = some o) ∧
        H' F = some (.dK (metK fs)) ∧ H' Wd = some (.lst (ws.map fun m => V.int (m : Nat))) ∧ fs.Nodup ∧ (∀ m ∈ fs, m < n) ∧ (∀ m ∈ ws, m < n) ∧ (∀ m ∈ bs, m ∈ fs ∨ m ∈ ws) ∧ (∀ m, m ∈ fs ∨ m ∈ ws → Rch es bs m) ∧ ∀ m ∈ fs, ∀ x : Nat, [(m : Int), (x : Int)] ∈ es → x ∈ fs ∨ x ∈ ws,
        ⟨_, u3, [], bs, rfl, rfl, ?_, fun b o n1 n2 h => by rw [upd_ne n2, upd_ne n1]; exact h, by rw [upd_ne FW]; exact upd_same, upd_same, .nil, (fun m hm => by cases hm), hbs, (fun m hm => .inr hm), (fun m hm => hm.elim (fun z => absurd z List.not_mem_nil) .base), fun m hm => by cases hm⟩, ?_⟩
      · show bs.length + left od [] n ≤ 40000
        have : n * 300 ≤ 100 * 300 := Nat.mul_le_mul_right _ nfew
        omega
      · rintro mm σ H2 ⟨v3, fs, ws, rfl, em, mm4, keep, hF, hW, fnd, flt, wlt, zero, rc, clo⟩
        have eW : (!(ws.map fun m => V.int (m : Nat)).isEmpty) = !ws.isEmpty := by cases ws <;> rfl
        refine ⟨_, rfl, !ws.isEmpty, .inl ⟨_, .of hW, eW.symm⟩, ?_⟩
        have DF : D ≠ F := fun z => by rw [z, nF] at hD; cases hD
        have DW : D ≠ Wd := fun z => by rw [z, nW1] at hD; cases hD
        have keepS : Same H1 H2 := fun b o h => keep b o (ne_of_none h nF) (ne_of_none h nW1) h
        rcases List.eq_nil_or_concat ws with rfl | ⟨ws1, x, rfl⟩
        · refine iteF ⟨_, rfl, ?_⟩
          refine k2 F _ fs (S.trans keepS) (S.free nF) hF fnd flt fun m => ⟨fun z => rc m (.inl z), fun z => ?_⟩
          induction z with
          | base z => exact (zero _ z).resolve_right fun z => by cases z
          | step _ he ih => exact (clo _ ih _ he).resolve_right fun z => by cases z
        · have ne : (!(ws1 ++ [x]).isEmpty) = true := by simp
          rw [List.concat_eq_append] at hW em wlt zero rc clo eW ⊢
          rw [ne]
          refine iteT ⟨_, fun σ' H' h => h, ?_⟩
          have ew : ((ws1 ++ [x]).map fun m => V.int (m : Nat)) = (ws1.map fun m => V.int (m : Nat)) ++ [V.int (x : Nat)] := by rw [List.map_append]; rfl
          rw [ew] at hW
          have xn := wlt x (List.mem_append_right _ (List.mem_singleton.mpr rfl))
          rw [List.length_append] at em
          have em : mm = ws1.length + 1 + left od fs n := em
          refine ⟨_, rfl, .inl ⟨rfl, _, .of hW⟩, Wd, _, V.int (x : Nat), rfl, rfl, hW, by simp, ?_⟩
          rw [List.dropLast_concat]
          have keep3 : ∀ b o, b ≠ F → b ≠ Wd → H1 b = some o → upd H2 Wd (.lst (ws1.map fun m => V.int (m : Nat))) b = some o := fun b o n1 n2 h => by rw [upd_ne n2]; exact keep b o n1 n2 h
          have hF3 : upd H2 Wd (.lst (ws1.map fun m => V.int (m : Nat))) F = some (.dK (metK fs)) := by rw [upd_ne FW]; exact hF
          have hW3 : upd H2 Wd (.lst (ws1.map fun m => V.int (m : Nat))) Wd = some (.lst (ws1.map fun m => V.int (m : Nat))) := upd_same
          generalize upd H2 Wd (.lst (ws1.map fun m => V.int (m : Nat))) = H3 at keep3 hF3 hW3 ⊢
          refine ⟨_, rfl, _, rfl, F, _, rfl, DGet.k (k := (.inl (x : Int) : Key)) hF3, _, rfl, ?_⟩
          rw [metK_val fnd]
          by_cases hx : x ∈ fs
          · rw [decide_eq_true hx]
            refine iteF ⟨_, ?_, _, fs, ws1, rfl, rfl, ?_, keep3, hF3, hW3, fnd, flt, fun m hm => wlt m (List.mem_append_left _ hm), fun m hm => ?_, fun m hm => rc m (hm.imp_right (List.mem_append_left _)), fun m hm y he => ?_⟩
            · omega
            · omega
            · rcases zero m hm with h | h
              · exact .inl h
              · rcases List.mem_append.mp h with h | h
                · exact .inr h
                · exact .inl (by rw [List.mem_singleton.mp h]; exact hx)
            · rcases clo m hm y he with h | h
              · exact .inl h
              · rcases List.mem_append.mp h with h | h
                · exact .inr h
                · exact .inl (by rw [List.mem_singleton.mp h]; exact hx)
          · rw [decide_eq_false hx]
            have lm := left_more od fs x n
            rw [if_pos ⟨xn, hx⟩] at lm
            have fl : fs.length ≤ n := by
              have := nat_nodup_len fs (List.range n) fnd fun m hm => List.mem_range.mpr (flt m hm)
              rwa [List.length_range] at this
            refine iteT ⟨_, rfl, _, rfl, F, _, rfl, .inl ⟨metK fs, .inl (x : Int), hF3, rfl, by unfold metK; rw [List.length_map]; omega, rfl⟩, ?_⟩
            rw [metK_new fnd hx]
            have keep4 : ∀ b o, b ≠ F → b ≠ Wd → H1 b = some o → upd H3 F (.dK (metK (fs ++ [x]))) b = some o := fun b o n1 n2 h => by rw [upd_ne n1]; exact keep3 b o n1 n2 h
            have hF4 : upd H3 F (.dK (metK (fs ++ [x]))) F = some (.dK (metK (fs ++ [x]))) := upd_same
            have hW4 : upd H3 F (.dK (metK (fs ++ [x]))) Wd = some (.lst (ws1.map fun m => V.int (m : Nat))) := by rw [upd_ne FW.symm]; exact hW3
            generalize upd H3 F (.dK (metK (fs ++ [x]))) = H4 at keep4 hF4 hW4 ⊢
            have hD4 := keep4 D _ DF DW hD
            refine ⟨_, rfl, .inl ⟨rfl, _, .of hW4⟩, _, rfl, D, rfl, .inl ⟨kvs, .inl hD4⟩, _, rfl, Nat.zero_le _, fun e0 ne0 => ?_⟩
            have SA := same_upd (o := .tup []) ne0
            have keep5 : ∀ b o, b ≠ F → b ≠ Wd → H1 b = some o → upd H4 e0 (.tup []) b = some o := fun b o n1 n2 h => SA _ _ (keep4 b o n1 n2 h)
            have keepT : ∀ t xs, SqT K H1 t xs → SqT K (upd H4 e0 (.tup [])) t xs := fun t xs h => by
              rcases h with (h | ⟨o, h⟩) | h
              · exact .inl (.inl (keep5 _ _ (ne_of_none h nF) (ne_of_none h nW1) h))
              · exact .inl (.inr ⟨o, keep5 _ _ (ne_of_none h nF) (ne_of_none h nW1) h⟩)
              · exact .inr h
            have nd2 : (fs ++ [x]).Nodup := List.nodup_append.mpr ⟨fnd, by simp, fun a ha c hc z => hx (by rw [List.mem_singleton] at hc; rw [← hc, ← z]; exact ha)⟩
            have lt2 : ∀ m ∈ fs ++ [x], m < n := fun m hm => by
              rcases List.mem_append.mp hm with h | h
              · exact flt m h
              · rw [List.mem_singleton.mp h]; exact xn
            have dg := DGet.k (k := (.inl (x : Int) : Key)) (SA _ _ hD4)
            have hW5 := SA _ _ hW4
            have hF5 := SA _ _ hF4
            have eW0 : e0 ≠ Wd := fun z => by rw [z, hW4] at ne0; cases ne0
            have fin : ∃ (t : Addr) (ys : List Nat), SqT K (upd H4 e0 (.tup [])) t (ys.map fun x => V.int (x : Nat)) ∧ ys.length = od x ∧ (∀ y : Nat, y ∈ ys ↔ [(x : Int), (y : Int)] ∈ es) ∧ (valV kvs (.inl (x : Int))).getD (.ref e0) = .ref t := by
              rcases (hod x).2 with ⟨t, ys, a1, a2, a3, a4⟩ | ⟨a1, a2, a3⟩
              · exact ⟨t, ys, keepT _ _ a2, a3, a4, by rw [a1]; rfl⟩
              · exact ⟨e0, [], .of upd_same, a2.symm, fun y => ⟨fun z => absurd z List.not_mem_nil, fun z => absurd z (a3 y)⟩, by rw [a1]; rfl⟩
            obtain ⟨t, ys, ht, yl, ym, eo⟩ := fin
            refine ⟨_, dg, ?_⟩
            rw [eo]
            refine ⟨Wd, t, _, _, rfl, rfl, hW5, ht, by rw [List.length_map, List.length_map]; omega, ?_⟩
            have emap : (ws1.map fun m => V.int (m : Nat)) ++ (ys.map fun x => V.int (x : Nat)) = (ws1 ++ ys).map fun m => V.int (m : Nat) := by rw [List.map_append]
            rw [emap]
            refine ⟨_, ?_, _, fs ++ [x], ws1 ++ ys, rfl, rfl, ?_, fun b o n1 n2 h => by rw [upd_ne n2]; exact keep5 b o n1 n2 h, by rw [upd_ne FW]; exact hF5, upd_same, nd2, lt2, fun m hm => ?_, fun m hm => ?_, fun m hm => ?_, fun m hm y he => ?_⟩
            · rw [List.length_append]; omega
            · rw [List.length_append]; omega
            · rcases List.mem_append.mp hm with h | h
              · exact wlt m (List.mem_append_left _ h)
              · obtain ⟨m', x', _, b2, e2⟩ := hes _ ((ym m).mp h)
                simp only [List.cons.injEq] at e2
                omega
            · rcases zero m hm with h | h
              · exact .inl (List.mem_append_left _ h)
              · rcases List.mem_append.mp h with h | h
                · exact .inr (List.mem_append_left _ h)
                · exact .inl (List.mem_append_right _ h)
            · have rx : Rch es bs x := rc x (.inr (List.mem_append_right _ (List.mem_singleton.mpr rfl)))
              rcases hm with h | h
              · rcases List.mem_append.mp h with h | h
                · exact rc m (.inl h)
                · rw [List.mem_singleton.mp h]
                  exact rx
              · rcases List.mem_append.mp h with h | h
                · exact rc m (.inr (List.mem_append_left _ h))
                · exact .step rx ((ym m).mp h)
            · rcases List.mem_append.mp hm with h | h
              · rcases clo m h y he with h | h
                · exact .inl (List.mem_append_left _ h)
                · rcases List.mem_append.mp h with h | h
                  · exact .inr (List.mem_append_left _ h)
                  · exact .inl (List.mem_append_right _ h)
              · rw [List.mem_singleton.mp h] at he
                exact .inr (List.mem_append_right _ ((ym y).mpr he))
end
end K0
set_option maxRecDepth 100000
set_option maxHeartbeats 1000000
namespace FM
open PySem L2
theorem dp_ints2 {K : PySem.W.Frag} {H : Hp} (ns : List Nat) : ∀ p ∈ ns.map (fun (m : Nat) => ((V.int (m : Int), PyData.int (m : Int)) : DP)), Dp K H p.1 p.2 := fun p hp => by
  obtain ⟨m, _, rfl⟩ := List.mem_map.mp hp
  exact .int _
/-- sorted(numbers) -/
theorem sort_nats {K : PySem.W.Frag} {H : Hp} {a : Addr} {ns : List Nat} {Q : VK} (ha : SqL K H a (ns.map fun m => V.int (m : Nat))) (few : ns.length ≤ 1000) (nd : ns.Nodup)
    (h : ∀ q (us : List Nat), H q = none → us.Pairwise (· < ·) → us.Perm ns → Q (.ref q) (upd H q (.lst (us.map fun m => V.int (m : Nat))))) : rSortD K [.ref a] H Q := by
  refine ⟨a, ns.map fun (m : Nat) => (V.int (m : Int), PyData.int (m : Int)), rfl, by rw [List.map_map]; exact ha, dp_ints2 ns, ?_, ?_, fun p hp => ?_, by rw [List.length_map]; exact few, fun q nq => ?_⟩
  · intro x hx y hy
    rw [List.map_map] at hx hy
    obtain ⟨m, _, rfl⟩ := List.mem_map.mp hx
    obtain ⟨m', _, rfl⟩ := List.mem_map.mp hy
    rfl
  · refine .inr fun d hd => ?_
    rw [List.map_map] at hd
    obtain ⟨m, _, rfl⟩ := List.mem_map.mp hd
    exact ⟨fun z => (nomatch z), fun _ z => (nomatch z)⟩
  · obtain ⟨m, _, rfl⟩ := List.mem_map.mp hp
    show PyData.depth (.int _) ≤ 3
    simp [PyData.depth]
  · have pm := byData_perm (ns.map fun (m : Nat) => ((V.int (m : Int), PyData.int (m : Int)) : DP))
    have pw : (byData (ns.map fun (m : Nat) => ((V.int (m : Int), PyData.int (m : Int)) : DP))).Pairwise fun p q => PySem.W.dataLt q.2 p.2 = false := by
      have := PySem.W.sort_pairwise (PySem.W.sortLe_total (PyProof.Rows.listOrd PyProof.Rows.itemOrd) false fun p : DP => PySem.W.keyToks p.2) (ns.map fun (m : Nat) => ((V.int (m : Int), PyData.int (m : Int)) : DP))
      refine this.imp fun {a b} z => ?_
      have z2 : (!PySem.W.dataLt b.2 a.2) = true := z
      simpa using z2
    obtain ⟨us, pu, eu⟩ := perm_map (fun (m : Nat) => ((V.int (m : Int), PyData.int (m : Int)) : DP)) pm ns rfl
    rw [eu] at pw ⊢
    rw [List.pairwise_map] at pw
    rw [List.map_map]
    refine h q us nq ?_ pu
    have nu : us.Nodup := pu.nodup_iff.mpr nd
    refine (pw.and nu).imp fun {x y} z => ?_
    have h1 : PySem.W.dataLt (.int (y : Int)) (.int (x : Int)) = false := z.1
    have h2 : x ≠ y := z.2
    rw [PySem.W.dataLt_int, decide_eq_false_iff_not] at h1
    omega
end FM
namespace K0
open PySem L2 FM He
section
variable {P : Program} {w : World} {K : PySem.W.Frag} {mg : Str → Option Value} {base : Heap}
def revP : List Int → List Int
  | [m, x] => [x, m]
  | l => l
def spBetw (K : PySem.W.Frag) : Sp := fun vs H Q _ => ∃ (a l g : Addr) (st en : List (Nat × Str)) (ks : List (Addr × List Int)), vs = [.ref a, .ref l, .ref g] ∧ TblOk st ∧ TblOk en ∧ H a = some (.dK (entW st)) ∧ H g = some (.dK (entW en)) ∧
  SqL K H l (ks.map fun p => V.ref p.1) ∧ (∀ p ∈ ks, SqT K H p.1 (p.2.map V.int) ∧ ∃ m x : Nat, m < 12 ∧ x < 12 ∧ p.2 = [(m : Int), (x : Int)]) ∧ ks.length ≤ 300 ∧
  ∀ p H' (us : List Nat), Same H H' → H p = none → H' p = some (.lst (us.map fun m => V.int (m : Nat))) → us.Pairwise (· < ·) → (∀ m ∈ us, m < 12) → (∀ m, m ∈ us ↔ Rch (ks.map (·.2)) (st.map (·.1)) m ∧ Rch ((ks.map (·.2)).map revP) (en.map (·.1)) m) → Q (.ref p) H'
theorem entW_keys (st : List (Nat × Str)) : (entW st).map (·.1) = (st.map (·.1)).map fun (m : Nat) => (.inl (m : Int) : Key) := by
  unfold entW
  rw [List.map_map, List.map_map]
  rfl
theorem _root_.FM.TblOk.len {st : List (Nat × Str)} (ok : TblOk st) : (st.map (·.1)).length ≤ 12 := by
  have := nat_nodup_len (st.map (·.1)) (List.range 12) ok.nd fun m hm => by
    obtain ⟨p, hp, rfl⟩ := List.mem_map.mp hm
    exact List.mem_range.mpr (ok.few p hp)
  simpa using this
theorem _root_.FM.TblOk.lt {st : List (Nat × Str)} (ok : TblOk st) : ∀ m ∈ st.map (·.1), m < 12 := fun m hm => by
  obtain ⟨p, hp, rfl⟩ := List.mem_map.mp hm
  exact ok.few p hp
theorem ok_nodes_between {f : Addr} {fd : FuncData} (F : FnP K "nodes_between" s_nodes_between f fd) (T : TP K mg) : FnOk P w K mg base CX0 2 f fd ["begin", "moves", "goals"] (spBetw K) := by
  obtain ⟨d_nodes_from, F_nodes_from⟩ := T.f_nodes_from
  have G_nodes_from := ok_nodes_from (P := P) (w := w) (base := base) F_nodes_from T
  have b_nodes_from : Binds K d_nodes_from ["begin", "moves"] [] := F_nodes_from.bindsN fun _ _ _ _ _ _ us hl => match us, hl with | [_, _], _ => rfl
  refine F.ok sc_nodes_between (fun vs H Q E h => ?_) (fun cdv A outer s H vs Q E hr h => ?_)
  · obtain ⟨a, l, g, st, en, ks, rfl, _⟩ := h
    rfl
  · obtain ⟨a, l, g, st, en, ks, rfl, oks, oke, ha, hg, hl, hk, few, k⟩ := h
    have nd := sc_nodes_between.nd
    have hu64 := hr.units
    have hu1 := Nat.lt_of_le_of_lt (Nat.add_le_add_left (by decide : 1 ≤ 64) _) hu64
    have big : (100000 : Nat) ≤ sizeLine := by decide
    refine ⟨_, PSs.nox (pss_cons (ps_set (i := 3) nd rfl (.inl rfl) (pe_call G_nodes_from (hr.mono (by decide)) rfl T.g_nodes_from F_nodes_from.kp b_nodes_from .nil pass0 (pa_cons (pv 0) (pa_cons (pv 1) pa_nil))))
      (pss_cons (ps_set (i := 4) nd rfl (.inr rfl) (pe_call G_nodes_from (hr.mono (by decide)) rfl T.g_nodes_from F_nodes_from.kp b_nodes_from .nil pass0 (pa_cons (pv 2) (pa_cons (pe_lc (own := [("node", 5), ("after", 6)]) rfl nd (pi_list (pv 1)) (blkOk_by (own := [("node", 5), ("after", 6)]) (N := ["begin", "moves", "goals", "reached", "useful", "node", "after"]) (sc := defScope s_nodes_between) (by decide +kernel)) (fun _ _ _ _ _ => (pg_tup (by rfl) (pgs_cons (pg_name (i := 5) nd rfl (.inl rfl)) (pgs_cons (pg_name (i := 6) nd rfl (.inl rfl)) pgs_nil)) : PG _ _ (gTup K 2 _))) (fun _ _ _ _ _ => pts_nil) (fun _ _ _ _ _ => (pe_tup (pa_cons (pv 6) (pa_cons (pv 5) pa_nil))))) pa_nil))))
      (pss_one (ps_ret (pe_callB (cr_sortD hu64) (by rfl) T.b_sorted (by decide +kernel) (pa_cons (pe_lock (pe_lc (own := [("node", 5)]) rfl nd (pi_keys (pv 3)) (blkOk_by (own := [("node", 5)]) (N := ["begin", "moves", "goals", "reached", "useful", "node", "after"]) (sc := defScope s_nodes_between) (by decide +kernel)) (fun _ _ _ _ _ => (pg_name (i := 5) nd rfl (.inl rfl))) (fun _ _ _ _ _ => pts_one (pt_cmp (pc_din hu1 (pv 5) (pv 4)) rfl)) (fun _ _ _ _ _ => (pv 5)))) pa_nil)))))), ?_⟩
    refine ⟨_, rfl, _, rfl, a, l, entW st, st.map (·.1), ks, 12, rfl, ha, entW_keys st, oks.lt, by have := oks.len; omega, hl, hk, few, by decide, fun p1 H1 fs S1 np1 hp1 ndf ltf memf => ?_⟩
    refine ⟨_, rfl, _, rfl, l, rfl, ⟨_, sqL_same S1 hl⟩, fun D nD => ?_⟩
    refine lc_it walk_list (fun i H' => Same H1 H' ∧ ∃ rs : List (Addr × List Int), rs.map (·.2) = ((ks.take i).map (·.2)).map revP ∧ H' D = some (.lst (rs.map fun p => V.ref p.1)) ∧ ∀ p ∈ rs, H' p.1 = some (.tup (p.2.map V.int)) ∧ ∃ m x : Nat, m < 12 ∧ x < 12 ∧ p.2 = [(m : Int), (x : Int)])
      ⟨same_upd nD, [], by simp, upd_same, fun p hp => by cases hp⟩ (fun i H' _ h => sqL_same (S1.trans h.1) hl) ?_ ?_
    · rintro i y H4' H4 hi ⟨S, rs, er, hD, hr⟩ ⟨rfl, hy⟩
      rw [List.getElem?_map] at hy
      obtain ⟨p, hp, rfl⟩ := Option.map_eq_some_iff.mp hy
      obtain ⟨pt, m, x, mn, xn, e⟩ := hk p (List.mem_of_getElem? hp)
      have pt := sqT_same (S1.trans S) pt
      rw [e] at pt
      refine ⟨p.1, _, rfl, pt, rfl, _, _, rfl, _, _, rfl, rfl, rfl, _, rfl, _, rfl, by show 2 ≤ _; omega, fun q nq => ?_⟩
      have SQ := same_upd (o := .tup [.int (x : Nat), .int (m : Nat)]) nq
      have rl : rs.length ≤ 300 := by
        have := congrArg List.length er
        rw [List.length_map, List.length_map, List.length_map, List.length_take] at this
        omega
      refine ⟨_, SQ _ _ hD, by rw [List.length_map]; omega, upd_far nD (S.trans SQ), rs ++ [(q, [(x : Int), (m : Int)])], ?_, by rw [upd_same, List.map_append]; rfl, fun r hr2 => ?_⟩
      · rw [List.map_append, er, List.take_add_one, hp, List.map_append, List.map_append]
        show _ ++ [[(x : Int), (m : Int)]] = _ ++ [revP p.2]
        rw [e]
        rfl
      · have nrD : ∀ r : Addr, ∀ xs, upd H4 q (.tup [.int (x : Nat), .int (m : Nat)]) r = some (.tup xs) → r ≠ D := fun r xs h z => by rw [z, SQ _ _ hD] at h; cases h
        rcases List.mem_append.mp hr2 with h | h
        · obtain ⟨h1, h2⟩ := hr r h
          have h1 := SQ _ _ h1
          exact ⟨by rw [upd_ne (nrD _ _ h1)]; exact h1, h2⟩
        · rw [List.mem_singleton.mp h]
          exact ⟨by rw [upd_ne (nrD q _ upd_same)]; exact upd_same, x, m, xn, mn, rfl⟩
    · rintro H4 ⟨S, rs, er, hD, hr⟩
      rw [List.length_map, List.take_length] at er
      have S14 := S1.trans S
      refine ⟨g, D, entW en, en.map (·.1), rs, 12, rfl, S14 _ _ hg, entW_keys en, oke.lt, by have := oke.len; omega, .of hD, fun p hp => ⟨.of (hr p hp).1, (hr p hp).2⟩, ?_, by decide, fun p2 H5 fs2 S5 np2 hp2 ndf2 ltf2 memf2 => ?_⟩
      · have := congrArg List.length er
        rw [List.length_map, List.length_map, List.length_map] at this
        omega
      rw [er] at memf2
      have S15 := S14.trans S5
      have hp15 := S5 _ _ (S _ _ hp1)
      refine ⟨p1, _, hp15, trivial, fun od => ?_⟩
      have flen : fs.length ≤ 12 := by
        have := nat_nodup_len fs (List.range 12) ndf fun m hm => List.mem_range.mpr (ltf m hm)
        simpa using this
      have ne12 : p2 ≠ p1 := fun z => by rw [z, S _ _ hp1] at np2; cases np2
      refine ⟨_, rfl, p1, od, rfl, .inl ⟨_, upd_same, fun D2 nD2 => ?_⟩⟩
      have nD21 : D2 ≠ p1 := fun z => by rw [z, upd_same] at nD2; cases nD2
      have hp2F : upd H5 p1 (.frz od (.dK (metK fs))) p2 = some (.dK (metK fs2)) := by rw [upd_ne ne12]; exact hp2
      refine lc_it walk_keys (fun i H' => Same (upd H5 p1 (.frz od (.dK (metK fs)))) H' ∧ H' D2 = some (.lst (((fs.take i).filter fun m => decide (m ∈ fs2)).map fun m => V.int (m : Nat)))) ⟨same_upd nD2, by simpa using upd_same⟩ (fun i H' _ h => h.1 _ _ upd_same) ?_ ?_
      · rintro i y H6' H6 hi ⟨S6, hD2⟩ ⟨rfl, kk, v, he, rfl⟩
        unfold metK at he
        rw [List.getElem?_map] at he
        obtain ⟨m, hm, e⟩ := Option.map_eq_some_iff.mp he
        cases e
        refine ⟨rfl, ?_⟩
        refine ⟨_, rfl, _, rfl, p2, _, rfl, DGet.k (k := (.inl (m : Int) : Key)) (S6 _ _ hp2F), _, rfl, ?_⟩
        rw [metK_val ndf2]
        have tk : fs.take (i + 1) = fs.take i ++ [m] := by rw [List.take_add_one, hm]; rfl
        by_cases hx : m ∈ fs2
        · rw [decide_eq_true hx]
          refine iteT ⟨_, rfl, ?_⟩
          have hl : ((fs.take i).filter fun m => decide (m ∈ fs2)).length ≤ 12 := by
            have h1 := List.length_filter_le (fun m => decide (m ∈ fs2)) (fs.take i)
            rw [List.length_take] at h1
            have := flen
            omega
          refine ⟨_, hD2, by rw [List.length_map]; omega, upd_far nD2 S6, ?_⟩
          rw [upd_same, tk, List.filter_append, List.map_append, show [m].filter (fun m => decide (m ∈ fs2)) = [m] by simp [hx]]
          rfl
        · rw [decide_eq_false hx]
          refine iteF ⟨S6, ?_⟩
          rw [tk, List.filter_append, show [m].filter (fun m => decide (m ∈ fs2)) = [] by simp [hx], List.append_nil]
          exact hD2
      · rintro H6 ⟨S6, hD2⟩
        refine ⟨S6 _ _ upd_same, ?_⟩
        rw [show ((metK fs).length) = fs.length by unfold metK; rw [List.length_map], List.take_length] at hD2
        refine sort_nats (ns := fs.filter fun m => decide (m ∈ fs2)) (.of (by rw [upd_ne nD21]; exact hD2)) ?_ (ndf.filter _) fun q us nq rise pm => ?_
        · have h1 := List.length_filter_le (fun m => decide (m ∈ fs2)) fs
          omega
        · have S7 := (S15.trans (same_unlock hp15 S6)).trans (same_upd (o := .lst (us.map fun m => V.int (m : Nat))) nq)
          have mem : ∀ m, m ∈ us ↔ m ∈ fs ∧ m ∈ fs2 := fun m => by
            rw [pm.mem_iff, List.mem_filter, decide_eq_true_iff]
          refine k q _ us S7 ((S15.trans (same_unlock hp15 S6)).free nq) upd_same rise (fun m hm => ltf m ((mem m).mp hm).1) fun m => ?_
          rw [mem, memf, memf2]
end
end K0
set_option maxRecDepth 100000
set_option maxHeartbeats 1000000
namespace FM
open PySem L2
theorem sg_let {sg : List Nat} (g : SgOk sg) : Let (sgTxt sg) := fun c hc => g.let_ c (by simpa [sgTxt] using hc)
theorem sgTxt_length (sg : List Nat) : (sgTxt sg).length = sg.length := by
  unfold sgTxt Str.length
  simp
theorem signs_sgTxt (sg : List Nat) : FM.signs (sgTxt sg) = sg.map fun c => (⟨#[c]⟩ : Str) := by
  unfold FM.signs sgTxt
  simp
theorem sorted_signs : ∀ {l : List Nat}, l.Pairwise (· < ·) → PyProof.Rows.sortedS (l.map fun c => (⟨#[c]⟩ : Str)) = true
  | [], _ => rfl
  | c :: l, h => by
    have go : ∀ (l : List Nat) (c : Nat), (c :: l).Pairwise (· < ·) → PyProof.Rows.risingS ⟨#[c]⟩ (l.map fun c => (⟨#[c]⟩ : Str)) = true := fun l => by
      induction l with
      | nil => exact fun _ _ => rfl
      | cons d l ih =>
        intro c h
        rw [List.pairwise_cons] at h
        have lt := h.1 d List.mem_cons_self
        show (!PySem.Spec.ltCps [d] [c] && PyProof.Rows.risingS ⟨#[d]⟩ (l.map fun c => (⟨#[c]⟩ : Str))) = true
        rw [ih d h.2, Bool.and_true, Bool.not_eq_true']
        simp [PySem.Spec.ltCps]
        omega
    exact go l c h
theorem sg_letB {sg : List Nat} (g : SgOk sg) : K0.lettersB (sgTxt sg) := by
  unfold K0.lettersB
  rw [signs_sgTxt, sgTxt_length]
  refine ⟨List.length_pos_iff.mpr g.one, g.four, sorted_signs g.rise, ?_⟩
  unfold List.Nodup
  rw [List.pairwise_map]
  refine g.rise.imp fun {c d} lt => ?_
  intro e
  exact Nat.ne_of_lt lt (by simpa using e)
theorem entW_get {st : List (Nat × Str)} (ok : TblOk st) {m : Nat} {u : Str} (h : (m, u) ∈ st) : valV (entW st) (.inl (m : Int)) = some (.str u) := by
  refine valV_mem ?_ (List.mem_map.mpr ⟨(m, u), h, rfl⟩)
  rw [K0.entW_keys]
  unfold List.Nodup
  rw [List.pairwise_map]
  refine ok.nd.imp fun ne e => ne ?_
  simp only [Sum.inl.injEq] at e
  omega
theorem entW_out {st : List (Nat × Str)} {m : Nat} (h : m ∉ st.map (·.1)) : valV (entW st) (.inl (m : Int)) = none := by
  refine valV_out fun z => h ?_
  rw [K0.entW_keys] at z
  obtain ⟨m', hm', e⟩ := List.mem_map.mp z
  simp only [Sum.inl.injEq] at e
  rw [show m = m' by omega]
  exact hm'
theorem filter_one {st : List (Nat × Str)} (nd : (st.map (·.1)).Nodup) {m : Nat} {u : Str} (h : (m, u) ∈ st) : (st.filter fun p => p.1 == m) = [(m, u)] := by
  induction st with
  | nil => cases h
  | cons p st ih =>
    rw [List.map_cons, List.nodup_cons] at nd
    rcases List.mem_cons.mp h with e | h
    · subst e
      rw [List.filter_cons_of_pos (by simp)]
      have : (st.filter fun p => p.1 == m) = [] := List.filter_eq_nil_iff.mpr fun p hp z => nd.1 (List.mem_map.mpr ⟨p, hp, by simpa using z⟩)
      rw [this]
    · have ne : ¬ (p.1 == m) = true := fun z => nd.1 (List.mem_map.mpr ⟨(m, u), h, by simpa using (Eq.symm (by simpa using z))⟩)
      rw [show (p :: st).filter (fun p => p.1 == m) = st.filter (fun p => p.1 == m) from List.filter_cons_of_neg ne]
      exact ih nd.2 h
theorem filter_none {st : List (Nat × Str)} {m : Nat} (h : m ∉ st.map (·.1)) : (st.filter fun p => p.1 == m) = [] :=
  List.filter_eq_nil_iff.mpr fun p hp z => h (List.mem_map.mpr ⟨p, hp, by simpa using z⟩)
theorem atS_next (st : List (Nat × Str)) {us : List Nat} {i m : Nat} (h : us[i]? = some m) : atS st (us.take (i + 1)) = atS st (us.take i) ++ st.filter fun p => p.1 == m := by
  unfold atS
  rw [List.take_add_one, h, List.flatMap_append]
  simp
theorem atS_keys {st : List (Nat × Str)} {us : List Nat} {m : Nat} (h : m ∈ (atS st us).map (·.1)) : m ∈ us := by
  obtain ⟨p, hp, rfl⟩ := List.mem_map.mp h
  unfold atS at hp
  obtain ⟨x, hx, hp⟩ := List.mem_flatMap.mp hp
  have := (List.mem_filter.mp hp).2
  rw [show p.1 = x by simpa using this]
  exact hx
theorem atS_put {st : List (Nat × Str)} (ok : TblOk st) {us : List Nat} (nd : us.Nodup) {i m : Nat} (hi : us[i]? = some m) {u : Str} (h : (m, u) ∈ st) : putK (entW (atS st (us.take i))) (.inl (m : Int)) (.str u) = entW (atS st (us.take (i + 1))) := by
  have out : m ∉ (atS st (us.take i)).map (·.1) := fun z => by
    have z := atS_keys z
    obtain ⟨j, hj, ej⟩ := List.mem_iff_getElem.mp z
    rw [List.length_take] at hj
    obtain ⟨hi2, ei⟩ := List.getElem?_eq_some_iff.mp hi
    rw [List.getElem_take] at ej
    exact (List.pairwise_iff_getElem.mp nd) j i (by omega) hi2 (by omega) (ej.trans ei.symm)
  rw [putK_new _ (entW_out out), atS_next st hi, filter_one ok.nd h]
  unfold entW
  rw [List.map_append]
  rfl
theorem atS_len {st : List (Nat × Str)} (ok : TblOk st) : ∀ us : List Nat, (atS st us).length ≤ us.length
  | [] => Nat.le_refl _
  | m :: us => by
    have ih := atS_len ok us
    unfold atS at ih ⊢
    rw [List.flatMap_cons, List.length_append, List.length_cons]
    have : (st.filter fun p => p.1 == m).length ≤ 1 := by
      by_cases h : m ∈ st.map (·.1)
      · obtain ⟨p, hp, e⟩ := List.mem_map.mp h
        rw [filter_one ok.nd (u := p.2) (by rw [← e]; exact hp)]
        exact Nat.le_refl _
      · rw [filter_none h]
        exact Nat.zero_le _
    omega
theorem kept_of {P : RwP} {us : List Nat} (rise : us.Pairwise (· < ·)) (mem : ∀ m, m ∈ us ↔ P.Useful m) {ks L1 : List (Addr × Edg)} (eks : ks.map (·.2) = P.ed) (sub : ∀ q ∈ L1, q ∈ ks)
    (all : ∀ q ∈ ks, q.2.row ∈ L1.map fun q => q.2.row) (nd : (L1.map fun q => q.2.row).Nodup) (srt : KSorted (L1.map fun q => q.2.row)) :
    Kept P us ((L1.filter fun q => decide (q.2.a ∈ us) && decide (q.2.b ∈ us)).map (·.2)) := by
  have sl : ((L1.filter fun q => decide (q.2.a ∈ us) && decide (q.2.b ∈ us)).map fun q => q.2.row).Sublist (L1.map fun q => q.2.row) := List.filter_sublist.map _
  refine ⟨rise, mem, ?_, ?_, fun e => ?_⟩
  · rw [List.map_map]
    exact srt.sublist sl
  · have n2 := nd.sublist sl
    unfold List.Nodup at n2 ⊢
    rw [List.pairwise_map] at n2 ⊢
    exact n2.imp fun ne e => ne (by rw [e])
  · rw [← eks]
    refine ⟨fun z => ?_, fun ⟨z, h1, h2⟩ => ?_⟩
    · obtain ⟨q, hq, rfl⟩ := List.mem_map.mp z
      obtain ⟨h1, h2⟩ := List.mem_filter.mp hq
      rw [Bool.and_eq_true, decide_eq_true_iff, decide_eq_true_iff] at h2
      exact ⟨List.mem_map.mpr ⟨q, sub q h1, rfl⟩, h2⟩
    · obtain ⟨q, hq, rfl⟩ := List.mem_map.mp z
      obtain ⟨q2, hq2, e⟩ := List.mem_map.mp (all q hq)
      have e := row_inj e
      refine List.mem_map.mpr ⟨q2, List.mem_filter.mpr ⟨hq2, ?_⟩, e⟩
      rw [e, decide_eq_true h1, decide_eq_true h2]
      rfl
theorem sub_map {α β : Type} (f : α → β) : ∀ (L : List β) (ks : List α), (∀ p ∈ L, p ∈ ks.map f) → ∃ L0 : List α, L = L0.map f ∧ ∀ q ∈ L0, q ∈ ks
  | [], _, _ => ⟨[], rfl, fun _ z => by cases z⟩
  | p :: L, ks, h => by
    obtain ⟨q, hq, e⟩ := List.mem_map.mp (h p List.mem_cons_self)
    obtain ⟨L0, e0, s0⟩ := sub_map f L ks fun x hx => h x (List.mem_cons_of_mem _ hx)
    refine ⟨q :: L0, by rw [List.map_cons, e, e0], fun x hx => ?_⟩
    rcases List.mem_cons.mp hx with z | z
    · rw [z]; exact hq
    · exact s0 x z
theorem inV_nats (m : Nat) (ns : List Nat) : inV (.int (m : Nat)) (ns.map fun k => V.int (k : Nat)) = decide (m ∈ ns) := by
  have := inV_ints (m : Int) (ns.map fun (k : Nat) => (k : Int))
  rw [List.map_map] at this
  refine Eq.trans this (decide_eq_decide.mpr ⟨fun z => ?_, fun z => List.mem_map.mpr ⟨m, z, rfl⟩⟩)
  obtain ⟨k, hk, e⟩ := List.mem_map.mp z
  rw [show m = k by omega]
  exact hk
/-- the fields of a rewriter -/
def fsR (L : Str) (ts ds te de : Addr) : List (Str × V) := [("_letters", .str L), ("_states", .ref ts), ("_starts", .ref ds), ("_edges", .ref te), ("_ends", .ref de)]
theorem fsR_eq (L : Str) (ts ds te de : Addr) : putF "_ends" (.ref de) (putF "_edges" (.ref te) (putF "_starts" (.ref ds) (putF "_states" (.ref ts) (putF "_letters" (.str L) [])))) = fsR L ts ds te de := by
  have h1 : ¬ (("_letters" : Str) = "_states") := by decide +kernel
  have h2 : ¬ (("_letters" : Str) = "_starts") := by decide +kernel
  have h3 : ¬ (("_states" : Str) = "_starts") := by decide +kernel
  have h4 : ¬ (("_letters" : Str) = "_edges") := by decide +kernel
  have h5 : ¬ (("_states" : Str) = "_edges") := by decide +kernel
  have h6 : ¬ (("_starts" : Str) = "_edges") := by decide +kernel
  have h7 : ¬ (("_letters" : Str) = "_ends") := by decide +kernel
  have h8 : ¬ (("_states" : Str) = "_ends") := by decide +kernel
  have h9 : ¬ (("_starts" : Str) = "_ends") := by decide +kernel
  have h0 : ¬ (("_edges" : Str) = "_ends") := by decide +kernel
  unfold fsR
  simp only [putF, if_neg h1, if_neg h2, if_neg h3, if_neg h4, if_neg h5, if_neg h6, if_neg h7, if_neg h8, if_neg h9, if_neg h0]
end FM
namespace K0
open PySem L2 FM He
/-- a tuple of edges -/
def EdAt (H : Hp) (te : Addr) (ed : List Edg) : Prop := ∃ ks : List (Addr × Edg), H te = some (.tup (ks.map fun p => V.ref p.1)) ∧ ks.map (·.2) = ed ∧ ∀ p ∈ ks, H p.1 = some (.tup (p.2.row.map kV))
theorem EdAt.same {H H' : Hp} {te : Addr} {ed : List Edg} (h : EdAt H te ed) (S : Same H H') : EdAt H' te ed := by
  obtain ⟨ks, e1, e2, e3⟩ := h
  exact ⟨ks, S _ _ e1, e2, fun p hp => S _ _ (e3 p hp)⟩
/-- the rewriter at x: made of P, with these states and edges kept -/
def RwAt (K : PySem.W.Frag) (H : Hp) (x : Addr) (P : RwP) (us : List Nat) (ed : List Edg) : Prop := ∃ dx ts ds te de : Addr, H x = some (.ins (CR K) dx (fsR (sgTxt P.sg) ts ds te de)) ∧ H ts = some (.tup (us.map fun m => V.int (m : Nat))) ∧
  H ds = some (.dK (entW (atS P.st us))) ∧ EdAt H te ed ∧ H de = some (.dK (entW (atS P.en us)))
theorem RwAt.same {K : PySem.W.Frag} {H H' : Hp} {x : Addr} {P : RwP} {us : List Nat} {ed : List Edg} (h : RwAt K H x P us ed) (S : Same H H') : RwAt K H' x P us ed := by
  obtain ⟨dx, ts, ds, te, de, a1, a2, a3, a4, a5⟩ := h
  exact ⟨dx, ts, ds, te, de, S _ _ a1, S _ _ a2, S _ _ a3, a4.same S, S _ _ a5⟩
section
variable {P : Program} {w : World} {K : PySem.W.Frag} {mg : Str → Option Value} {base : Heap}
def spInit (K : PySem.W.Frag) : Sp := fun vs H Q _ => ∃ (x a t b dx : Addr) (R : RwP) (ks : List (Addr × Edg)), vs = [.ref x, .str (sgTxt R.sg), .ref a, .ref t, .ref b] ∧ R.Ok ∧ H x = some (.ins (CR K) dx []) ∧ H a = some (.dK (entW R.st)) ∧ H b = some (.dK (entW R.en)) ∧
  SqT K H t (ks.map fun p => V.ref p.1) ∧ ks.map (·.2) = R.ed ∧ (∀ p ∈ ks, H p.1 = some (.tup (p.2.row.map kV))) ∧
  ∀ H' us ed, (∀ b o, b ≠ x → H b = some o → H' b = some o) → Kept R us ed → RwAt K H' x R us ed → Q .non H'
theorem ok_init {f : Addr} {fd : FuncData} (F : FnM K "__init__" "Rewriter.__init__" s_Rewriter___init__ f fd) (T : TP K mg) : FnOk P w K mg base CX0 6 f fd ["self", "letters", "starts", "edges", "ends"] (spInit K) := by
  obtain ⟨d_nodes_between, F_nodes_between⟩ := T.f_nodes_between
  have G_nodes_between := ok_nodes_between (P := P) (w := w) (base := base) F_nodes_between T
  have b_nodes_between : Binds K d_nodes_between ["begin", "moves", "goals"] [] := F_nodes_between.bindsN fun _ _ _ _ _ _ us hl => match us, hl with | [_, _, _], _ => rfl
  obtain ⟨d_is_letters, F_is_letters⟩ := T.f_is_letters
  have G_is_letters := ok_is_letters (P := P) (w := w) (base := base) F_is_letters T
  have b_is_letters : Binds K d_is_letters ["value"] [] := F_is_letters.bindsN fun _ _ _ _ _ _ us hl => match us, hl with | [_], _ => rfl
  obtain ⟨d__are_edges, F__are_edges⟩ := T.f__are_edges
  have G__are_edges := ok_are_edges (P := P) (w := w) (base := base) F__are_edges T
  have b__are_edges : Binds K d__are_edges ["letters", "value"] [] := F__are_edges.bindsN fun _ _ _ _ _ _ us hl => match us, hl with | [_, _], _ => rfl
  obtain ⟨d__is_table, F__is_table⟩ := T.f__is_table
  have G__is_table := ok_is_table (P := P) (w := w) (base := base) F__is_table T
  have b__is_table : Binds K d__is_table ["value"] [] := F__is_table.bindsN fun _ _ _ _ _ _ us hl => match us, hl with | [_], _ => rfl
  refine F.ok sc_Rewriter___init__ (fun vs H Q E h => ?_) (fun cdv A outer s H vs Q E hr h => ?_)
  · obtain ⟨x, a, t, b, dx, R, ks, rfl, _⟩ := h
    rfl
  · obtain ⟨x, a, t, b, dx, R, ks, rfl, ok, hx, ha, hb, ht, eks, hk, k⟩ := h
    have nd := sc_Rewriter___init__.nd
    have hu64 := hr.units
    have hu1 := Nat.lt_of_le_of_lt (Nat.add_le_add_left (by decide : 1 ≤ 64) _) hu64
    have hu0 := Nat.lt_of_le_of_lt (Nat.add_le_add_left (by decide : 0 ≤ 64) _) hu64
    have big : (100000 : Nat) ≤ sizeLine := by decide
    have kfew : ks.length ≤ 63 := by
      have := ok.few
      rw [← eks, List.length_map] at this
      exact this
    have kok : ∀ p ∈ ks, EdgOk R.sg p.2 := fun p hp => ok.ed _ (by rw [← eks]; exact List.mem_map.mpr ⟨p, hp, rfl⟩)
    refine ⟨_, PSs.nox (pss_cons (ps_if (pt_not (pt_val (pe_call G_is_letters (hr.mono (by decide)) rfl T.g_is_letters F_is_letters.kp b_is_letters .nil pass0 (pa_cons (pv 1) pa_nil)))) (pss_one ps_never) pss_nil)
      (pss_cons (ps_if (PW.pt (pw_or (pt_not (pt_val (pe_call G__is_table (hr.mono (by decide)) rfl T.g__is_table F__is_table.kp b__is_table .nil pass0 (pa_cons (pv 2) pa_nil)))) (pw_or1 (pt_not (pt_val (pe_call G__is_table (hr.mono (by decide)) rfl T.g__is_table F__is_table.kp b__is_table .nil pass0 (pa_cons (pv 4) pa_nil))))))) (pss_one ps_never) pss_nil)
      (pss_cons (ps_if (pt_not (pt_val (pe_call G__are_edges (hr.mono (by decide)) rfl T.g__are_edges F__are_edges.kp b__are_edges .nil pass0 (pa_cons (pv 1) (pa_cons (pv 3) pa_nil))))) (pss_one ps_never) pss_nil)
      (pss_cons (ps_set (i := 5) nd rfl (.inr rfl) (pe_call G_nodes_between (hr.mono (by decide)) rfl T.g_nodes_between F_nodes_between.kp b_nodes_between .nil pass0 (pa_cons (pv 2) (pa_cons (pe_lc (own := [("edge", 6)]) rfl nd (pi_tup (pv 3)) (blkOk_by (own := [("edge", 6)]) (N := ["self", "letters", "starts", "edges", "ends", "useful", "edge", "state"]) (sc := defScope s_Rewriter___init__) (by decide +kernel)) (fun _ _ _ _ _ => (pg_name (i := 6) nd rfl (.inl rfl))) (fun _ _ _ _ _ => pts_nil) (fun _ _ _ _ _ => (pe_tup (pa_cons (pe_ix (ix_seq : IxR _ (rIx K)) (pv 6) pe_int (fun _ _ => rfl)) (pa_cons (pe_ix (ix_seq : IxR _ (rIx K)) (pv 6) pe_int (fun _ _ => rfl)) pa_nil))))) (pa_cons (pv 4) pa_nil)))))
      (pss_cons (ps_fld (pv 0) (pv 1) rfl)
      (pss_cons (ps_fld (pv 0) (pe_callTy call_tuple_of (by rfl) T.b_tuple (by decide +kernel) (pa_cons (pv 5) pa_nil)) rfl)
      (pss_cons (ps_fld (pv 0) (pe_dc (own := [("state", 7)]) rfl nd (pi_list (pv 5)) (blkOk_by (own := [("state", 7)]) (N := ["self", "letters", "starts", "edges", "ends", "useful", "edge", "state"]) (sc := defScope s_Rewriter___init__) (by decide +kernel)) (fun _ _ _ _ _ => (pg_name (i := 7) nd rfl (.inl rfl))) (fun _ _ _ _ _ => pts_one (pt_cmp (pc_din hu1 (pv 7) (pv 2)) rfl)) (fun _ _ _ _ _ => (pv 7)) (fun _ _ _ _ _ => (pe_dget hu1 (pv 2) (pv 7) (fun _ _ => rfl)))) rfl)
      (pss_cons (ps_fld (pv 0) (pe_callTy call_tuple_of (by rfl) T.b_tuple (by decide +kernel) (pa_cons (pe_lc (own := [("edge", 6)]) rfl nd (pi_list (pe_callB (cr_sortK rfl hu64) (by rfl) T.b_sorted (by decide +kernel) (pa_cons (pe_callTy (cr_setTupK rfl hu64) (by rfl) T.b_set (by decide +kernel) (pa_cons (pv 3) pa_nil)) pa_nil))) (blkOk_by (own := [("edge", 6)]) (N := ["self", "letters", "starts", "edges", "ends", "useful", "edge", "state"]) (sc := defScope s_Rewriter___init__) (by decide +kernel)) (fun _ _ _ _ _ => (pg_name (i := 6) nd rfl (.inl rfl))) (fun _ _ _ _ _ => pts_one (PW.pt (pw_and (pt_cmpR (op_in_seq : OpR _ _ (rIn K false)) (pe_ix (ix_seq : IxR _ (rIx K)) (pv 6) pe_int (fun _ _ => rfl)) (pv 5) (by rfl)) (pw_and1 (pt_cmpR (op_in_seq : OpR _ _ (rIn K false)) (pe_ix (ix_seq : IxR _ (rIx K)) (pv 6) pe_int (fun _ _ => rfl)) (pv 5) (by rfl)))))) (fun _ _ _ _ _ => (pv 6))) pa_nil)) rfl)
      (pss_one (ps_fld (pv 0) (pe_dc (own := [("state", 7)]) rfl nd (pi_list (pv 5)) (blkOk_by (own := [("state", 7)]) (N := ["self", "letters", "starts", "edges", "ends", "useful", "edge", "state"]) (sc := defScope s_Rewriter___init__) (by decide +kernel)) (fun _ _ _ _ _ => (pg_name (i := 7) nd rfl (.inl rfl))) (fun _ _ _ _ _ => pts_one (pt_cmp (pc_din hu1 (pv 7) (pv 4)) rfl)) (fun _ _ _ _ _ => (pv 7)) (fun _ _ _ _ _ => (pe_dget hu1 (pv 4) (pv 7) (fun _ _ => rfl)))) rfl)))))))))), ?_⟩
    refine ⟨_, rfl, sgTxt R.sg, rfl, sg_let ok.sg, sg_letB ok.sg, fun H1 S1 => ⟨true, rfl, iteF ?_⟩⟩
    refine ⟨_, rfl, a, R.st, rfl, ok.st, S1 _ _ ha, fun H2 S2 => ⟨true, rfl, ?_⟩⟩
    have S12 := S1.trans S2
    refine ⟨_, rfl, b, R.en, rfl, ok.en, S12 _ _ hb, fun H3 S3 => ⟨true, rfl, iteF ?_⟩⟩
    have S13 := S12.trans S3
    refine ⟨_, rfl, _, rfl, R.sg, t, ks, rfl, sqT_same S13 ht, fun p hp => ⟨kok p hp, S13 _ _ (hk p hp)⟩, kfew, fun H4 S4 => ⟨true, rfl, iteF ?_⟩⟩
    have S14 := S13.trans S4
    have ha4 := S14 _ _ ha
    have hb4 := S14 _ _ hb
    have hx4 := S14 _ _ hx
    have ht4 := sqT_same S14 ht
    have hk4 : ∀ p ∈ ks, H4 p.1 = some (.tup (p.2.row.map kV)) := fun p hp => S14 _ _ (hk p hp)
    have KA : ∀ b o, b ≠ x → H b = some o → H4 b = some o := fun b o _ h => S14 _ _ h
    clear hx ha hb ht hk S14 S13 S12 S1 S2 S3 S4
    refine ⟨_, rfl, _, rfl, t, rfl, ⟨_, ht4⟩, fun D nD => ?_⟩
    refine lc_it walk_tup (fun i H' => Same H4 H' ∧ ∃ rs : List (Addr × List Int), rs.map (·.2) = mvs ((ks.take i).map (·.2)) ∧ H' D = some (.lst (rs.map fun p => V.ref p.1)) ∧ ∀ p ∈ rs, H' p.1 = some (.tup (p.2.map V.int)) ∧ ∃ m x : Nat, m < 12 ∧ x < 12 ∧ p.2 = [(m : Int), (x : Int)])
      ⟨same_upd nD, [], by simp [mvs], upd_same, fun p hp => by cases hp⟩ (fun i H' _ h => sqT_same h.1 ht4) ?_ ?_
    · rintro i y H5' H5 hi ⟨S, rs, er, hD, hr⟩ ⟨rfl, hy⟩
      rw [List.getElem?_map] at hy
      obtain ⟨p, hp, rfl⟩ := Option.map_eq_some_iff.mp hy
      have pm := List.mem_of_getElem? hp
      have pt := S _ _ (hk4 p pm)
      have po := kok p pm
      refine ⟨rfl, _, rfl, .inr (.inl ⟨p.1, _, 0, _, rfl, rfl, .of pt, atI_nat (j := 0) rfl, ?_⟩)⟩
      refine ⟨_, rfl, .inr (.inl ⟨p.1, _, 3, _, rfl, rfl, .of pt, atI_nat (j := 3) rfl, ?_⟩)⟩
      refine ⟨by show 2 ≤ _; omega, fun q nq => ?_⟩
      have SQ := same_upd (o := .tup [.int (p.2.a : Nat), .int (p.2.b : Nat)]) nq
      have rl : rs.length ≤ 63 := by
        have := congrArg List.length er
        unfold mvs at this
        rw [List.length_map, List.length_map, List.length_map, List.length_take] at this
        omega
      refine ⟨_, SQ _ _ hD, by rw [List.length_map]; omega, upd_far nD (S.trans SQ), rs ++ [(q, [(p.2.a : Int), (p.2.b : Int)])], ?_, by rw [upd_same, List.map_append]; rfl, fun r hr2 => ?_⟩
      · rw [List.map_append, er, List.take_add_one, hp]
        unfold mvs
        rw [List.map_append, List.map_append]
        rfl
      · have nrD : ∀ r : Addr, ∀ xs, upd H5 q (.tup [.int (p.2.a : Nat), .int (p.2.b : Nat)]) r = some (.tup xs) → r ≠ D := fun r xs h z => by rw [z, SQ _ _ hD] at h; cases h
        rcases List.mem_append.mp hr2 with h | h
        · obtain ⟨h1, h2⟩ := hr r h
          have h1 := SQ _ _ h1
          exact ⟨by rw [upd_ne (nrD _ _ h1)]; exact h1, h2⟩
        · rw [List.mem_singleton.mp h]
          exact ⟨by rw [upd_ne (nrD q _ upd_same)]; exact upd_same, p.2.a, p.2.b, po.a, po.b, rfl⟩
    · rintro H5 ⟨S, rs, er, hD, hr⟩
      rw [List.length_map, List.take_length, eks] at er
      refine ⟨_, rfl, a, D, b, R.st, R.en, rs, rfl, ok.st, ok.en, S _ _ ha4, S _ _ hb4, .of hD, fun p hp => ⟨.of (hr p hp).1, (hr p hp).2⟩, ?_, fun u H6 us S6 nu hu rise lt mem => ?_⟩
      · have := congrArg List.length er
        unfold mvs at this
        rw [List.length_map, List.length_map] at this
        have := ok.few
        omega
      have use : ∀ m, m ∈ us ↔ R.Useful m := fun m => by
        rw [mem, er]
        have : (mvs R.ed).map revP = mvsB R.ed := by
          unfold mvs mvsB
          rw [List.map_map]
          rfl
        rw [this]
        rfl
      have ndu : us.Nodup := rise.imp fun h => Nat.ne_of_lt h
      have ufew : us.length ≤ 12 := by
        have := nat_nodup_len us (List.range 12) ndu fun m hm => List.mem_range.mpr (lt m hm)
        simpa using this
      have S46 := S.trans S6
      have ha6 := S46 _ _ ha4
      have hb6 := S46 _ _ hb4
      have hx6 := S46 _ _ hx4
      have ht6 := sqT_same S46 ht4
      have hk6 : ∀ p ∈ ks, H6 p.1 = some (.tup (p.2.row.map kV)) := fun p hp => S46 _ _ (hk4 p hp)
      have K6 : ∀ b o, b ≠ x → H b = some o → H6 b = some o := fun b o n h => S46 _ _ (KA b o n h)
      have ux : u ≠ x := fun z => by rw [z, hx6] at hu; cases hu
      clear ha4 hb4 hx4 ht4 hk4 KA S46 S S6 hr hD er mem nu
      refine ⟨_, rfl, _, rfl, x, _, dx, [], rfl, hx6, T.cl, T.n__letters, by show 0 < 1000; omega, ?_⟩
      have l1 : (putF "_letters" (.str (sgTxt R.sg)) ([] : List (Str × V))).length ≤ 1 := putF_len _ _ _
      have ne0 : ∀ {H7 : Hp} {y : Addr} {o o2 : HO}, H7 x = some (.ins (CR K) dx []) → True := fun _ => trivial
      have xa : a ≠ x := fun z => by rw [z, hx6] at ha6; cases ha6
      have xb : b ≠ x := fun z => by rw [z, hx6] at hb6; cases hb6
      have xk : ∀ p ∈ ks, p.1 ≠ x := fun p hp z => by have := hk6 p hp; rw [z, hx6] at this; cases this
      have K7 : ∀ b o, b ≠ x → H b = some o → upd H6 x (.ins (CR K) dx (putF "_letters" (.str (sgTxt R.sg)) [])) b = some o := fun b o n h => by rw [upd_ne n]; exact K6 b o n h
      have hx7 : upd H6 x (.ins (CR K) dx (putF "_letters" (.str (sgTxt R.sg)) [])) x = some (.ins (CR K) dx (putF "_letters" (.str (sgTxt R.sg)) [])) := upd_same
      have ha7 : upd H6 x (.ins (CR K) dx (putF "_letters" (.str (sgTxt R.sg)) [])) a = some (.dK (entW R.st)) := by rw [upd_ne xa]; exact ha6
      have hb7 : upd H6 x (.ins (CR K) dx (putF "_letters" (.str (sgTxt R.sg)) [])) b = some (.dK (entW R.en)) := by rw [upd_ne xb]; exact hb6
      have hu7 : upd H6 x (.ins (CR K) dx (putF "_letters" (.str (sgTxt R.sg)) [])) u = some (.lst (us.map fun m => V.int (m : Nat))) := by rw [upd_ne ux]; exact hu
      have hk7 : ∀ p ∈ ks, upd H6 x (.ins (CR K) dx (putF "_letters" (.str (sgTxt R.sg)) [])) p.1 = some (.tup (p.2.row.map kV)) := fun p hp => by rw [upd_ne (xk p hp)]; exact hk6 p hp
      have tx : ∀ {H8 : Hp} {fs : List (Str × V)} {xs : List V}, SqT K H8 t xs → H8 x = some (.ins (CR K) dx fs) → ∀ o, SqT K (upd H8 x o) t xs := fun h hx o => by
        rcases h with (h | ⟨u, h⟩) | h
        · exact .inl (.inl (by rw [upd_ne fun z => by rw [z, hx] at h; cases h]; exact h))
        · exact .inl (.inr ⟨u, by rw [upd_ne fun z => by rw [z, hx] at h; cases h]; exact h⟩)
        · exact .inr h
      have ht7 := tx ht6 hx6 (.ins (CR K) dx (putF "_letters" (.str (sgTxt R.sg)) []))
      generalize upd H6 x (.ins (CR K) dx (putF "_letters" (.str (sgTxt R.sg)) [])) = H7 at K7 hx7 ha7 hb7 hu7 hk7 ht7 ⊢
      generalize ef1 : putF "_letters" (.str (sgTxt R.sg)) ([] : List (Str × V)) = f1 at hx7 l1 ⊢
      clear ha6 hb6 hx6 ht6 hk6 K6 hu ne0
      refine ⟨_, rfl, u, _, rfl, .inl ⟨.of hu7, fun ts nts => ?_⟩⟩
      have S8 := same_upd (o := .tup (us.map fun m => V.int (m : Nat))) nts
      have hts8 : upd H7 ts (.tup (us.map fun m => V.int (m : Nat))) ts = some (.tup (us.map fun m => V.int (m : Nat))) := upd_same
      refine ⟨_, rfl, x, _, dx, f1, rfl, S8 _ _ hx7, T.cl, T.n__states, by omega, ?_⟩
      have l2 := putF_len "_states" (.ref ts) f1
      have txs : ts ≠ x := fun z => by rw [z, hx7] at nts; cases nts
      have K9 : ∀ b o, b ≠ x → H b = some o → upd (upd H7 ts (.tup (us.map fun m => V.int (m : Nat)))) x (.ins (CR K) dx (putF "_states" (.ref ts) f1)) b = some o := fun b o n h => by rw [upd_ne n]; exact S8 _ _ (K7 b o n h)
      have hx9 : upd (upd H7 ts (.tup (us.map fun m => V.int (m : Nat)))) x (.ins (CR K) dx (putF "_states" (.ref ts) f1)) x = some (.ins (CR K) dx (putF "_states" (.ref ts) f1)) := upd_same
      have ha9 : upd (upd H7 ts (.tup (us.map fun m => V.int (m : Nat)))) x (.ins (CR K) dx (putF "_states" (.ref ts) f1)) a = some (.dK (entW R.st)) := by rw [upd_ne xa]; exact S8 _ _ ha7
      have hb9 : upd (upd H7 ts (.tup (us.map fun m => V.int (m : Nat)))) x (.ins (CR K) dx (putF "_states" (.ref ts) f1)) b = some (.dK (entW R.en)) := by rw [upd_ne xb]; exact S8 _ _ hb7
      have hu9 : upd (upd H7 ts (.tup (us.map fun m => V.int (m : Nat)))) x (.ins (CR K) dx (putF "_states" (.ref ts) f1)) u = some (.lst (us.map fun m => V.int (m : Nat))) := by rw [upd_ne ux]; exact S8 _ _ hu7
      have hs9 : upd (upd H7 ts (.tup (us.map fun m => V.int (m : Nat)))) x (.ins (CR K) dx (putF "_states" (.ref ts) f1)) ts = some (.tup (us.map fun m => V.int (m : Nat))) := by rw [upd_ne txs]; exact hts8
      have hk9 : ∀ p ∈ ks, upd (upd H7 ts (.tup (us.map fun m => V.int (m : Nat)))) x (.ins (CR K) dx (putF "_states" (.ref ts) f1)) p.1 = some (.tup (p.2.row.map kV)) := fun p hp => by rw [upd_ne (xk p hp)]; exact S8 _ _ (hk7 p hp)
      have ht9 := tx (sqT_same S8 ht7) (S8 _ _ hx7) (.ins (CR K) dx (putF "_states" (.ref ts) f1))
      generalize upd (upd H7 ts (.tup (us.map fun m => V.int (m : Nat)))) x (.ins (CR K) dx (putF "_states" (.ref ts) f1)) = H9 at K9 hx9 ha9 hb9 hu9 hs9 hk9 ht9 ⊢
      generalize ef2 : putF "_states" (.ref ts) f1 = f2 at hx9 l2 ⊢
      clear K7 hx7 ha7 hb7 hu7 hk7 ht7 S8 hts8 nts
      refine ⟨_, rfl, u, rfl, ⟨_, .of hu9⟩, fun sd nsd => ?_⟩
      refine dc_it walk_list (fun i H' => Same H9 H' ∧ H' sd = some (.dK (entW (atS R.st (us.take i))))) ⟨same_upd nsd, upd_same⟩ (fun i H' _ h => .of (h.1 _ _ hu9)) ?_ ?_
      · rintro i y HD' HD hi ⟨S, hsd⟩ ⟨rfl, hy⟩
        rw [List.getElem?_map] at hy
        obtain ⟨m, hm, rfl⟩ := Option.map_eq_some_iff.mp hy
        have dg := DGet.k (k := (.inl (m : Int) : Key)) (S _ _ ha9)
        refine ⟨rfl, _, rfl, _, rfl, a, _, rfl, dg, _, rfl, ?_⟩
        by_cases hm2 : m ∈ R.st.map (·.1)
        · obtain ⟨p, hp, e⟩ := List.mem_map.mp hm2
          have hp : (m, p.2) ∈ R.st := by rw [← e]; exact hp
          rw [entW_get ok.st hp] at dg ⊢
          have len := atS_len ok.st (us.take i)
          rw [List.length_take] at len
          refine iteT ⟨_, rfl, _, rfl, _, rfl, a, _, rfl, dg, _, .inl (m : Int), rfl, hsd, by unfold entW; rw [List.length_map]; omega, upd_far nsd S, ?_⟩
          rw [atS_put ok.st ndu hm hp]
          exact upd_same
        · rw [entW_out hm2]
          refine iteF ⟨S, ?_⟩
          rw [atS_next R.st hm, filter_none hm2, List.append_nil]
          exact hsd
      · rintro HD ⟨S, hsd⟩
        rw [List.length_map, List.take_length] at hsd
        have sdx : sd ≠ x := fun z => by rw [z, hx9] at nsd; cases nsd
        refine ⟨_, rfl, x, _, dx, f2, rfl, S _ _ hx9, T.cl, T.n__starts, by omega, ?_⟩
        have l3 := putF_len "_starts" (.ref sd) f2
        have KA : ∀ b o, b ≠ x → H b = some o → upd HD x (.ins (CR K) dx (putF "_starts" (.ref sd) f2)) b = some o := fun b o n h => by rw [upd_ne n]; exact S _ _ (K9 b o n h)
        have hxA : upd HD x (.ins (CR K) dx (putF "_starts" (.ref sd) f2)) x = some (.ins (CR K) dx (putF "_starts" (.ref sd) f2)) := upd_same
        have haA : upd HD x (.ins (CR K) dx (putF "_starts" (.ref sd) f2)) sd = some (.dK (entW (atS R.st us))) := by rw [upd_ne sdx]; exact hsd
        have hbA : upd HD x (.ins (CR K) dx (putF "_starts" (.ref sd) f2)) b = some (.dK (entW R.en)) := by rw [upd_ne xb]; exact S _ _ hb9
        have huA : upd HD x (.ins (CR K) dx (putF "_starts" (.ref sd) f2)) u = some (.lst (us.map fun m => V.int (m : Nat))) := by rw [upd_ne ux]; exact S _ _ hu9
        have hsA : upd HD x (.ins (CR K) dx (putF "_starts" (.ref sd) f2)) ts = some (.tup (us.map fun m => V.int (m : Nat))) := by rw [upd_ne txs]; exact S _ _ hs9
        have hkA : ∀ p ∈ ks, upd HD x (.ins (CR K) dx (putF "_starts" (.ref sd) f2)) p.1 = some (.tup (p.2.row.map kV)) := fun p hp => by rw [upd_ne (xk p hp)]; exact S _ _ (hk9 p hp)
        have htA := tx (sqT_same S ht9) (S _ _ hx9) (.ins (CR K) dx (putF "_starts" (.ref sd) f2))
        generalize upd HD x (.ins (CR K) dx (putF "_starts" (.ref sd) f2)) = HA at KA hxA haA hbA huA hsA hkA htA ⊢
        generalize ef3 : putF "_starts" (.ref sd) f2 = f3 at hxA l3 ⊢
        clear K9 hx9 ha9 hb9 hu9 hs9 hk9 ht9 S hsd nsd
        refine ⟨_, rfl, t, ks.map fun p => (p.1, p.2.row), rfl, by rw [List.map_map]; exact htA, fun p hp => ?_, by rw [List.length_map]; exact kfew, fun qs L nqs sub all ndL => ?_⟩
        · obtain ⟨q, hq, rfl⟩ := List.mem_map.mp hp
          exact hkA q hq
        obtain ⟨L0, rfl, sub0⟩ := sub_map (fun p : Addr × Edg => (p.1, p.2.row)) L ks sub
        have SB := same_upd (o := SetKO P w qs (L0.map fun p => (p.1, p.2.row))) nqs
        have lL : L0.length ≤ 63 := by
          have := ndL.length_le_of_subset (l₂ := (ks.map fun p => (p.1, p.2.row)).map (·.2)) fun x hx => by
            obtain ⟨p, hp, rfl⟩ := List.mem_map.mp hx
            exact List.mem_map.mpr ⟨p, sub p hp, rfl⟩
          rw [List.length_map, List.length_map, List.length_map, List.length_map] at this
          omega
        refine ⟨qs, L0.map fun p => (p.1, p.2.row), rfl, upd_same, fun p hp => ?_, ?_, by rw [List.length_map]; exact lL, fun L' q pmL nq => ?_⟩
        · obtain ⟨q, hq, rfl⟩ := List.mem_map.mp hp
          exact ⟨SB _ _ (hkA q (sub0 q hq)), fun z => by cases z⟩
        · refine KForm.alike ?_
          have := row_form (L0.map (·.2))
          rw [List.map_map] at this
          rw [List.map_map]
          exact this
        have SC := same_upd (o := .lst ((byKey L').map fun q => V.ref q.1)) nq
        obtain ⟨L1, pm1, e1⟩ := perm_map (fun p : Addr × Edg => (p.1, p.2.row)) ((byKey_perm L').trans pmL) L0 rfl
        have er : ((byKey L').map fun q => V.ref q.1) = L1.map fun q => V.ref q.1 := by
          rw [e1, List.map_map]
          rfl
        rw [er] at SC ⊢
        have hqC : upd (upd HA qs (SetKO P w qs (L0.map fun p => (p.1, p.2.row)))) q (.lst (L1.map fun q => V.ref q.1)) q = some (.lst (L1.map fun q => V.ref q.1)) := upd_same
        have S3 := SB.trans SC
        have sub1 : ∀ p ∈ L1, p ∈ ks := fun p hp => sub0 p (pm1.mem_iff.mp hp)
        have rows1 : (L1.map fun q => q.2.row).Perm (L0.map fun q => q.2.row) := pm1.map _
        have kept := kept_of rise use eks sub1 (fun p hp => by
          have := all (p.1, p.2.row) (List.mem_map.mpr ⟨p, hp, rfl⟩)
          rw [List.map_map] at this
          exact rows1.mem_iff.mpr this) (by
          rw [List.map_map] at ndL
          exact rows1.nodup_iff.mpr ndL) (by
          have := byKey_sorted L'
          rw [e1, List.map_map] at this
          exact this)
        have lL1 : L1.length ≤ 63 := by rw [pm1.length_eq]; exact lL
        generalize eHC : upd (upd HA qs (SetKO (cxOf CX0 P w K mg base ["self", "letters", "starts", "edges", "ends", "useful", "edge", "state"] "Rewriter.__init__" (defScope s_Rewriter___init__) f cdv A outer s H E).nox.prog (cxOf CX0 P w K mg base ["self", "letters", "starts", "edges", "ends", "useful", "edge", "state"] "Rewriter.__init__" (defScope s_Rewriter___init__) f cdv A outer s H E).nox.w qs (L0.map fun p => (p.1, p.2.row)))) q (.lst (L1.map fun q => V.ref q.1)) = HC at ⊢
        have S3 : Same HA HC := by rw [← eHC]; exact S3
        have hqC : HC q = some (.lst (L1.map fun q => V.ref q.1)) := by rw [← eHC]; exact hqC
        clear eHC
        clear er SB SC e1 rows1 pm1 pmL nq nqs sub all ndL lL sub0
        have hkC : ∀ p ∈ L1, HC p.1 = some (.tup (p.2.row.map kV)) := fun p hp => S3 _ _ (hkA p (sub1 p hp))
        refine ⟨q, rfl, ⟨_, .of hqC⟩, fun D2 nD2 => ?_⟩
        refine lc_it walk_list (fun i H' => Same HC H' ∧ H' D2 = some (.lst (((L1.take i).filter fun q => decide (q.2.a ∈ us) && decide (q.2.b ∈ us)).map fun q => V.ref q.1))) ⟨same_upd nD2, upd_same⟩ (fun i H' _ h => .of (h.1 _ _ hqC)) ?_ ?_
        · rintro i y HD' HD hi ⟨S, hD2⟩ ⟨rfl, hy⟩
          rw [List.getElem?_map] at hy
          obtain ⟨p, hp, rfl⟩ := Option.map_eq_some_iff.mp hy
          have pt := S _ _ (hkC p (List.mem_of_getElem? hp))
          have hu := S _ _ (S3 _ _ huA)
          have tk : L1.take (i + 1) = L1.take i ++ [p] := by rw [List.take_add_one, hp]; rfl
          refine ⟨rfl, _, rfl, .inr (.inl ⟨p.1, _, 0, _, rfl, rfl, .of pt, atI_nat (j := 0) rfl, ?_⟩)⟩
          refine ⟨_, rfl, u, _, rfl, .inl (.of hu), rfl, by simp [flatV], ?_⟩
          refine ⟨inV (.int (p.2.a : Nat)) (us.map fun m => V.int (m : Nat)), rfl, ?_⟩
          rw [inV_nats]
          by_cases h1 : p.2.a ∈ us
          · rw [decide_eq_true h1]
            refine iteT ⟨_, rfl, .inr (.inl ⟨p.1, _, 3, _, rfl, rfl, .of pt, atI_nat (j := 3) rfl, ?_⟩)⟩
            refine ⟨_, rfl, u, _, rfl, .inl (.of hu), rfl, by simp [flatV], ?_⟩
            refine ⟨inV (.int (p.2.b : Nat)) (us.map fun m => V.int (m : Nat)), rfl, ?_⟩
            rw [inV_nats]
            by_cases h2 : p.2.b ∈ us
            · rw [decide_eq_true h2]
              refine iteT ⟨_, rfl, ?_⟩
              have hl : ((L1.take i).filter fun q => decide (q.2.a ∈ us) && decide (q.2.b ∈ us)).length ≤ 63 := by
                have h3 := List.length_filter_le (fun q : Addr × Edg => decide (q.2.a ∈ us) && decide (q.2.b ∈ us)) (L1.take i)
                rw [List.length_take] at h3
                omega
              refine ⟨_, hD2, by rw [List.length_map]; omega, upd_far nD2 S, ?_⟩
              rw [upd_same, tk, List.filter_append, List.map_append, show [p].filter (fun q : Addr × Edg => decide (q.2.a ∈ us) && decide (q.2.b ∈ us)) = [p] by simp [h1, h2]]
              rfl
            · rw [decide_eq_false h2]
              refine iteF ⟨S, ?_⟩
              rw [tk, List.filter_append, show [p].filter (fun q : Addr × Edg => decide (q.2.a ∈ us) && decide (q.2.b ∈ us)) = [] by simp [h1, h2], List.append_nil]
              exact hD2
          · rw [decide_eq_false h1]
            refine iteF (iteF ⟨S, ?_⟩)
            rw [tk, List.filter_append, show [p].filter (fun q : Addr × Edg => decide (q.2.a ∈ us) && decide (q.2.b ∈ us)) = [] by simp [h1], List.append_nil]
            exact hD2
        · rintro HD ⟨S, hD2⟩
          rw [List.length_map, List.take_length] at hD2
          generalize eL2 : (L1.filter fun q => decide (q.2.a ∈ us) && decide (q.2.b ∈ us)) = L2 at hD2 kept
          have sub2 : ∀ p ∈ L2, p ∈ L1 := fun p hp => (List.mem_filter.mp (by rw [eL2]; exact hp)).1
          refine ⟨D2, _, rfl, .inl ⟨.of hD2, fun te nte => ?_⟩⟩
          have SE := (S3.trans S).trans (same_upd (o := .tup (L2.map fun q => V.ref q.1)) nte)
          have txe : te ≠ x := fun z => by rw [z, S _ _ (S3 _ _ hxA)] at nte; cases nte
          refine ⟨_, rfl, x, _, dx, f3, rfl, SE _ _ hxA, T.cl, T.n__edges, by omega, ?_⟩
          have l4 := putF_len "_edges" (.ref te) f3
          have hte : upd HD te (.tup (L2.map fun q => V.ref q.1)) te = some (.tup (L2.map fun q => V.ref q.1)) := upd_same
          generalize upd HD te (.tup (L2.map fun q => V.ref q.1)) = HE at SE hte ⊢
          have KF : ∀ b o, b ≠ x → H b = some o → upd HE x (.ins (CR K) dx (putF "_edges" (.ref te) f3)) b = some o := fun b o n h => by rw [upd_ne n]; exact SE _ _ (KA b o n h)
          have sdx : sd ≠ x := sdx
          have hxF : upd HE x (.ins (CR K) dx (putF "_edges" (.ref te) f3)) x = some (.ins (CR K) dx (putF "_edges" (.ref te) f3)) := upd_same
          have haF : upd HE x (.ins (CR K) dx (putF "_edges" (.ref te) f3)) sd = some (.dK (entW (atS R.st us))) := by rw [upd_ne sdx]; exact SE _ _ haA
          have hbF : upd HE x (.ins (CR K) dx (putF "_edges" (.ref te) f3)) b = some (.dK (entW R.en)) := by rw [upd_ne xb]; exact SE _ _ hbA
          have huF : upd HE x (.ins (CR K) dx (putF "_edges" (.ref te) f3)) u = some (.lst (us.map fun m => V.int (m : Nat))) := by rw [upd_ne ux]; exact SE _ _ huA
          have hsF : upd HE x (.ins (CR K) dx (putF "_edges" (.ref te) f3)) ts = some (.tup (us.map fun m => V.int (m : Nat))) := by rw [upd_ne txs]; exact SE _ _ hsA
          have htF : upd HE x (.ins (CR K) dx (putF "_edges" (.ref te) f3)) te = some (.tup (L2.map fun q => V.ref q.1)) := by rw [upd_ne txe]; exact hte
          have hkF : ∀ p ∈ L2, upd HE x (.ins (CR K) dx (putF "_edges" (.ref te) f3)) p.1 = some (.tup (p.2.row.map kV)) := fun p hp => by rw [upd_ne (xk p (sub1 p (sub2 p hp)))]; exact SE _ _ (hkA p (sub1 p (sub2 p hp)))
          generalize upd HE x (.ins (CR K) dx (putF "_edges" (.ref te) f3)) = HF at KF hxF haF hbF huF hsF htF hkF ⊢
          generalize ef4 : putF "_edges" (.ref te) f3 = f4 at hxF l4 ⊢
          clear SE hte nte S3 S hD2 KA hxA haA hbA huA hsA hkA htA hqC hkC nD2
          refine ⟨_, rfl, u, rfl, ⟨_, .of huF⟩, fun ed ned => ?_⟩
          refine dc_it walk_list (fun i H' => Same HF H' ∧ H' ed = some (.dK (entW (atS R.en (us.take i))))) ⟨same_upd ned, upd_same⟩ (fun i H' _ h => .of (h.1 _ _ huF)) ?_ ?_
          · rintro i y HG' HG hi ⟨S, hsd⟩ ⟨rfl, hy⟩
            rw [List.getElem?_map] at hy
            obtain ⟨m, hm, rfl⟩ := Option.map_eq_some_iff.mp hy
            have dg := DGet.k (k := (.inl (m : Int) : Key)) (S _ _ hbF)
            refine ⟨rfl, _, rfl, _, rfl, b, _, rfl, dg, _, rfl, ?_⟩
            by_cases hm2 : m ∈ R.en.map (·.1)
            · obtain ⟨p, hp, e⟩ := List.mem_map.mp hm2
              have hp : (m, p.2) ∈ R.en := by rw [← e]; exact hp
              rw [entW_get ok.en hp] at dg ⊢
              have len := atS_len ok.en (us.take i)
              rw [List.length_take] at len
              refine iteT ⟨_, rfl, _, rfl, _, rfl, b, _, rfl, dg, _, .inl (m : Int), rfl, hsd, by unfold entW; rw [List.length_map]; omega, upd_far ned S, ?_⟩
              rw [atS_put ok.en ndu hm hp]
              exact upd_same
            · rw [entW_out hm2]
              refine iteF ⟨S, ?_⟩
              rw [atS_next R.en hm, filter_none hm2, List.append_nil]
              exact hsd
          · rintro HG ⟨S, hsd⟩
            rw [List.length_map, List.take_length] at hsd
            have edx : ed ≠ x := fun z => by rw [z, hxF] at ned; cases ned
            refine ⟨_, rfl, x, _, dx, f4, rfl, S _ _ hxF, T.cl, T.n__ends, by omega, ?_⟩
            have e5 : putF "_ends" (.ref ed) f4 = fsR (sgTxt R.sg) ts sd te ed := by rw [← ef4, ← ef3, ← ef2, ← ef1, fsR_eq]
            rw [e5]
            refine k _ us (L2.map (·.2)) (fun b o n h => by rw [upd_ne n]; exact S _ _ (KF b o n h)) kept ⟨dx, ts, sd, te, ed, upd_same, by rw [upd_ne txs]; exact S _ _ hsF, by rw [upd_ne sdx]; exact S _ _ haF, ⟨L2, by rw [upd_ne txe]; exact S _ _ htF, rfl, fun p hp => ?_⟩, by rw [upd_ne edx]; exact hsd⟩
            rw [upd_ne (xk p (sub1 p (sub2 p hp)))]
            exact S _ _ (hkF p hp)
end
end K0
set_option maxRecDepth 100000
set_option maxHeartbeats 1000000
namespace FM
open PySem L2
theorem dpAll_keys {K : PySem.W.Frag} {H : Hp} : ∀ ks : List Key, DpAll K H (ks.map kV) (ks.map keyD)
  | [] => .nil
  | .inl i :: ks => .cons (.int i) (dpAll_keys ks)
  | .inr z :: ks => .cons (.str z) (dpAll_keys ks)
theorem dpAll_rows {K : PySem.W.Frag} {H : Hp} : ∀ {ks : List (Addr × Edg)}, (∀ p ∈ ks, H p.1 = some (.tup (p.2.row.map kV))) → DpAll K H (ks.map fun p => V.ref p.1) (ks.map fun p => keysD p.2.row)
  | [], _ => .nil
  | p :: ks, h => .cons (.tup (.of (h p List.mem_cons_self)) (dpAll_keys _)) (dpAll_rows fun q hq => h q (List.mem_cons_of_mem _ hq))
theorem strOk_let {z : Str} (h : Let z) : PyData.strOk z = true := by
  unfold PyData.strOk
  rw [Array.all_eq_true_iff_forall_mem]
  intro c hc
  have := h c (by simpa using hc)
  exact decide_eq_true (by omega)
theorem canLay_row {sg : List Nat} (g : SgOk sg) {e : Edg} (ok : EdgOk sg e) : PyData.canLay0 (keysD e.row) = true := by
  have h1 : PyData.strOk (⟨#[e.c]⟩ : Str) = true := strOk_let fun c hc => by
    have : c = e.c := by simpa using hc
    rw [this]
    exact g.let_ _ ok.c
  have h2 := strOk_let ok.u
  simp [keysD, keyD, Edg.row, PyData.canLay0, PyData.canLayAll0, h1, h2]
theorem shaped_rows {sg : List Nat} (g : SgOk sg) (es : List Edg) (h : ∀ e ∈ es, EdgOk sg e) : SeqAt.shaped (.tuple (es.map fun e => keysD e.row)) = true := by
  unfold SeqAt.shaped
  rw [Bool.and_eq_true]
  have a : PyData.canLayAll0 (es.map fun e => keysD e.row) = true := by
    induction es with
    | nil => rfl
    | cons e es ih =>
      rw [List.map_cons, PyData.canLayAll0, canLay_row g (h e List.mem_cons_self), ih fun x hx => h x (List.mem_cons_of_mem _ hx)]
      rfl
  refine ⟨a, decide_eq_true ?_⟩
  have b : ∀ es : List Edg, PyData.depthAll (es.map fun e => keysD e.row) ≤ 3 := fun es => by
    induction es with
    | nil => simp [PyData.depthAll]
    | cons e es ih =>
      rw [List.map_cons, PyData.depthAll]
      have := keysD_depth e.row
      omega
  have := b es
  simp only [PyData.depth]
  omega
end FM
namespace K0
open PySem L2 FM He
theorem atS_ok {st : List (Nat × Str)} (ok : TblOk st) {us : List Nat} (nd : us.Nodup) : TblOk (atS st us) := by
  have mem : ∀ p ∈ atS st us, p ∈ st := fun p hp => by
    unfold atS at hp
    obtain ⟨m, _, h⟩ := List.mem_flatMap.mp hp
    exact (List.mem_filter.mp h).1
  refine ⟨?_, fun p hp => ok.few p (mem p hp), fun p hp => ok.word p (mem p hp)⟩
  induction us with
  | nil => exact .nil
  | cons m us ih =>
    rw [List.nodup_cons] at nd
    have ih := ih nd.2 fun p hp => mem p (by unfold atS at hp ⊢; rw [List.flatMap_cons]; exact List.mem_append_right _ hp)
    have e : atS st (m :: us) = (st.filter fun p => p.1 == m) ++ atS st us := by
      unfold atS
      rw [List.flatMap_cons]
    rw [e, List.map_append, List.nodup_append]
    refine ⟨?_, ih, fun a ha b hb z => ?_⟩
    · exact (List.filter_sublist.map _).nodup ok.nd
    · obtain ⟨p, hp, rfl⟩ := List.mem_map.mp ha
      have : p.1 = m := by simpa using (List.mem_filter.mp hp).2
      exact nd.1 (by rw [← this, z]; exact atS_keys hb)
section
variable {P : Program} {w : World} {K : PySem.W.Frag} {mg : Str → Option Value} {base : Heap}
theorem ok_p_edges {f : Addr} {fd : FuncData} (F : FnM K "edges" "Rewriter.edges" s_Rewriter_edges f fd) (T : TP K mg) : FnOk P w K mg base CX0 1 f fd ["self"] (fun vs H Q _ => ∃ x R us ed, vs = [.ref x] ∧ RwAt K H x R us ed ∧ ∀ t, EdAt H t ed → Q (.ref t) H) := by
  refine F.ok sc_Rewriter_edges (fun vs H Q E h => ?_) (fun cdv A outer s H vs Q E hr h => ?_)
  · obtain ⟨x, R, us, ed, rfl, _⟩ := h
    rfl
  · obtain ⟨x, R, us, ed, rfl, ⟨dx, ts, ds, te, de, hx, h1, h2, h3, h4⟩, k⟩ := h
    have nd := sc_Rewriter_edges.nd
    refine ⟨_, PSs.nox (pss_one (ps_ret (pe_fld (pv 0) rfl))), ?_⟩
    exact ⟨_, rfl, x, _, dx, _, _, rfl, hx, T.cl, T.n__edges, rfl, k te h3⟩
theorem ok_p_starts {f : Addr} {fd : FuncData} (F : FnM K "starts" "Rewriter.starts" s_Rewriter_starts f fd) (T : TP K mg) : FnOk P w K mg base CX0 1 f fd ["self"] (fun vs H Q _ => ∃ x R us ed, vs = [.ref x] ∧ RwAt K H x R us ed ∧ ∀ d, H d = none → Q (.ref d) (upd H d (.dK (entW (atS R.st us))))) := by
  refine F.ok sc_Rewriter_starts (fun vs H Q E h => ?_) (fun cdv A outer s H vs Q E hr h => ?_)
  · obtain ⟨x, R, us, ed, rfl, _⟩ := h
    rfl
  · obtain ⟨x, R, us, ed, rfl, ⟨dx, ts, ds, te, de, hx, h1, h2, h3, h4⟩, k⟩ := h
    have nd := sc_Rewriter_starts.nd
    refine ⟨_, PSs.nox (pss_one (ps_ret (pe_callTy call_dictD (by rfl) T.b_dict (by decide +kernel) (pa_cons (pe_fld (pv 0) rfl) pa_nil)))), ?_⟩
    exact ⟨_, rfl, x, _, dx, _, _, rfl, hx, T.cl, T.n__starts, rfl, ds, _, rfl, .inl h2, k⟩
theorem _root_.K0.RwAt.ty {H : Hp} {x : Addr} {R : RwP} {us : List Nat} {ed : List Edg} (h : RwAt K H x R us ed) (T : TP K mg) : TyOf K H (.ref x) (.ref (CR K)) := by
  obtain ⟨dx, tn, sd, tg, ti, hx, _⟩ := h
  exact .ins hx T.cl T.y_a T.y_b T.y_c T.y_m
end
end K0
set_option maxRecDepth 100000
set_option maxHeartbeats 2000000
namespace FM
open PySem PySem.Spec PyProof.Rows L2
open PySem.Sem (wp)
end FM
set_option maxRecDepth 100000
set_option maxHeartbeats 1000000
namespace K0
open PySem L2 FM He
end K0
set_option maxRecDepth 100000
set_option maxHeartbeats 2000000
namespace FM
open PySem PySem.Spec PyProof.Rows L2
/-- x in t, t a tuple of data -/
def rInTup (K : PySem.W.Frag) : R2 := fun x y H Q => ∃ (d : PyData) (es : List PyData), Dp K H x d ∧ Dp K H y (.tuple es) ∧ SeqAt.shaped d = true ∧ SeqAt.shaped (.tuple es) = true ∧ Q (.bl (es.any fun e => PyData.eqv e d)) H
variable {X : Cx}
theorem op_inTup (units : X.A.units + 65 < cLine) : OpR X (compareOp .In) (rInTup X.K) := by
  intro pins s σ H x y v u Q I rx ry h
  obtain ⟨d, es, dx, dy, sx, sy, q⟩ := h
  obtain ⟨l1, e1⟩ := Dp.reads I d x v dx rx
  obtain ⟨l2, e2⟩ := Dp.reads I (.tuple es) y u dy ry
  refine SeqAt.in_tuple_reads e2 e1 (SeqAt.canLay_of_shaped sy) (SeqAt.canLay_of_shaped sx) ?_ ⟨.bl _, H, I, rfl, q⟩
  exact room_in_shaped sx units
end FM
set_option maxRecDepth 100000
set_option maxHeartbeats 1000000
namespace K0
open PySem L2 FM He
section
variable {P : Program} {w : World} {K : PySem.W.Frag} {mg : Str → Option Value} {base : Heap}
theorem ok_is_edge_of {f : Addr} {fd : FuncData} (F : FnP K "is_edge_of" s_is_edge_of f fd) (T : TP K mg) : FnOk P w K mg base CX0 2 f fd ["edges", "value"] (fun vs H Q _ => ∃ (t a : Addr) (sg : List Nat) (ed : List Edg) (e : Edg), vs = [.ref t, .ref a] ∧ SgOk sg ∧ (∀ e ∈ ed, EdgOk sg e) ∧ EdAt H t ed ∧ H a = some (.tup (e.row.map kV)) ∧ e ∈ ed ∧ Q (.bl true) H) := by
  obtain ⟨d_is_tuple_of, F_is_tuple_of⟩ := T.f_is_tuple_of
  have G_is_tuple_of := ok_is_tuple_of (P := P) (w := w) (base := base) F_is_tuple_of T
  have b_is_tuple_of : Binds K d_is_tuple_of ["value", "many"] [] := F_is_tuple_of.bindsN fun _ _ _ _ _ _ us hl => match us, hl with | [_, _], _ => rfl
  obtain ⟨d_is_integer, F_is_integer⟩ := T.f_is_integer
  have G_is_integer := ok_is_integer (P := P) (w := w) (base := base) F_is_integer T
  have b_is_integer : Binds K d_is_integer ["value"] [] := F_is_integer.bindsN fun _ _ _ _ _ _ us hl => match us, hl with | [_], _ => rfl
  refine F.ok sc_is_edge_of (fun vs H Q E h => ?_) (fun cdv A outer s H vs Q E hr h => ?_)
  · obtain ⟨t, a, sg, ed, e, rfl, _⟩ := h
    rfl
  · obtain ⟨t, a, sg, ed, e, rfl, g, oks, ⟨ks, a1, a2, a3⟩, ha, he, k⟩ := h
    have nd := sc_is_edge_of.nd
    have hu64 := hr.units
    have hu65 : (A.deeper (PyProof.Rows.envOfC "is_edge_of" (defScope s_is_edge_of) s.heap.objs.size f cdv)).units + 65 < cLine := by
      have := hr.un
      omega
    have hu20 := Nat.lt_of_le_of_lt (Nat.add_le_add_left (by decide : 20 ≤ 64) _) hu64
    refine ⟨_, PSs.nox (pss_cons (ps_if (PW.pt (pw_or (pt_not (pt_val (pe_call G_is_tuple_of (hr.mono (by decide)) rfl T.g_is_tuple_of F_is_tuple_of.kp b_is_tuple_of .nil pass0 (pa_cons (pv 1) (pa_cons pe_int pa_nil))))) (pw_or (pt_not (pt_val (pe_call G_is_integer (hr.mono (by decide)) rfl T.g_is_integer F_is_integer.kp b_is_integer .nil pass0 (pa_cons (pe_ix ix_seq (pv 1) pe_int (fun _ _ => rfl)) pa_nil)))) (pw_or1 (pt_not (pt_val (pe_call G_is_integer (hr.mono (by decide)) rfl T.g_is_integer F_is_integer.kp b_is_integer .nil pass0 (pa_cons (pe_ix ix_seq (pv 1) pe_int (fun _ _ => rfl)) pa_nil)))))))) (pss_one (ps_ret pe_bl)) pss_nil)
      (pss_one (ps_ret (pe_cmpR (op_inTup hu65 : OpR _ _ (rInTup K)) (pv 1) (pv 0) (by rfl))))), ?_⟩
    refine ⟨_, rfl, a, _, rfl, .of ha, true, rfl, iteF ⟨_, rfl, .inr (.inl ⟨a, _, 0, _, rfl, rfl, .of ha, rfl, _, rfl, true, rfl, iteF ⟨_, rfl, .inr (.inl ⟨a, _, 3, _, rfl, rfl, .of ha, rfl, _, rfl, true, rfl, ?_⟩)⟩⟩)⟩⟩
    refine iteF ⟨_, rfl, _, rfl, keysD e.row, _, .tup (.of ha) (dpAll_keys _), .tup (.of a1) (dpAll_rows a3), ?_, ?_, ?_⟩
    · unfold SeqAt.shaped
      rw [Bool.and_eq_true]
      exact ⟨canLay_row g (oks e he), decide_eq_true (by have := keysD_depth e.row; omega)⟩
    · have e1 : (ks.map fun p => keysD p.2.row) = ed.map fun e => keysD e.row := by rw [← a2, List.map_map]; rfl
      rw [e1]
      exact shaped_rows g ed oks
    · have : ((ks.map fun p => keysD p.2.row).any fun z => z.eqv (keysD e.row)) = true := by
        rw [← a2] at he
        obtain ⟨p, hp, rfl⟩ := List.mem_map.mp he
        exact List.any_eq_true.mpr ⟨_, List.mem_map.mpr ⟨p, hp, rfl⟩, SeqAt.eqv_refl _ (canLay_row g (oks _ (a2 ▸ List.mem_map.mpr ⟨p, hp, rfl⟩)))⟩
      rw [this]
      exact k
end
end K0
set_option maxRecDepth 100000
set_option maxHeartbeats 2000000
namespace FM
open PySem PySem.Spec PyProof.Rows L2 PpSet
section
variable {X : Cx} {pins : List (Addr × Obj)} {σ : L2.St} {H : Hp} {s : Shared}
theorem cr_sortK2 {K : PySem.W.Frag} {P : Program} {w : World} (eK : X.K = K) (eP : X.prog = P) (ew : X.w = w) (hc : X.calm = true) (hu : X.A.units + 64 < cLine) : CallR X (.builtin "sorted") (rSortK K P w) := by
  subst eK eP ew
  exact cr_sortK hc hu
theorem cr_setOfK2 {K : PySem.W.Frag} {P : Program} {w : World} (eK : X.K = K) (eP : X.prog = P) (ew : X.w = w) (hc : X.calm = true) (hu : X.A.units + 64 < cLine) : CallR X (.type "set") (rSetOfK K P w) := by
  subst eK eP ew
  exact cr_setOfK hc hu
end
end FM
set_option maxRecDepth 100000
set_option maxHeartbeats 1000000
namespace K0
open PySem L2 FM He
/-- the edges of ks that leave m -/
def outOf (ks : List (Addr × Edg)) (m : Nat) : List (Addr × Edg) := ks.filter fun p => p.2.a == m
def refsE (ks : List (Addr × Edg)) : List V := ks.map fun p => V.ref p.1
/-- the dict at D: each state's edges -/
def ByAt (K : PySem.W.Frag) (H : Hp) (D : Addr) (ks : List (Addr × Edg)) : Prop := ∃ kvs, H D = some (.dK kvs) ∧ kvs.length ≤ ks.length ∧
  ∀ m : Nat, (∃ t : Addr, valV kvs (.inl (m : Int)) = some (.ref t) ∧ SqT K H t (refsE (outOf ks m)) ∧ outOf ks m ≠ []) ∨ (valV kvs (.inl (m : Int)) = none ∧ outOf ks m = [])
theorem ByAt.same {K : PySem.W.Frag} {H H' : Hp} {D : Addr} {ks : List (Addr × Edg)} (h : ByAt K H D ks) (S : Same H H') : ByAt K H' D ks := by
  obtain ⟨kvs, a1, a2, a3⟩ := h
  refine ⟨kvs, S _ _ a1, a2, fun m => ?_⟩
  rcases a3 m with ⟨t, b1, b2, b3⟩ | b
  · exact .inl ⟨t, b1, sqT_same S b2, b3⟩
  · exact .inr b
end K0
set_option maxRecDepth 100000
set_option maxHeartbeats 1000000
namespace K0
open PySem L2 FM He
/-- a pair of states as a key -/
def prK (p : Nat × Nat) : List Key := [.inl (p.1 : Int), .inl (p.2 : Int)]
theorem prK_inj {p q : Nat × Nat} (h : prK p = prK q) : p = q := by
  unfold prK at h
  simp only [List.cons.injEq, Sum.inl.injEq, and_true] at h
  exact Prod.ext (by omega) (by omega)
/-- a list of pairs -/
def PrsAt (H : Hp) (D : Addr) (ps : List (Nat × Nat)) : Prop := ∃ qs : List Addr, H D = some (.lst (qs.map V.ref)) ∧ Paired (fun a p => H a = some (.tup ((prK p).map kV))) qs ps
theorem paired_snoc {α β : Type} {R : α → β → Prop} : ∀ {as : List α} {bs : List β} {a : α} {b : β}, Paired R as bs → R a b → Paired R (as ++ [a]) (bs ++ [b])
  | _, _, _, _, .nil, h => .cons h .nil
  | _, _, _, _, .cons x y, h => .cons x (paired_snoc y h)
theorem paired_mono {α β : Type} {R R' : α → β → Prop} (f : ∀ a b, R a b → R' a b) : ∀ {as : List α} {bs : List β}, Paired R as bs → Paired R' as bs
  | _, _, .nil => .nil
  | _, _, .cons x y => .cons (f _ _ x) (paired_mono f y)
theorem PrsAt.push {H : Hp} {D q : Addr} {qs : List Addr} {ps : List (Nat × Nat)} {p : Nat × Nat} (hD : H D = some (.lst (qs.map V.ref))) (pr : Paired (fun a p => H a = some (.tup ((prK p).map kV))) qs ps) (nq : H q = none) :
    PrsAt (upd (upd H q (.tup [.int (p.1 : Int), .int (p.2 : Int)])) D (.lst (qs.map V.ref ++ [.ref q]))) D (ps ++ [p]) := by
  have S := same_upd (o := .tup [.int (p.1 : Int), .int (p.2 : Int)]) nq
  have ne : q ≠ D := fun z => by rw [z, hD] at nq; cases nq
  refine ⟨qs ++ [q], by rw [upd_same, List.map_append]; rfl, paired_snoc (paired_mono (fun a p h => ?_) pr) ?_⟩
  · have h2 := S _ _ h
    rw [upd_ne fun z => by rw [z, S _ _ hD] at h2; cases h2]
    exact h2
  · rw [upd_ne ne, upd_same]
    rfl
theorem PrsAt.same {H H' : Hp} {D : Addr} {ps : List (Nat × Nat)} (h : PrsAt H D ps) (S : Same H H') : PrsAt H' D ps := by
  obtain ⟨qs, a, b⟩ := h
  exact ⟨qs, S _ _ a, paired_mono (fun _ _ h => S _ _ h) b⟩
end K0
set_option maxRecDepth 100000
set_option maxHeartbeats 4000000
namespace K0
open PySem L2 FM He
theorem scThrow : FnScope ["_law_bag", "_law_total", "_law_found", "_law_one", "_law_two"] ["_law_bag", "_law_total"] (defScope sThrow) := ⟨rfl, rfl, rfl, by decide +kernel, rfl, by decide +kernel, by decide +kernel⟩
theorem scPick : FnScope ["_law_bag", "_law_items"] ["_law_bag", "_law_items"] (defScope sPick) := ⟨rfl, rfl, rfl, by decide +kernel, rfl, by decide +kernel, by decide +kernel⟩
theorem scStart : FnScope ["_law_script", "_law_at", "_law_cell", "_law_great", "_law_mixed"] ["_law_script", "_law_at"] (defScope sStart) := ⟨rfl, rfl, rfl, by decide +kernel, rfl, by decide +kernel, by decide +kernel⟩
/-- the bag at a: three ints -/
abbrev bagO (g s c : Int) : HO := .lst [.int g, .int s, .int c]
def spThrow : Sp := fun vs H Q _ => ∃ (a : Addr) (g s c t : Int), vs = [.ref a, .int t] ∧ H a = some (bagO g s c) ∧ 0 < t ∧ t < 1073741824 ∧
  ∀ r g' c', 0 ≤ r → r < t → Q (.int r) (upd H a (bagO g' s c'))
structure TB (mg : Str → Option Value) : Prop where
  int : mg "int" = none
  len : mg "len" = none
  abs : mg "abs" = none
  max : mg "max" = none
/-- what pick may be given: a list, a tuple, a text; its items -/
def ItemsOf (K : PySem.W.Frag) (H : Hp) (x : V) (xs : List V) : Prop := (∃ p, x = .ref p ∧ (SqL K H p xs ∨ SqT K H p xs)) ∨ (∃ z : Str, x = .str z ∧ z.length ≤ sizeLine ∧ xs = z.cps.toList.map fun c => V.str ⟨#[c]⟩)
def spPick (K : PySem.W.Frag) : Sp := fun vs H Q _ => ∃ (a : Addr) (g s c : Int) (x : V) (xs : List V), vs = [.ref a, x] ∧ H a = some (bagO g s c) ∧ ItemsOf K H x xs ∧ (∀ g' c', ItemsOf K (upd H a (bagO g' s c')) x xs) ∧ 0 < xs.length ∧ xs.length < 1073741824 ∧
  ∀ y g' c', y ∈ xs → Q y (upd H a (bagO g' s c'))
section
variable {P : Program} {w : World} {K : PySem.W.Frag} {mg : Str → Option Value} {base : Heap}
theorem ok_throw {f : Addr} {fd : FuncData} (F : FnP K "_law_throw" sThrow f fd) (T : TB mg) : FnOk P w K mg base CX0 1 f fd ["_law_bag", "_law_total"] spThrow := by
  refine F.ok scThrow (fun vs H Q E h => ?_) (fun cdv A outer s H vs Q E hr h => ?_)
  · obtain ⟨a, g, s, c, t, rfl, _⟩ := h
    rfl
  · obtain ⟨a, g, s, c, t, rfl, hb, ht, ht2, k⟩ := h
    have nd := scThrow.nd
    refine ⟨_, pss_cons (ps_if (pt_cmpR op_gt (pe_ix ix_list (pv 0) pe_int (fun _ _ => rfl)) pe_int (nomark _))
        (pss_cons (ps_set (i := 2) nd rfl (.inl rfl) (pe_op op_mod (pe_callTy call_intIB (by rfl) T.int (by decide +kernel) (pa_cons (pe_ix ix_list (pv 0) pe_int (fun _ _ => rfl)) pa_nil)) (pv 1)))
        (pss_cons (ps_asg (pe_op op_fdiv (pe_ix ix_list (pv 0) pe_int (fun _ _ => rfl)) (pv 1)) (pg_sub (pv 0) pe_int set_list))
        (pss_one (ps_ret (pv 2))))) pss_nil)
      (pss_cons (ps_asg (pe_op op_add (pe_ix ix_list (pv 0) pe_int (fun _ _ => rfl)) pe_int) (pg_sub (pv 0) pe_int set_list))
      (pss_cons (ps_set (i := 3) nd rfl (.inl rfl) (pe_op op_mod (pe_callTy call_intIB (by rfl) T.int (by decide +kernel) (pa_cons (pe_op op_add (pe_ix ix_list (pv 0) pe_int (fun _ _ => rfl)) (pe_op op_mul pe_int (pe_ix ix_list (pv 0) pe_int (fun _ _ => rfl)))) pa_nil)) pe_int))
      (pss_cons (ps_set (i := 4) nd rfl (.inl rfl) (pe_op op_add (pe_op op_mul (pe_op op_mod (pe_callTy call_intIB (by rfl) T.int (by decide +kernel) (pa_cons (pe_op op_mul (pv 3) (pv 3)) pa_nil)) pe_int) (pv 3)) (pe_op op_mul pe_int (pe_ix ix_list (pv 0) pe_int (fun _ _ => rfl)))))
      (pss_cons (ps_set (i := 4) nd rfl (.inl rfl) (pe_op op_mod (pe_callTy call_intIB (by rfl) T.int (by decide +kernel) (pa_cons (pv 4) pa_nil)) pe_int))
      (pss_one (ps_ret (pe_op op_mod (pe_callTy call_intIB (by rfl) T.int (by decide +kernel) (pa_cons (pe_op op_fdiv (pv 4) pe_int) pa_nil)) (pv 1)))))))), ?_⟩
    have L : ∀ {g s c : Int} {H : Hp}, H a = some (bagO g s c) → SqL K H a [.int g, .int s, .int c] := fun h => SqL.of h
    refine ⟨_, rfl, a, _, 0, .int g, rfl, rfl, L hb, rfl, _, _, rfl, rfl, _, rfl, ?_⟩
    refine ite2 (fun hg => ?_) (fun hg => ?_)
    · refine ⟨_, rfl, a, _, 0, .int g, rfl, rfl, L hb, rfl, .inl ⟨_, rfl, ?_⟩⟩
      refine ⟨_, rfl, _, _, rfl, rfl, ht, ?_⟩
      refine ⟨_, rfl, a, _, 0, .int g, rfl, rfl, L hb, rfl, _, rfl, _, _, rfl, rfl, ⟨ht, ht2⟩, ?_⟩
      refine ⟨_, rfl, a, _, 0, 0, rfl, rfl, hb, rfl, ?_⟩
      refine ⟨_, rfl, ?_⟩
      exact k _ _ _ (Int.emod_nonneg _ (by omega)) (Int.emod_lt_of_pos _ ht)
    · -- bag[2] = bag[2] + 1
      refine ⟨_, rfl, a, _, 2, .int c, rfl, rfl, L hb, rfl, _, _, rfl, rfl, _, rfl, a, _, 2, 2, rfl, rfl, hb, rfl, ?_⟩
      have hb1 : upd H a (bagO g s (c + 1)) a = some (bagO g s (c + 1)) := upd_same
      show _
      refine ⟨_, rfl, a, _, 1, .int s, rfl, rfl, L hb1, rfl, _, rfl, a, _, 2, .int (c + 1), rfl, rfl, L hb1, rfl, _, _, rfl, rfl, .inl (by decide), _, _, rfl, rfl, .inl ⟨_, rfl, _, _, rfl, rfl, (by show (0:Int) < 2305843009213693951; decide), ?_⟩⟩
      have b1 : (0:Int) ≤ (s + 1000403 * (c + 1)) % 2305843009213693951 ∧ (s + 1000403 * (c + 1)) % 2305843009213693951 < 2 ^ 64 := ⟨Int.emod_nonneg _ (by decide), Int.lt_trans (Int.emod_lt_of_pos _ (by decide)) (by decide)⟩
      generalize (s + 1000403 * (c + 1)) % 2305843009213693951 = one at b1 ⊢
      refine ⟨_, rfl, _, rfl, _, _, rfl, rfl, .inl ⟨by omega, by omega⟩, .inl ⟨_, rfl, _, _, rfl, rfl, (by show (0:Int) < 2305843009213693951; decide), _, rfl, _, _, rfl, rfl, .inr ⟨by omega, by omega⟩, _, rfl, a, _, 2, .int (c + 1), rfl, rfl, L hb1, rfl, _, _, rfl, rfl, .inl (by decide), _, _, rfl, rfl, ?_⟩⟩
      generalize one * one % 2305843009213693951 * one + 8111 * (c + 1) = two
      refine ⟨_, rfl, .inl ⟨_, rfl, _, _, rfl, rfl, (by show (0:Int) < 2305843009213693907; decide), ?_⟩⟩
      generalize two % 2305843009213693907 = tw
      refine ⟨_, rfl, _, _, rfl, rfl, (by show (0:Int) < 8192 ∧ (8192:Int) < 1073741824; decide), .inl ⟨_, rfl, _, rfl, _, _, rfl, rfl, ht, ?_⟩⟩
      exact k _ _ _ (Int.emod_nonneg _ (by omega)) (Int.emod_lt_of_pos _ ht)
theorem ok_pick {f fT : Addr} {fd fdT : FuncData} (F : FnP K "_law_pick" sPick f fd) (T : TB mg) (FT : FnP K "_law_throw" sThrow fT fdT) (mT : mg "_law_throw" = some (.ref fT)) (bT : Binds K fdT ["_law_bag", "_law_total"] []) :
    FnOk P w K mg base CX0 2 f fd ["_law_bag", "_law_items"] (spPick K) := by
  have GT : FnOk P w K mg base CX0 1 fT fdT ["_law_bag", "_law_total"] spThrow := ok_throw FT T
  refine F.ok scPick (fun vs H Q E h => ?_) (fun cdv A outer s H vs Q E hr h => ?_)
  · obtain ⟨a, g, s, c, x, xs, rfl, _⟩ := h
    rfl
  · obtain ⟨a, g, s, c, x, xs, rfl, hb, hi, hi2, h0, h1, k⟩ := h
    have nd := scPick.nd
    refine ⟨_, pss_one (ps_ret (pe_ix ix_seq (pv 1) (pe_call GT hr rfl mT FT.kp bT .nil pass0 (pa_cons (pv 0) (pa_cons (pe_callB call_len (by rfl) T.len (by decide +kernel) (pa_cons (pv 1) pa_nil)) pa_nil))) (fun _ _ => rfl))), ?_⟩
    rcases hi with ⟨p, rfl, hs⟩ | ⟨z, rfl, hz, rfl⟩
    · refine ⟨_, rfl, _, rfl, _, rfl, _, xs.length, rfl, ?_, a, g, s, c, xs.length, rfl, hb, by omega, by omega, fun r g' c' hr0 hr1 => ?_⟩
      · rcases hs with hs | hs
        · exact .inl ⟨_, hs, rfl⟩
        · exact .inr ⟨_, hs, rfl⟩
      · have hj : r.toNat < xs.length := by omega
        have e : atI xs r = some xs[r.toNat] := by
          have := atI_nat (xs := xs) (j := r.toNat) (v := xs[r.toNat]) (List.getElem?_eq_getElem hj)
          rwa [Int.toNat_of_nonneg hr0] at this
        have hk := k xs[r.toNat] g' c' (List.getElem_mem hj)
        rcases hi2 g' c' with ⟨p', e', hs'⟩ | ⟨z, e', _⟩
        · cases e'
          rcases hs' with hs' | hs'
          · exact .inl ⟨p, xs, r, _, rfl, rfl, hs', e, hk⟩
          · exact .inr (.inl ⟨p, xs, r, _, rfl, rfl, hs', e, hk⟩)
        · cases e'
    · have el : (z.cps.toList.map fun c => V.str ⟨#[c]⟩).length = z.length := by simp [Str.length]
      rw [el] at h0 h1
      refine ⟨_, rfl, _, rfl, _, rfl, _, z.length, rfl, ⟨hz, rfl⟩, a, g, s, c, z.length, rfl, hb, by omega, by omega, fun r g' c' hr0 hr1 => ?_⟩
      have hj : r.toNat < z.cps.toList.length := by simp [Str.length] at hr1 ⊢; omega
      have e : atI z.cps.toList r = some z.cps.toList[r.toNat] := by
        have := atI_nat (xs := z.cps.toList) (j := r.toNat) (v := z.cps.toList[r.toNat]) (List.getElem?_eq_getElem hj)
        rwa [Int.toNat_of_nonneg hr0] at this
      exact .inr (.inr ⟨z, r, _, rfl, rfl, hz, e, k _ g' c' (List.mem_map.mpr ⟨_, List.getElem_mem hj, rfl⟩)⟩)
def spBegin (K : PySem.W.Frag) : Sp := fun vs H Q _ => ∃ (a : Addr) (ns : List Int) (i : Nat), vs = [.ref a, .int i] ∧ SqL K H a (ns.map V.int) ∧ 
  ∀ p g s c, H p = none → Q (.ref p) (upd H p (bagO g s c))
theorem ok_start {f : Addr} {fd : FuncData} (F : FnP K "_law_start" sStart f fd) (T : TB mg) : FnOk P w K mg base CX0 1 f fd ["_law_script", "_law_at"] (spBegin K) := by
  refine F.ok scStart (fun vs H Q E h => ?_) (fun cdv A outer s H vs Q E hr h => ?_)
  · obtain ⟨a, ns, i, rfl, _⟩ := h
    rfl
  · obtain ⟨a, ns, i, rfl, hs, k⟩ := h
    have nd := scStart.nd
    refine ⟨_, C8.pss_cut (ps_set (i := 2) nd rfl (.inl rfl) (pe_ifExp (pt_cmpR op_lt (pv 1) (pe_callB call_len (by rfl) T.len (by decide +kernel) (pa_cons (pv 0) pa_nil)) (nomark _))
          (pe_ix ix_seq (pv 0) (pv 1) (fun _ _ => rfl)) (pe_op op_add (pe_op op_mul pe_int (pv 1)) pe_int)))
      (pss_cons (ps_set (i := 3) nd rfl (.inl rfl) (pe_op op_mod (pe_callTy call_intIB (by rfl) T.int (by decide +kernel) (pa_cons (pe_callB call_abs (by rfl) T.abs (by decide +kernel) (pa_cons (pv 2) pa_nil)) pa_nil)) (pe_op op_powW (pe_op op_powW pe_int pe_int) pe_int)))
      (pss_cons (ps_set (i := 4) nd rfl (.inl rfl) (pe_op op_add (pe_op op_add (pe_op op_add (pe_op op_mul (pe_op op_mod (pe_callTy call_intIB (by rfl) T.int (by decide +kernel) (pa_cons (pv 3) pa_nil)) pe_int) pe_int) (pe_op op_mul pe_int (pv 1)))
          (pe_op op_mul pe_int (pe_callTy call_intIB (by rfl) T.int (by decide +kernel) (pa_cons (pe_cmpR op_lt (pv 2) pe_int (nomark _)) pa_nil)))) pe_int))
      (pss_one (ps_ret (pe_lst (pa_cons (pe_callB (call_max2 rfl) (by rfl) T.max (by decide +kernel) (pa_cons pe_int (pa_cons (pe_op op_sub (pv 3) (pe_op op_powW pe_int pe_int)) pa_nil)))
        (pa_cons (pe_op op_mod (pe_callTy call_intIB (by rfl) T.int (by decide +kernel) (pa_cons (pv 4) pa_nil)) pe_int) (pa_cons pe_int pa_nil)))))))), ?_⟩
    have hlen : (ns.map V.int).length = ns.length := by simp
    refine ⟨fun σ' H' => ∃ cell : Int, σ' = [some (.ref a), some (.int i), some (.int cell), none, none] ∧ H' = H, ?_, ?_⟩
    · refine ⟨_, rfl, _, rfl, _, _, rfl, .inl ⟨_, hs, rfl⟩, _, _, rfl, rfl, _, rfl, ?_⟩
      refine ite2 (fun hi => ?_) (fun hi => ?_)
      · have hi' : i < (ns.map V.int).length := by simp at hi ⊢; omega
        have e := atI_nat (xs := ns.map V.int) (j := i) (v := (ns.map V.int)[i]) (List.getElem?_eq_getElem hi')
        refine ⟨_, rfl, _, rfl, .inl ⟨a, _, _, (ns.map V.int)[i], rfl, rfl, hs, e, ?_⟩⟩
        rw [List.getElem_map]
        exact ⟨_, rfl, rfl⟩
      · refine ⟨_, rfl, _, _, rfl, rfl, .inl (by decide), _, _, rfl, rfl, ?_⟩
        exact ⟨_, rfl, rfl⟩
    · rintro σ' H' ⟨cell, rfl, rfl⟩
      have hp : (0:Int) < ((10 ^ (58:Int).toNat) ^ (12:Int).toNat) := by decide +kernel
      refine ⟨_, rfl, _, rfl, .inl ⟨_, rfl, _, _, rfl, rfl, ⟨by decide, by decide +kernel⟩, _, _, rfl, rfl, ⟨by decide, by decide +kernel⟩, _, _, rfl, rfl, hp, ?_⟩⟩
      generalize (if cell < 0 then -cell else cell) % ((10 ^ (58:Int).toNat) ^ (12:Int).toNat) = great
      refine ⟨_, rfl, .inl ⟨_, rfl, _, _, rfl, rfl, (by show (0:Int) < 2147483497; decide), _, _, rfl, rfl, .inr (by decide), _, rfl, _, _, rfl, rfl, .inl (by decide), _, _, rfl, rfl, ?_⟩⟩
      refine ⟨_, rfl, _, _, rfl, rfl, .inr ⟨_, rfl, _, _, rfl, rfl, .inl (by decide), _, _, rfl, rfl, _, _, rfl, rfl, ?_⟩⟩
      refine ⟨_, rfl, _, _, rfl, rfl, ⟨by decide, by decide +kernel⟩, _, _, rfl, rfl, _, _, rfl, ?_⟩
      refine ⟨_, rfl, .inl ⟨_, rfl, _, _, rfl, rfl, (by show (0:Int) < 2147483353; decide), by show 3 ≤ sizeLine; decide, fun p np => ?_⟩⟩
      exact k p _ _ _ np
theorem tb0 (T : TP K mg) : TB mg := ⟨T.b_int, T.b_len, T.b_abs, T.b_max⟩
theorem ok_law_throw {f : Addr} {fd : FuncData} (F : FnP K "_law_throw" sThrow f fd) (T : TP K mg) : FnOk P w K mg base CX0 1 f fd ["_law_bag", "_law_total"] spThrow := ok_throw F (tb0 T)
theorem ok_law_start {f : Addr} {fd : FuncData} (F : FnP K "_law_start" sStart f fd) (T : TP K mg) : FnOk P w K mg base CX0 1 f fd ["_law_script", "_law_at"] (spBegin K) := ok_start F (tb0 T)
theorem ok_law_pick {f : Addr} {fd : FuncData} (F : FnP K "_law_pick" sPick f fd) (T : TP K mg) : FnOk P w K mg base CX0 2 f fd ["_law_bag", "_law_items"] (spPick K) := by
  obtain ⟨_, FT⟩ := T.f__law_throw
  exact ok_pick F (tb0 T) FT T.g__law_throw (FT.bindsN fun _ _ _ _ _ _ us hl => match us, hl with | [_, _], _ => rfl)
end
end K0
set_option maxRecDepth 100000
set_option maxHeartbeats 4000000
namespace FM
open PySem PySem.Spec PyProof.Rows L2
def Keep (b : Addr → Prop) (H H' : Hp) : Prop := ∀ a o, ¬ b a → H a = some o → H' a = some o
section
variable {b b' : Addr → Prop} {H H1 H2 : Hp}
theorem Keep.refl : Keep b H H := fun _ _ _ h => h
theorem Keep.trans (x : Keep b H H1) (y : Keep b H1 H2) : Keep b H H2 := fun a o n h => y a o n (x a o n h)
theorem Keep.of (S : Same H H1) : Keep b H H1 := fun a o _ h => S a o h
theorem Keep.upd {p : Addr} {o : HO} (hp : b p) : Keep b H (L2.upd H p o) := fun a u n h => by
  rw [upd_ne fun z => n (by rw [z]; exact hp)]
  exact h
theorem Keep.more (h : ∀ a, b a → b' a) (x : Keep b H H1) : Keep b' H H1 := fun a o n z => x a o (fun q => n (h a q)) z
theorem Keep.new {p : Addr} {o : HO} (n : H p = none) : Keep b H (L2.upd H p o) := fun a u na h => by
  rw [upd_ne (ne_of_none h n)]
  exact h
/-- another new object is written -/
theorem Keep.put {p : Addr} {o : HO} (x : Keep b H H1) (n : H p = none) : Keep b H (L2.upd H1 p o) := fun a u na h => by
  rw [upd_ne (ne_of_none h n)]
  exact x a u na h
def OkV (b : Addr → Prop) (n m : Nat) (H : Hp) (v : V) : Prop := ∃ (d : PyData) (as : List Addr), d.showable = true ∧ d.depth ≤ n ∧ d.shown.length ≤ m ∧ ∀ Hf, Keep b H Hf → DV Hf v d as
def OkVs (b : Addr → Prop) (n m : Nat) (H : Hp) (vs : List V) : Prop := ∃ (ds : List PyData) (as : List Addr), PyData.showableAll ds = true ∧ PyData.depthAll ds ≤ n ∧ ((PyData.shownAll ds).map (·.length)).sum ≤ m ∧ ds.length = vs.length ∧ ∀ Hf, Keep b H Hf → DVs Hf vs ds as
variable {n m n' m' : Nat} {v : V} {vs : List V} {t : Addr}
/-- what is not there yet may be written -/
theorem OkV.more {p : Addr} (h : OkV b n m H v) (np : H p = none) : OkV (fun a => b a ∨ a = p) n m H v := by
  obtain ⟨d, as, h1, h2, h3, h4⟩ := h
  refine ⟨d, as, h1, h2, h3, fun Hf z => h4 Hf fun a o na ha => z a o (fun q => ?_) ha⟩
  rcases q with q | q
  · exact na q
  · rw [q, np] at ha; cases ha
theorem OkV.keep (h : OkV b n m H v) (k : Keep b H H1) : OkV b n m H1 v := by
  obtain ⟨d, as, h1, h2, h3, h4⟩ := h
  exact ⟨d, as, h1, h2, h3, fun Hf z => h4 Hf (k.trans z)⟩
theorem OkVs.keep (h : OkVs b n m H vs) (k : Keep b H H1) : OkVs b n m H1 vs := by
  obtain ⟨d, as, h1, h2, h3, h4, h5⟩ := h
  exact ⟨d, as, h1, h2, h3, h4, fun Hf z => h5 Hf (k.trans z)⟩
theorem OkV.mono (h : OkV b n m H v) (h1 : n ≤ n') (h2 : m ≤ m') : OkV b n' m' H v := by
  obtain ⟨d, as, z1, z2, z3, z4⟩ := h
  exact ⟨d, as, z1, Nat.le_trans z2 h1, Nat.le_trans z3 h2, z4⟩
theorem OkV.non : OkV b 0 4 H .non := ⟨.none, [], rfl, by decide, by decide +kernel, fun _ _ => .non⟩
theorem OkV.bl {c : Bool} : OkV b 0 5 H (.bl c) := ⟨.bool c, [], rfl, by simp only [PyData.depth]; omega, by cases c <;> decide +kernel, fun _ _ => .bl c⟩
theorem OkV.int {i : Int} (h1 : i.natAbs.log2 < 1920) (h2 : (PyData.shown (.int i)).length ≤ 100) : OkV b 0 100 H (.int i) := ⟨.int i, [], decide_eq_true h1, by simp only [PyData.depth]; omega, h2, fun _ _ => .int i⟩
theorem OkV.str {x : Str} (h2 : (PyData.shown (.str x)).length ≤ 100) : OkV b 0 100 H (.str x) := ⟨.str x, [], rfl, by simp only [PyData.depth]; omega, h2, fun _ _ => .str x⟩
theorem OkVs.nil : OkVs b n m H [] := ⟨[], [], rfl, Nat.zero_le _, Nat.zero_le _, rfl, fun _ _ => .nil⟩
theorem OkVs.cons (h : OkV b n m H v) (t : OkVs b n m' H vs) : OkVs b n (m + m') H (v :: vs) := by
  obtain ⟨d, as, h1, h2, h3, h4⟩ := h
  obtain ⟨ds, bs, t1, t2, t3, t4, t5⟩ := t
  refine ⟨d :: ds, as ++ bs, by simp [PyData.showableAll, h1, t1], ?_, ?_, by rw [List.length_cons, List.length_cons, t4], fun Hf k => .cons (h4 Hf k) (t5 Hf k)⟩
  · simp only [PyData.depthAll]; omega
  · simp only [PyData.shownAll, List.map_cons, List.sum_cons]; omega
theorem shownAll_len : ∀ ds : List PyData, (PyData.shownAll ds).length = ds.length
  | [] => rfl
  | d :: ds => by simp only [PyData.shownAll, List.length_cons, shownAll_len ds]
theorem OkV.tup (h : OkVs b n m H vs) (e : H t = some (.tup vs)) (ne : ¬ b t) : OkV b (n + 1) (m + 2 * vs.length + 3) H (.ref t) := by
  obtain ⟨ds, as, h1, h2, h3, h4, h5⟩ := h
  refine ⟨.tuple ds, as, by simpa only [PyData.showable] using h1, by simp only [PyData.depth]; omega, ?_, fun Hf k => .tup (k _ _ ne e) (h5 Hf k)⟩
  have := tupleText_len_le (PyData.shownAll ds)
  rw [shownAll_len] at this
  simp only [PyData.shown]
  omega
theorem OkV.lst (h : OkVs b n m H vs) (e : H t = some (.lst vs)) (ne : ¬ b t) : OkV b (n + 1) (m + 2 * vs.length + 3) H (.ref t) := by
  obtain ⟨ds, as, h1, h2, h3, h4, h5⟩ := h
  refine ⟨.list ds, t :: as, by simpa only [PyData.showable] using h1, by simp only [PyData.depth]; omega, ?_, fun Hf k => .lst (k _ _ ne e) (h5 Hf k)⟩
  have := listText_len_le (PyData.shownAll ds)
  rw [shownAll_len] at this
  simp only [PyData.shown]
  omega
theorem OkV.dS {k : Str} (h : OkV b n m H v) (e : H t = some (.dK [(.inr k, v)])) (ne : ¬ b t) (hk : (PyData.shown (.str k)).length ≤ 100) : OkV b (n + 1) (m + 110) H (.ref t) := by
  obtain ⟨d, as, h1, h2, h3, h4⟩ := h
  refine ⟨.dict [(.str k, d)], _, by simp [PyData.showable, PyData.showableKv, h1], by simp only [PyData.depth, PyData.depthKv]; omega, ?_, fun Hf z => .dS (z _ _ ne e) (h4 Hf z)⟩
  have q := dictText_len_le (PyData.shownKv [(.str k, d)])
  have e2 : ((PyData.shownKv [(.str k, d)]).map (·.length)).sum = (PyData.shown (.str k)).length + 2 + d.shown.length := by
    simp only [PyData.shownKv, List.map_cons, List.map_nil, List.sum_cons, List.sum_nil]
    rw [PySem.Str.length_append, PySem.Str.length_append]
    rfl
  rw [e2] at q
  simp only [PyData.shown] at q hk ⊢
  simp only [PyData.shownKv, List.length_cons, List.length_nil] at q ⊢
  omega
theorem OkV.dT {ks : List L2.Key} (h : OkV b n m H v) (e : H t = some (.dT [(ks, v)])) (ne : ¬ b t) (hs : (PyData.tuple (ks.map kD)).showable = true) (hd : (PyData.tuple (ks.map kD)).depth ≤ n) (hk : (PyData.shown (.tuple (ks.map kD))).length ≤ 100) :
    OkV b (n + 1) (m + 110) H (.ref t) := by
  obtain ⟨d, as, h1, h2, h3, h4⟩ := h
  refine ⟨.dict [(.tuple (ks.map kD), d)], _, ?_, ?_, ?_, fun Hf z => .dT (z _ _ ne e) (h4 Hf z)⟩
  · simp only [PyData.showable, PyData.showableKv, h1] at hs ⊢
    rw [hs]; rfl
  · simp only [PyData.depth, PyData.depthKv] at hd ⊢
    omega
  · have q := dictText_len_le (PyData.shownKv [(.tuple (ks.map kD), d)])
    have e2 : ((PyData.shownKv [(.tuple (ks.map kD), d)]).map (·.length)).sum = (PyData.shown (.tuple (ks.map kD))).length + 2 + d.shown.length := by
      simp only [PyData.shownKv, List.map_cons, List.map_nil, List.sum_cons, List.sum_nil]
      rw [PySem.Str.length_append, PySem.Str.length_append]
      rfl
    rw [e2] at q
    simp only [PyData.shown] at q hk ⊢
    simp only [PyData.shownKv, List.length_cons, List.length_nil] at q ⊢
    omega
end
end FM
set_option maxRecDepth 100000
set_option maxHeartbeats 4000000
namespace FM
open PySem PySem.Spec PyProof.Rows L2
structure FnPin (P : Program) (w : World) (K : PySem.W.Frag) (mg : Str → Option Value) (base : Heap) (k : Nat) (f : Addr) (fd : FuncData) (ps : List Str) (sp : Addr × Obj → Sp) : Prop where
  len : ∀ p vs H Q E, sp p vs H Q E → vs.length = ps.length
  run : ∀ (A : Around) (outer : List Env) (s : Shared) (H : Hp) (args : Args) (us : List Value) (vs : List V) (Q : VK) (p : Addr × Obj),
    L2H.RoomH k A → L2H.PinOk outer H s p → Env0 P w K mg base A outer s H → BindsTo s fd args (ps.zip us) → Vals vs us → sp p vs H Q E0 →
    codeAny (model P w) A (.call (.ref f) args) (CR CX0 outer P w H s Q E0) s
section
variable {P : Program} {w : World} {K : PySem.W.Frag} {mg : Str → Option Value} {base : Heap}
theorem FnPin.of {x qual : Str} {params : Arguments} {body : List Stmt} {scope : Scope} {dvs : List V} {kws : List (Str × V)} {f : Addr} {fd : FuncData}
    {N ps : List Str} {k : Nat} {sp : Addr × Obj → Sp} (F : FunD K x qual params body scope dvs kws f fd) (S : FnScope N ps scope)
    (len : ∀ p vs H Q E, sp p vs H Q E → vs.length = ps.length)
    (hb : ∀ (cdv : Value) (A : Around) (outer : List Env) (s : Shared) (H : Hp) (vs : List V) (Q : VK) (p : Addr × Obj),
      L2H.RoomH k (A.deeper (envOfC qual scope s.heap.objs.size f cdv)) → sp p vs H Q E0 →
      ∃ t, PSs (L2H.cxH CX0 P w K mg base N qual scope f cdv A outer s H E0 p) body t ∧ t { nx := fun _ H' => Q .non H', rt := Q } (L2.start N vs) H) :
    FnPin P w K mg base (k + 1) f fd ps sp := by
  obtain ⟨oc, od, dV, kV, doc, pm, an, cdv, ct, osl, rfl, lk, hcd, _, _⟩ := F.ex
  refine ⟨len, fun A outer s H args us vs Q p hr hp e0 hbt r hsp => ?_⟩
  have hl := len _ _ _ _ _ hsp
  have kin : K.In s.heap := e0.mod.kin.keeps fun b o e => (e0.bs b o e).1
  have lim : s.heap.NoLimit := e0.mod.nolimit.keeps fun b o e => (e0.bs b o e).1
  refine codeAny_call_function hr.depth (kin _ _ lk) rfl S.co S.gen rfl (PySem.W.codeRec_of kin hcd) (hbt _ _ _ _
    (wpAny_newFunctionEnv_cells S.kind ?_ fun env he s1 z => ?_))
  · rintro ⟨n, v⟩ hy
    exact (S.par n (List.of_mem_zip hy).1).elim Or.inl fun q => Or.inr ⟨q, PySem.W.cellsFrom_some _ _ _ (.inl q)⟩
  subst he
  refine ⟨lim.keeps z.toInCall.keep, codeAny_func ?_⟩
  obtain ⟨t, ht, q⟩ := hb cdv A outer s H vs Q p (hr.deeper _) hsp
  have I := L2H.inv_startH (E := E0) (CX := CX0) S hp e0 hl r z
  refine wpAny_mono (ht.run [] s1 (L2.start N vs) H _ I q) (fun fl s' hs => ?_) fun e s' hs => hs
  cases fl with
  | ret u =>
    obtain ⟨v, σ', H', J, rv, q⟩ := hs
    exact ⟨v, H', J.os, J.bare, J.base, J.hok, rv, q⟩
  | next =>
    obtain ⟨σ', H', J, q⟩ := hs
    exact ⟨V.non, H', J.os, J.bare, J.base, J.hok, rfl, q⟩
  | brk =>
    obtain ⟨_, _, _, q⟩ := hs
    exact q.elim
  | cont =>
    obtain ⟨_, _, _, q⟩ := hs
    exact q.elim
end
end FM
set_option maxRecDepth 100000
set_option maxHeartbeats 4000000
namespace FM
open PySem PySem.Spec PyProof.Rows L2
structure FnG (P : Program) (w : World) (K : PySem.W.Frag) (mg : Str → Option Value) (base : Heap) (k : Nat) (f : Addr) (fd : FuncData) (ps : List Str) (sp : List V → Hp → VK → Prop) : Prop where
  len : ∀ vs H Q, sp vs H Q → vs.length = ps.length
  run : ∀ (A : Around) (outer : List Env) (s : Shared) (H : Hp) (args : Args) (us : List Value) (vs : List V) (Q : VK),
    A.guards = some [] → Room k A → Env0 P w K mg base A outer s H → BindsTo s fd args (ps.zip us) → Vals vs us → sp vs H Q →
    codeAny (model P w) A (.call (.ref f) args) (CR C8.CX0 outer P w H s Q C8.E0) s
section
variable {P : Program} {w : World} {K : PySem.W.Frag} {mg : Str → Option Value} {base : Heap}
theorem FnG.of {x qual : Str} {params : Arguments} {body : List Stmt} {scope : Scope} {dvs : List V} {kws : List (Str × V)} {f : Addr} {fd : FuncData}
    {N ps : List Str} {k : Nat} {sp : List V → Hp → VK → Prop} (F : FunD K x qual params body scope dvs kws f fd) (S : FnScope N ps scope) (len : ∀ vs H Q, sp vs H Q → vs.length = ps.length)
    (hb : ∀ (cdv : Value) (A : Around) (outer : List Env) (s : Shared) (H : Hp) (vs : List V) (Q : VK), fd.code = cdv → A.guards = some [] → Room k (A.deeper (envOfC qual scope s.heap.objs.size f cdv)) → sp vs H Q →
      ∃ t, PSs (cxOf C8.CX0 P w K mg base N qual scope f cdv A outer s H C8.E0) body t ∧ t { nx := fun _ H' => Q .non H', rt := Q } (L2.start N vs) H) :
    FnG P w K mg base (k + 1) f fd ps sp := by
  obtain ⟨oc, od, dV, kV, doc, pm, an, cdv, ct, osl, rfl, lk, hcd, _, _⟩ := F.ex
  exact ⟨len, fun A outer s H args us vs Q hg hr e0 hbt r h => LamX.run_ofS lk hcd S hr e0 hbt r (len _ _ _ h) fun hr' => hb cdv A outer s H vs Q rfl hg hr' h⟩
end
section
variable {X : Cx} {k : Nat} {f : Addr} {fd : FuncData} {ps : List Str} {sp : List V → Hp → VK → Prop} {x : Str} {q pos : Pos} {e : Expr} {es : List Expr} {t : TA}
theorem pe_callG (F : FnG X.prog X.w X.K X.mg X.base k f fd ps sp) (hgu : X.A.guards = some []) (hr : Room k X.A) (hg : Gl X x) (hm : X.mg x = some (.ref f))
    (hk : PySem.W.keepIn X.K (.ref f) = true) (hb : Binds X.K fd ps []) (ha : PA X (e :: es) t) (hdb : (x == ("__debug__" : Str)) = false := by decide)
    (he : starEach (e :: es) X.env = (false, eval e X.env) :: starEach es X.env := by rfl) (hpl : (backTo pos (starEach es X.env)).any (·.1) = false := by rfl) :
    PE X (.Call (.Name x q) (e :: es) [] pos) (fun σ H Q => t σ H fun vs H1 => sp vs H1 Q) := by
  refine ⟨fun pins s σ H Q I h => wpAny_Call_Name_kw (ld_glob I hg hm ?_ hdb)⟩
  refine PySem.W.callWith_K (h₀ := X.base) I.ok.mod.kin hk (thn (ha.run pos pins s σ H _ I h) ?_) he hpl
  rintro us s1 ⟨vs, H1, I1, r, z⟩
  have b := hb s1 us I1.kIn (by rw [List.append_nil, ← r.length]; exact F.len _ _ _ z)
  rw [List.append_nil] at b
  refine ⟨I1.kIn, wpAny_call (codeAny_mono (F.run X.A X.stack s1 H1 ⟨us, []⟩ us vs Q hgu hr I1.env0 b r z) fun res s' hq => ?_)⟩
  cases res with
  | error e => exact False.elim hq
  | ok fl =>
    cases fl with
    | ret u => exact I1.after hq
    | next => exact False.elim hq
    | brk => exact False.elim hq
    | cont => exact False.elim hq
end
end FM
set_option maxRecDepth 100000
set_option maxHeartbeats 1000000
namespace K0
open PySem L2 FM He
def BagAt (b : Addr) (H : Hp) : Prop := ∃ g s c, H b = some (bagO g s c)
theorem BagAt.same {b : Addr} {H H1 : Hp} (h : BagAt b H) (S : Same H H1) : BagAt b H1 := by
  obtain ⟨g, s, c, e⟩ := h
  exact ⟨g, s, c, S _ _ e⟩
abbrev J (b : Addr) : Addr → Prop := fun a => a = b
/-- all but tables and one object stay -/
def KeepN (b : Addr) (H H' : Hp) : Prop := ∀ a o, a ≠ b → (∀ ps, o ≠ .tbl ps) → H a = some o → H' a = some o
theorem KeepN.keep {b : Addr} {H H' : Hp} (k : Keep (J b) H H') : KeepN b H H' := fun a o n _ h => k a o n h
theorem KeepN.ext {b : Addr} {H H' : Hp} (k : LamX.ExtN H H') : KeepN b H H' := fun a o _ n h => k a o h n
theorem KeepN.same {b : Addr} {H H' : Hp} (k : Same H H') : KeepN b H H' := KeepN.ext (LamX.ExtN.of k)
theorem KeepN.refl {b : Addr} {H : Hp} : KeepN b H H := fun _ _ _ _ h => h
theorem KeepN.trans {b : Addr} {H H1 H2 : Hp} (x : KeepN b H H1) (y : KeepN b H1 H2) : KeepN b H H2 := fun a o n m h => y a o n m (x a o n m h)
theorem bag_ne {b p : Addr} {H : Hp} (h : BagAt b H) (n : H p = none) : p ≠ b := by
  obtain ⟨g, s, c, e⟩ := h
  exact (ne_of_none e n).symm
theorem tabs_keep {Ts : List (Addr × Str)} {H H1 : Hp} {b : Addr} (h : LamX.Tabs Ts H) (hb : BagAt b H) (k : Keep (J b) H H1) : LamX.Tabs Ts H1 := fun p hp => by
  obtain ⟨g, s, d, e⟩ := hb
  obtain ⟨ps, h1, h2, h3⟩ := h p hp
  refine ⟨ps, k _ _ (ne_of h1 e (fun z => nomatch z)) h1, h2, fun pos cv hc => ?_⟩
  obtain ⟨c, e1, e2⟩ := h3 pos cv hc
  exact ⟨c, e1, k _ _ (ne_of e2 e fun z => by
    have z' : HO.ext _ = HO.lst _ := z
    cases z') e2⟩
theorem sql_far {K : PySem.W.Frag} {H Hf : Hp} {a b : Addr} {o : HO} {xs : List V} (h : SqL K H a xs) (n : H b = none) (k : KeepN b (upd H b o) Hf) : SqL K Hf a xs := by
  rcases h with (h | ⟨u, h⟩) | h
  · have ne := ne_of_none h n
    exact .inl (.inl (k _ _ ne (fun _ => by simp) (by rw [upd_ne ne]; exact h)))
  · have ne := ne_of_none h n
    exact .inl (.inr ⟨u, k _ _ ne (fun _ => by simp) (by rw [upd_ne ne]; exact h)⟩)
  · exact .inr h
/-- so it is, whatever becomes of the bag and of the tables -/
def AL (b : Addr) (φ : Hp → V → Prop) (H : Hp) (y : V) : Prop := ∀ Hf, KeepN b H Hf → φ Hf y
section
variable {b : Addr} {φ ψ : Hp → V → Prop} {H H0 H1 : Hp} {y v : V} {σ : L2.St} {t : L2.TE} {ts : L2.TA} {φs : List (Hp → V → Prop)} {K : PySem.W.Frag}
theorem AL.far (h : AL b φ H y) (k : KeepN b H H1) : AL b φ H1 y := fun Hf z => h Hf (k.trans z)
theorem AL.same (h : AL b φ H y) (S : Same H H1) : AL b φ H1 y := h.far (KeepN.same S)
theorem AL.imp (h : AL b φ H y) (f : ∀ H y, φ H y → ψ H y) : AL b ψ H y := fun Hf z => f _ _ (h Hf z)
def AllA (b : Addr) : List (Hp → V → Prop) → Hp → List V → Prop
  | [], _, [] => True
  | φ :: φs, H, y :: ys => AL b φ H y ∧ AllA b φs H ys
  | _, _, _ => False
theorem AllA.far (k : KeepN b H H1) : ∀ {φs : List (Hp → V → Prop)} {ys : List V}, AllA b φs H ys → AllA b φs H1 ys
  | [], [], _ => trivial
  | _ :: _, _ :: _, h => ⟨h.1.far k, AllA.far k h.2⟩
  | [], _ :: _, h => h.elim
  | _ :: _, [], h => h.elim
theorem AllA.len : ∀ {φs : List (Hp → V → Prop)} {ys : List V}, AllA b φs H ys → ys.length = φs.length
  | [], [], _ => rfl
  | _ :: _, _ :: _, h => by rw [List.length_cons, List.length_cons, AllA.len h.2]
  | [], _ :: _, h => h.elim
  | _ :: _, [], h => h.elim
end
section
variable {K : PySem.W.Frag} {H : Hp}
/-- neither a text nor a tuple -/
def Nst (K : PySem.W.Frag) (H : Hp) (y : V) : Prop := NotTy K H y "str" ∧ NotTy K H y "tuple"
theorem Nst.word {y : V} (h : Nst K H y) : WordV K H y false := .inr ⟨h.1, rfl⟩
end
end K0
set_option maxRecDepth 100000
set_option maxHeartbeats 1000000
namespace K0
open PySem L2 FM He
section
variable {X : Cx} {K : PySem.W.Frag} {o e : Expr} {es : List Expr} {to : L2.TE} {t : TA} {apos cpos : Pos}
theorem pe_popAt (hK : X.K = K) (ho : PE X o to) (ha : PA X (e :: es) t) (hbase : attributeBase o "pop" X.env (eval o X.env) = eval o X.env := by rfl)
    (hfew : ((backTo cpos (starEach (e :: es) X.env)).all (fun x => !x.1) && (backToKw cpos (keywordEach [] X.env)).all (fun x => x.1.isSome) && decide ((e :: es).length + ([] : List Keyword).length + (if ([] : List Keyword).isEmpty then 0 else 1) < 30)) = true := by rfl)
    (hline : (apos.endLine == cpos.line) = true := by rfl) (hs : starEach (e :: es) X.env = (false, eval e X.env) :: starEach es X.env := by rfl) (hplain : (backTo cpos (starEach es X.env)).any (·.1) = false := by rfl) :
    PE X (.Call (.Attribute o "pop" apos) (e :: es) [] cpos) (tBM K "list" rPopAt to t) := by
  subst hK
  exact pe_bm PySem.F.plainAttrs_list PySem.F.slot_list_pop PySem.F.type_list_pop mt_popAt ho ha hbase hfew hline hs hplain
end
section
variable {P : Program} {w : World} {K : PySem.W.Frag} {mg : Str → Option Value} {base : Heap}
theorem erase_perm {α : Type} : ∀ {l : List α} {j : Nat} (h : j < l.length), (l[j] :: l.eraseIdx j).Perm l
  | x :: l, 0, _ => List.Perm.refl _
  | x :: l, j + 1, h => by
    have q := erase_perm (l := l) (j := j) (by simpa using h)
    exact (List.Perm.swap _ _ _).trans (q.cons x)
end
end K0
namespace FM
open PySem L2
/-- the key of a sign and a mark -/
def kp (c m : Nat) : List Key := [.inr ⟨#[c]⟩, .inl (m : Int)]
theorem kp_inj {c m c' m' : Nat} (h : kp c m = kp c' m') : c = c' ∧ m = m' := by
  unfold kp at h
  simp only [List.cons.injEq, Sum.inr.injEq, Sum.inl.injEq, Str.mk.injEq] at h
  refine ⟨?_, by omega⟩
  have := congrArg Array.toList h.1
  simpa using this
def entD (e : (Nat × Nat) × Nat) : List Key × V := (kp e.1.1 e.1.2, .int (e.2 : Nat))
/-- every slot filled once, every mark but 0 put into a slot of an earlier mark -/
structure DrawnT (sg : List Nat) (n : Nat) (es : List ((Nat × Nat) × Nat)) : Prop where
  nd : (es.map (·.1)).Nodup
  all : ∀ c ∈ sg, ∀ m < n, ∃ v, ((c, m), v) ∈ es
  ok : ∀ e ∈ es, e.1.1 ∈ sg ∧ e.1.2 < n ∧ e.2 < n
  met : ∀ v, 0 < v → v < n → ∃ e ∈ es, e.2 = v ∧ e.1.2 < v
def slotsOf (sg : List Nat) (m : Nat) : List (Nat × Nat) := (List.range m).flatMap fun k => sg.map fun c => (c, k)
theorem slots_succ (sg : List Nat) (m : Nat) : slotsOf sg (m + 1) = slotsOf sg m ++ sg.map fun c => (c, m) := by
  unfold slotsOf
  rw [List.range_succ, List.flatMap_append]
  simp
theorem slots_len (sg : List Nat) : ∀ m, (slotsOf sg m).length = m * sg.length
  | 0 => by simp [slotsOf]
  | m + 1 => by rw [slots_succ, List.length_append, slots_len sg m, List.length_map, Nat.succ_mul]
theorem slots_mem {sg : List Nat} {m : Nat} {p : Nat × Nat} : p ∈ slotsOf sg m ↔ p.1 ∈ sg ∧ p.2 < m := by
  unfold slotsOf
  rw [List.mem_flatMap]
  constructor
  · rintro ⟨k, hk, h⟩
    obtain ⟨c, hc, rfl⟩ := List.mem_map.mp h
    exact ⟨hc, List.mem_range.mp hk⟩
  · rintro ⟨h1, h2⟩
    exact ⟨p.2, List.mem_range.mpr h2, List.mem_map.mpr ⟨p.1, h1, rfl⟩⟩
theorem slots_nd {sg : List Nat} (nd : sg.Nodup) (m : Nat) : (slotsOf sg m).Nodup := by
  unfold slotsOf List.Nodup
  rw [List.pairwise_flatMap]
  refine ⟨fun k _ => List.pairwise_map.mpr (nd.imp fun ne e => ne (congrArg Prod.fst e)), List.nodup_range.imp fun ne x hx y hy e => ne ?_⟩
  obtain ⟨_, _, rfl⟩ := List.mem_map.mp hx
  obtain ⟨_, _, rfl⟩ := List.mem_map.mp hy
  exact congrArg Prod.snd e
/-- m marks are laid: filled slots es, free slots sl -/
structure Laying (sg : List Nat) (m : Nat) (es : List ((Nat × Nat) × Nat)) (sl : List (Nat × Nat)) : Prop where
  perm : (es.map (·.1) ++ sl).Perm (slotsOf sg m)
  val : ∀ e ∈ es, 0 < e.2 ∧ e.2 < m ∧ e.1.2 < e.2
  met : ∀ v, 0 < v → v < m → ∃ e ∈ es, e.2 = v
  len : es.length = m - 1
section
variable {sg : List Nat} {m : Nat} {es : List ((Nat × Nat) × Nat)} {sl : List (Nat × Nat)}
theorem lay_first (sg : List Nat) : Laying sg 1 [] (sg.map fun c => (c, 0)) := ⟨by simp [slotsOf], (fun e h => by cases h), (fun v h1 h2 => by omega), rfl⟩
theorem Laying.sum (L : Laying sg m es sl) : es.length + sl.length = m * sg.length := by
  have := L.perm.length_eq
  rwa [List.length_append, List.length_map, slots_len] at this
theorem Laying.some (L : Laying sg m es sl) (h : 0 < m) (h2 : sg ≠ []) : 0 < sl.length := by
  have h1 := L.sum
  have h3 := L.len
  have h4 : m ≤ m * sg.length := Nat.le_mul_of_pos_right _ (List.length_pos_iff.mpr h2)
  omega
theorem Laying.put (L : Laying sg m es sl) (h : 0 < m) {j : Nat} (hj : j < sl.length) : Laying sg (m + 1) (es ++ [(sl[j], m)]) (sl.eraseIdx j ++ sg.map fun c => (c, m)) := by
  have e1 : sl[j].2 < m := (slots_mem.mp (L.perm.mem_iff.mp (List.mem_append_right _ (List.getElem_mem hj)))).2
  refine ⟨?_, fun e he => ?_, fun v h1 h2 => ?_, by rw [List.length_append, L.len]; simp; omega⟩
  · rw [slots_succ, List.map_append, List.append_assoc, ← List.append_assoc _ _ (sg.map _), ← List.append_assoc (es.map _)]
    refine List.Perm.append_right _ (List.Perm.trans (List.Perm.append_left _ ?_) L.perm)
    exact K0.erase_perm hj
  · rcases List.mem_append.mp he with he | he
    · obtain ⟨a1, a2, a3⟩ := L.val e he
      exact ⟨a1, by omega, a3⟩
    · rw [List.mem_singleton.mp he]
      exact ⟨h, Nat.lt_succ_self _, e1⟩
  · by_cases q : v < m
    · obtain ⟨e, he, r⟩ := L.met v h1 q
      exact ⟨e, List.mem_append_left _ he, r⟩
    · exact ⟨_, List.mem_append_right _ (List.mem_singleton.mpr rfl), by show m = v; omega⟩
theorem Laying.fill (L : Laying sg m es sl) (nd : sg.Nodup) {vs : List Nat} (hl : vs.length = sl.length) (hv : ∀ v ∈ vs, v < m) : DrawnT sg m (es ++ sl.zip vs) := by
  have e1 : (es ++ sl.zip vs).map (·.1) = es.map (·.1) ++ sl := by
    rw [List.map_append]
    congr 1
    exact List.map_fst_zip (by omega)
  have nd1 : ((es ++ sl.zip vs).map (·.1)).Nodup := by
    rw [e1]
    exact L.perm.nodup_iff.mpr (slots_nd nd m)
  refine ⟨nd1, fun c hc k hk => ?_, fun e he => ?_, fun v h1 h2 => ?_⟩
  · have : (c, k) ∈ (es ++ sl.zip vs).map (·.1) := by
      rw [e1]
      exact L.perm.mem_iff.mpr (slots_mem.mpr ⟨hc, hk⟩)
    obtain ⟨⟨p, v⟩, he, rfl⟩ := List.mem_map.mp this
    exact ⟨v, he⟩
  · have h1 : e.1 ∈ slotsOf sg m := by
      refine L.perm.mem_iff.mp ?_
      rw [← e1]
      exact List.mem_map_of_mem he
    obtain ⟨h2, h3⟩ := slots_mem.mp h1
    refine ⟨h2, h3, ?_⟩
    rcases List.mem_append.mp he with he | he
    · exact (L.val e he).2.1
    · exact hv _ (List.of_mem_zip (a := e.1) (b := e.2) he).2
  · obtain ⟨e, he, r⟩ := L.met v h1 h2
    exact ⟨e, List.mem_append_left _ he, r, r ▸ (L.val e he).2.2⟩
end
end FM
set_option maxRecDepth 100000
set_option maxHeartbeats 1000000
namespace K0
open PySem L2 FM He
/-- the tuples of slots -/
def SlotAt (H : Hp) (t : Addr) (s : Nat × Nat) : Prop := H t = some (.tup [.str ⟨#[s.1]⟩, .int (s.2 : Nat)])
theorem erase_map {α β : Type} (f : α → β) : ∀ (l : List α) (j : Nat), (l.map f).eraseIdx j = (l.eraseIdx j).map f
  | [], _ => rfl
  | _ :: _, 0 => rfl
  | a :: l, j + 1 => congrArg (f a :: ·) (erase_map f l j)
theorem paired_erase {α β : Type} {F : α → β → Prop} : ∀ {l : List α} {k : List β} (j : Nat), Paired F l k → Paired F (l.eraseIdx j) (k.eraseIdx j)
  | _, _, _, .nil => .nil
  | _, _, 0, .cons _ r => r
  | _, _, j + 1, .cons a r => .cons a (paired_erase j r)
theorem paired_app {α β : Type} {F : α → β → Prop} {l2 : List α} {k2 : List β} (h2 : Paired F l2 k2) : ∀ {l : List α} {k : List β}, Paired F l k → Paired F (l ++ l2) (k ++ k2)
  | _, _, .nil => h2
  | _, _, .cons a r => .cons a (paired_app h2 r)
theorem paired_getR {α β : Type} {F : α → β → Prop} : ∀ {l : List α} {k : List β} {j : Nat} {b : β}, Paired F l k → k[j]? = some b → ∃ a, l[j]? = some a ∧ F a b
  | _, _, _, _, .nil, e => by cases e
  | _, _, 0, _, .cons a r, e => ⟨_, rfl, by cases e; exact a⟩
  | _, _, j + 1, _, .cons _ r, e => paired_getR (j := j) r e
theorem slots_far {H H' : Hp} {ts : List Addr} {sl : List (Nat × Nat)} (h : Paired (SlotAt H) ts sl) (k : ∀ t xs, H t = some (.tup xs) → H' t = some (.tup xs)) : Paired (SlotAt H') ts sl := paired_mono (fun _ _ z => k _ _ z) h
theorem tup_keep {b : Addr} {H H' : Hp} (bag : BagAt b H) (k : Keep (J b) H H') : ∀ t xs, H t = some (.tup xs) → H' t = some (.tup xs) := fun t xs z => by
  obtain ⟨g, s, c, e⟩ := bag
  exact k t _ (ne_of z e fun q => nomatch q) z
theorem tup_upd {H : Hp} {L : Addr} {o o' : HO} (e : H L = some o) (n : ∀ xs, o ≠ .tup xs) : ∀ t xs, H t = some (.tup xs) → upd H L o' t = some (.tup xs) := fun t xs z => by
  rw [upd_ne (ne_of z e fun q => n _ q.symm)]
  exact z
section
variable {P : Program} {w : World} {K : PySem.W.Frag} {mg : Str → Option Value} {base : Heap}
theorem ok_law_drawn_turns {f : Addr} {fd : FuncData} (F : FnP K "_law_drawn_turns" s__law_drawn_turns f fd) (T : TP K mg) : FnOk P w K mg base CX0 3 f fd ["_law_bag", "_law_signs", "_law_size"] (fun vs H Q _ => ∃ (b : Addr) (sg : List Nat) (n : Nat), vs = [.ref b, .str (sgTxt sg), .int (n : Nat)] ∧ SgOk sg ∧ 1 ≤ n ∧ n ≤ 21 ∧ BagAt b H ∧
    ∀ q H' (es : List ((Nat × Nat) × Nat)), DrawnT sg n es → Keep (J b) H H' → BagAt b H' → H q = none → H' q = some (.dT (es.map entD)) → Q (.ref q) H') := by
  obtain ⟨d__law_throw, F__law_throw⟩ := T.f__law_throw
  have G__law_throw := ok_law_throw (P := P) (w := w) (base := base) F__law_throw T
  have b__law_throw : Binds K d__law_throw ["_law_bag", "_law_total"] [] := F__law_throw.bindsN fun _ _ _ _ _ _ us hl => match us, hl with | [_, _], _ => rfl
  refine F.ok sc__law_drawn_turns (fun vs H Q E h => ?_) (fun cdv A outer s H vs Q E hr h => ?_)
  · obtain ⟨b, sg, n, rfl, _⟩ := h
    rfl
  · obtain ⟨b, sg, n, rfl, g, n1, n21, bag, k⟩ := h
    have nd := sc__law_drawn_turns.nd
    have hu64 := hr.units
    have hu1 := Nat.lt_of_le_of_lt (Nat.add_le_add_left (by decide : 1 ≤ 64) _) hu64
    have big : (100000 : Nat) ≤ sizeLine := by decide
    have s4 := g.four
    have gnd : sg.Nodup := g.rise.imp fun h => Nat.ne_of_lt h
    have sz : (sgTxt sg).cps.size = sg.length := sgTxt_length sg
    refine ⟨_, PSs.nox (pss_cons (ps_set (i := 3) nd rfl (.inl rfl) pe_dnewT)
      (pss_cons (ps_set (i := 4) nd rfl (.inl rfl) (pe_lst pa_nil))
      (pss_cons (ps_for PassesOwn.never rfl (pi_range1 (by rfl) T.b_range (pa_cons (pv 2) pa_nil)) (pg_name (i := 5) nd rfl (.inr rfl)) (pss_cons (ps_if (pt_cmpR op_gt (pv 5) pe_int (nomark _)) (pss_cons (ps_set (i := 6) nd rfl (.inl rfl) (pe_popAt (K := K) rfl (pv 4) (pa_cons (pe_call G__law_throw (hr.mono (by decide)) rfl T.g__law_throw F__law_throw.kp b__law_throw .nil pass0 (pa_cons (pv 0) (pa_cons (pe_callB call_len (by rfl) T.b_len (by decide +kernel) (pa_cons (pv 4) pa_nil)) pa_nil))) pa_nil)))
      (pss_one (ps_dput hu1 (pv 3) (pv 6) (pv 5) rfl))) pss_nil)
      (pss_one (ps_expr (pe_bm PySem.F.plainAttrs_list PySem.F.slot_list_extend PySem.F.type_list_extend mt_extend (pv 4) (pa_cons (pe_lc (own := [("_law_sign", 7)]) rfl nd (pi_str (pv 1)) (blkOk_by (own := [("_law_sign", 7)]) (N := ["_law_bag", "_law_signs", "_law_size", "_law_found", "_law_slots", "_law_mark", "_law_slot", "_law_sign"]) (sc := defScope s__law_drawn_turns) (by decide +kernel)) (fun _ _ _ _ _ => (pg_name (i := 7) nd rfl (.inl rfl))) (fun _ _ _ _ _ => pts_nil) (fun _ _ _ _ _ => (pe_tup (pa_cons (pv 7) (pa_cons (pv 5) pa_nil))))) pa_nil))))))
      (pss_cons (ps_for PassesOwn.never rfl (pi_list (pv 4)) (pg_name (i := 6) nd rfl (.inl rfl)) (pss_one (ps_dput hu1 (pv 3) (pv 6) (pe_call G__law_throw (hr.mono (by decide)) rfl T.g__law_throw F__law_throw.kp b__law_throw .nil pass0 (pa_cons (pv 0) (pa_cons (pv 2) pa_nil))) rfl)))
      (pss_one (ps_ret (pv 3))))))), ?_⟩
    intro D nD
    have S1 := same_upd (o := .dT []) nD
    have hD : upd H D (.dT []) D = some (.dT (([] : List ((Nat × Nat) × Nat)).map entD)) := upd_same
    have Db : D ≠ b := bag_ne bag nD
    have bag1 := bag.same S1
    generalize upd H D (.dT []) = H1 at S1 hD bag1 ⊢
    refine ⟨by show 0 ≤ _; omega, fun L nL => ?_⟩
    have S2 := S1.trans (same_upd (o := .lst []) nL)
    have nLH := S1.free nL
    have Lb : L ≠ b := bag_ne bag1 nL
    have DL : D ≠ L := ne_of_none hD nL
    have hD2 := same_upd (o := .lst []) nL _ _ hD
    have bag2 := bag1.same (same_upd (o := .lst []) nL)
    have hL2 : upd H1 L (.lst []) L = some (.lst (([] : List Addr).map V.ref)) := upd_same
    generalize upd H1 L (.lst []) = H2 at S2 hD2 bag2 hL2 ⊢
    refine ⟨_, rfl, _, rfl, by omega, by omega, ?_⟩
    refine for_it walk_range (fun i σ H' => ∃ (u5 u6 u7 : Option V) (es : List ((Nat × Nat) × Nat)) (ts : List Addr) (sl : List (Nat × Nat)), σ = [some (.ref b), some (.str (sgTxt sg)), some (.int (n : Nat)), some (.ref D), some (.ref L), u5, u6, u7] ∧ Keep (J b) H H' ∧ BagAt b H' ∧ H' D = some (.dT (es.map entD)) ∧ H' L = some (.lst (ts.map V.ref)) ∧ Paired (SlotAt H') ts sl ∧
        ((i = 0 ∧ es = [] ∧ sl = []) ∨ (0 < i ∧ Laying sg i es sl)))
      ⟨_, _, _, [], [], [], rfl, .of S2, bag2, hD2, hL2, .nil, .inl ⟨rfl, rfl, rfl⟩⟩ (fun _ _ _ _ _ => trivial) ?_ ?_
    · rintro i y σ H3 H3' hi ⟨u5, u6, u7, es, ts, sl, rfl, kp, bag3, hD3, hL3, pr, lay⟩ ⟨rfl, rfl⟩
      have i21 : i < n := by omega
      have tl : ts.length = sl.length := Paired.length pr
      refine ⟨_, rfl, _, _, rfl, rfl, _, rfl, ?_⟩
      refine ite2 (fun hg => ?_) (fun hg => ?_)
      have ip : 0 < i := by
        have : (0 : Int) < 0 + (i : Nat) := by first | exact of_decide_eq_true hg | exact hg | simpa using hg
        omega
      have lay : Laying sg i es sl := by
        rcases lay with ⟨z, _⟩ | ⟨_, l⟩
        · omega
        · exact l
      have pos := lay.some ip g.one
      have sm := lay.sum
      have sm2 : i * sg.length ≤ 21 * 4 := Nat.mul_le_mul (by omega) s4
      refine ⟨_, rfl, .inl ⟨rfl, _, .of hL3⟩, _, rfl, _, rfl, _, _, rfl, .inl ⟨_, .of hL3, (List.length_map ..).symm⟩, ?_⟩
      obtain ⟨gg, ss, cc, eb⟩ := id bag3
      refine ⟨b, gg, ss, cc, (ts.length : Nat), rfl, eb, by omega, by omega, fun r0 g' c' r1 jl => ?_⟩
      obtain ⟨j, rfl⟩ : ∃ j : Nat, r0 = j := ⟨r0.toNat, by omega⟩
      have kk : Keep (J b) H3' (upd H3' b (bagO g' ss c')) := Keep.upd rfl
      have bag4 : BagAt b (upd H3' b (bagO g' ss c')) := ⟨_, _, _, upd_same⟩
      generalize upd H3' b (bagO g' ss c') = H4 at kk bag4 ⊢
      have jl1 : ((j : Nat) : Int) < (ts.length : Nat) := jl
      have jl2 : j < sl.length := by omega
      obtain ⟨t, ht, st⟩ := paired_getR pr (List.getElem?_eq_getElem jl2)
      have hL4 := kk _ _ Lb hL3
      have hD4 := kk _ _ Db hD3
      have st4 := tup_keep bag3 kk _ _ st
      have pr4 := slots_far pr (tup_keep bag3 kk)
      have kp4 := kp.trans kk
      have ix : seqIndex? ((j : Nat) : Int) (ts.map V.ref).length = some j := by
        unfold seqIndex?
        have h0 : ¬ ((j : Nat) : Int) < 0 := by omega
        simp only [h0, if_false]
        rw [if_pos (by simp; omega)]
        rfl
      refine ⟨L, _, _, j, .ref t, rfl, rfl, hL4, by omega, by omega, ix, by rw [List.getElem?_map, ht]; rfl, ?_⟩
      have nT : ∀ xs, HO.lst (ts.map V.ref) ≠ HO.tup xs := fun _ => by simp
      have pr5 := paired_erase j (slots_far pr4 (tup_upd (o' := .lst ((ts.map V.ref).eraseIdx j)) hL4 nT))
      have st5 := tup_upd (o' := .lst ((ts.map V.ref).eraseIdx j)) hL4 nT _ _ st4
      have hD5 : upd H4 L (.lst ((ts.map V.ref).eraseIdx j)) D = some (.dT (es.map entD)) := by rw [upd_ne DL]; exact hD4
      have hL5 : upd H4 L (.lst ((ts.map V.ref).eraseIdx j)) L = some (.lst ((ts.map V.ref).eraseIdx j)) := upd_same
      have kp5 : Keep (J b) H (upd H4 L (.lst ((ts.map V.ref).eraseIdx j))) := kp4.put nLH
      have bag5 : BagAt b (upd H4 L (.lst ((ts.map V.ref).eraseIdx j))) := by
        obtain ⟨g, s, c, e⟩ := bag4
        exact ⟨g, s, c, by rw [upd_ne Lb.symm]; exact e⟩
      generalize upd H4 L (.lst ((ts.map V.ref).eraseIdx j)) = H5 at pr5 st5 hD5 hL5 kp5 bag5 ⊢
      refine ⟨_, rfl, _, rfl, _, rfl, D, _, rfl, DPut.t (k := FM.kp sl[j].1 sl[j].2) hD5 st5 (by rw [List.length_map]; omega), ?_⟩
      have nk : FM.kp sl[j].1 sl[j].2 ∉ (es.map entD).map (·.1) := fun z => by
        rw [List.map_map] at z
        obtain ⟨e, he, q⟩ := List.mem_map.mp z
        obtain ⟨q1, q2⟩ := kp_inj q
        have ndp := lay.perm.nodup_iff.mpr (slots_nd gnd i)
        exact (List.nodup_append.mp ndp).2.2 _ (List.mem_map_of_mem he) _ (List.getElem_mem jl2) (Prod.ext q1 q2)
      have lay6 := lay.put ip jl2
      rw [show putK (es.map entD) (FM.kp sl[j].1 sl[j].2) (.int (0 + (i : Nat))) = (es ++ [(sl[j], i)]).map entD by
        rw [putK_new _ (valV_out nk), List.map_append, Int.zero_add]
        rfl]
      have pr6 := slots_far pr5 (tup_upd (o' := .dT ((es ++ [(sl[j], i)]).map entD)) hD5 (fun _ => by simp))
      have hD6 : upd H5 D (.dT ((es ++ [(sl[j], i)]).map entD)) D = some (.dT ((es ++ [(sl[j], i)]).map entD)) := upd_same
      have hL6 : upd H5 D (.dT ((es ++ [(sl[j], i)]).map entD)) L = some (.lst ((ts.eraseIdx j).map V.ref)) := by
        rw [upd_ne DL.symm, hL5, erase_map]
      have kp6 : Keep (J b) H (upd H5 D (.dT ((es ++ [(sl[j], i)]).map entD))) := kp5.put nD
      have bag6 : BagAt b (upd H5 D (.dT ((es ++ [(sl[j], i)]).map entD))) := by
        obtain ⟨g, s, c, e⟩ := bag5
        exact ⟨g, s, c, by rw [upd_ne Db.symm]; exact e⟩
      have tl6 : (ts.eraseIdx j).length ≤ 84 := by rw [List.length_eraseIdx]; split <;> omega
      generalize upd H5 D (.dT ((es ++ [(sl[j], i)]).map entD)) = H6 at pr6 hD6 hL6 kp6 bag6 ⊢
      generalize es ++ [(sl[j], i)] = es1 at lay6 hD6
      generalize ts.eraseIdx j = ts1 at pr6 hL6 tl6
      generalize sl.eraseIdx j = sl1 at pr6 lay6
      rotate_left
      have i0 : i = 0 := by
        rcases Nat.eq_zero_or_pos i with z | z
        · exact z
        · exact absurd (decide_eq_true (by omega : (0 : Int) < 0 + (i : Nat))) hg
      obtain ⟨rfl, rfl⟩ : es = [] ∧ sl = [] := by
        rcases lay with ⟨_, a, b⟩ | ⟨a, _⟩
        · exact ⟨a, b⟩
        · omega
      have lay6 : Laying sg (i + 1) [] ([] ++ sg.map fun c => (c, i)) := by rw [i0]; exact lay_first sg
      have pr6 := pr
      have hD6 := hD3
      have hL6 := hL3
      have kp6 := kp
      have bag6 := bag3
      have tl6 : ts.length ≤ 84 := by rw [tl]; simp
      generalize H3' = H6 at pr6 hD6 hL6 kp6 bag6 ⊢
      generalize ([] : List ((Nat × Nat) × Nat)) = es1 at lay6 hD6
      generalize ts = ts1 at pr6 hL6 tl6
      generalize ([] : List (Nat × Nat)) = sl1 at pr6 lay6
      rotate_left
      all_goals
        refine ⟨_, rfl, .inl ⟨rfl, _, .of hL6⟩, _, rfl, (sgTxt sg), rfl, fun C nC => ?_⟩
        refine lc_it (walk_str (z := (sgTxt sg))) (fun jj H' => Same H6 H' ∧ ∃ us : List Addr, H' C = some (.lst (us.map V.ref)) ∧ us.length = jj ∧ Paired (SlotAt H') us ((sg.take jj).map fun c => (c, i))) ⟨same_upd nC, [], upd_same, rfl, .nil⟩ (fun _ _ _ _ => trivial) ?_ ?_
        · rintro jj y H7 H7' hj ⟨S7, us, hC, ul, pu⟩ ⟨rfl, c, hc, rfl⟩
          have hcj : sg[jj]? = some c := by
            have : (sgTxt sg).cps.toList[jj]? = some c := by rw [Array.getElem?_toList]; exact hc
            exact this
          refine ⟨rfl, _, rfl, _, rfl, by show 2 ≤ _; omega, fun q nq => ?_⟩
          have Sq := same_upd (o := .tup [.str ⟨#[c]⟩, .int (0 + (i : Nat))]) nq
          refine ⟨_, Sq _ _ hC, by rw [List.length_map]; omega, upd_far nC (S7.trans Sq), us ++ [q], by rw [upd_same, List.map_append]; rfl, by rw [List.length_append, ul]; rfl, ?_⟩
          have Cq : q ≠ C := fun z => by rw [z, hC] at nq; cases nq
          rw [List.take_add_one, hcj, List.map_append]
          refine paired_app (.cons ?_ .nil) ?_
          · show upd _ C _ q = _
            rw [upd_ne Cq, upd_same]
            show some (HO.tup [V.str ⟨#[c]⟩, V.int (0 + (i : Nat))]) = some (HO.tup [V.str ⟨#[c]⟩, V.int (i : Nat)])
            rw [Int.zero_add]
          · exact slots_far (slots_far pu fun t xs z => Sq _ _ z) (tup_upd (Sq _ _ hC) fun _ => by simp)
        · rintro H7 ⟨S7, us, hC, ul, pu⟩
          rw [List.take_of_length_le (by omega)] at pu
          have LC : L ≠ C := ne_of_none hL6 nC
          refine ⟨L, C, _, _, rfl, rfl, S7 _ _ hL6, hC, by rw [List.length_map, List.length_map]; omega, ?_⟩
          refine ⟨_, _, _, es1, ts1 ++ us, sl1 ++ sg.map fun c => (c, i), rfl, (kp6.trans (Keep.of S7)).put nLH, ?_, by rw [upd_ne DL]; exact S7 _ _ hD6, by rw [upd_same, List.map_append], ?_, .inr ⟨by omega, lay6⟩⟩
          · obtain ⟨g, s, c, e⟩ := bag6.same S7
            exact ⟨g, s, c, by rw [upd_ne Lb.symm]; exact e⟩
          · exact paired_app (slots_far pu (tup_upd (S7 _ _ hL6) fun _ => by simp)) (slots_far (slots_far pr6 fun t xs z => S7 _ _ z) (tup_upd (S7 _ _ hL6) fun _ => by simp))
    · rintro σ H3 ⟨u5, u6, u7, es, ts, sl, rfl, kp, bag3, hD3, hL3, pr, lay⟩
      rw [Int.toNat_natCast] at lay
      have lay : Laying sg n es sl := by
        rcases lay with ⟨z, _⟩ | ⟨_, l⟩
        · omega
        · exact l
      have tl : ts.length = sl.length := Paired.length pr
      have sm := lay.sum
      have sm2 : n * sg.length ≤ 21 * 4 := Nat.mul_le_mul n21 s4
      refine ⟨_, rfl, L, rfl, ⟨_, .of hL3⟩, ?_⟩
      refine for_list (K := K) (xs := ts.map V.ref) (fun j σ H' => ∃ (u5 u6 u7 : Option V) (vs : List Nat), σ = [some (.ref b), some (.str (sgTxt sg)), some (.int (n : Nat)), some (.ref D), some (.ref L), u5, u6, u7] ∧ Keep (J b) H H' ∧ BagAt b H' ∧ vs.length = j ∧ (∀ v ∈ vs, v < n) ∧ H' D = some (.dT ((es ++ (sl.take j).zip vs).map entD)) ∧ H' L = some (.lst (ts.map V.ref)) ∧ Paired (SlotAt H') ts sl)
        ⟨_, _, _, [], rfl, kp, bag3, rfl, (fun v h => by cases h), by simpa using hD3, hL3, pr⟩ (fun _ _ _ _ h => by obtain ⟨_, _, _, _, _, _, _, _, _, _, h, _⟩ := h; exact .of h) ?_ ?_
      · rintro j y σ H4 hy ⟨u5, u6, u7, vs, rfl, kp4, bag4, vl, vn, hD4, hL4, pr4⟩
        rw [List.getElem?_map] at hy
        obtain ⟨t, ht, rfl⟩ := Option.map_eq_some_iff.mp hy
        have jl : j < sl.length := by rw [← tl]; exact (List.getElem?_eq_some_iff.mp ht).1
        obtain ⟨t', ht', st⟩ := paired_getR pr4 (List.getElem?_eq_getElem jl)
        obtain rfl : t' = t := Option.some.inj (ht'.symm.trans ht)
        obtain ⟨gg, ss, cc, eb⟩ := id bag4
        refine ⟨_, rfl, _, rfl, b, gg, ss, cc, (n : Nat), rfl, eb, by omega, by omega, fun r0 g' c' r1 rn => ?_⟩
        obtain ⟨r, rfl⟩ : ∃ r : Nat, r0 = r := ⟨r0.toNat, by omega⟩
        have kk : Keep (J b) H4 (upd H4 b (bagO g' ss c')) := Keep.upd rfl
        have bag5 : BagAt b (upd H4 b (bagO g' ss c')) := ⟨_, _, _, upd_same⟩
        have pr5 := slots_far pr4 (tup_keep bag4 kk)
        have st5 := tup_keep bag4 kk _ _ st
        have hD5 := kk _ _ Db hD4
        have hL5 := kk _ _ Lb hL4
        have kp5 := kp4.trans kk
        generalize upd H4 b (bagO g' ss c') = H5 at pr5 st5 hD5 hL5 kp5 bag5 ⊢
        have tk : (sl.take j).length = j := by rw [List.length_take]; omega
        have nk : FM.kp sl[j].1 sl[j].2 ∉ ((es ++ (sl.take j).zip vs).map entD).map (·.1) := fun z => by
          rw [List.map_map] at z
          obtain ⟨e, he, q⟩ := List.mem_map.mp z
          obtain ⟨q1, q2⟩ := kp_inj q
          have ndp := lay.perm.nodup_iff.mpr (slots_nd gnd n)
          have q3 : e.1 = sl[j] := Prod.ext q1 q2
          rcases List.mem_append.mp he with he | he
          · exact (List.nodup_append.mp ndp).2.2 _ (List.mem_map_of_mem he) _ (List.getElem_mem jl) q3
          · have m1 : e.1 ∈ sl.take j := (List.of_mem_zip (a := e.1) (b := e.2) he).1
            rw [q3] at m1
            have n2 := (List.nodup_append.mp ndp).2.1
            obtain ⟨x, hx, ex⟩ := List.mem_iff_getElem.mp m1
            rw [List.getElem_take] at ex
            have := (List.getElem_inj n2).mp ex
            omega
        have zl : (es ++ (sl.take j).zip vs).length ≤ 200 := by
          rw [List.length_append, List.length_zip]
          omega
        refine ⟨_, rfl, _, rfl, D, _, rfl, DPut.t (k := FM.kp sl[j].1 sl[j].2) hD5 st5 (by rw [List.length_map]; omega), ?_⟩
        refine ⟨_, _, _, vs ++ [r], rfl, kp5.put nD, ?_, by rw [List.length_append, vl]; rfl, fun v hv => ?_, ?_, by rw [upd_ne DL.symm]; exact hL5, slots_far pr5 (tup_upd hD5 fun _ => by simp)⟩
        · obtain ⟨g, s, c, e⟩ := bag5
          exact ⟨g, s, c, by rw [upd_ne Db.symm]; exact e⟩
        · rcases List.mem_append.mp hv with hv | hv
          · exact vn v hv
          · rw [List.mem_singleton.mp hv]; omega
        · rw [upd_same, putK_new _ (valV_out nk), List.take_add_one, List.getElem?_eq_getElem jl, List.zip_append (by rw [tk, vl]), ← List.append_assoc, List.map_append (l₂ := _)]
          simp [entD]
      · rintro σ H4 ⟨u5, u6, u7, vs, rfl, kp4, bag4, vl, vn, hD4, hL4, pr4⟩
        rw [List.length_map] at vl hD4
        rw [List.take_of_length_le (by omega)] at hD4
        have dr := lay.fill gnd (vs := vs) (by omega) vn
        refine ⟨_, rfl, ?_⟩
        exact k D H4 _ dr kp4 bag4 nD hD4
end
end K0
set_option maxRecDepth 100000
set_option maxHeartbeats 1000000
namespace K0
open PySem L2 FM He
/-- a word over the letters of signs, at most so long -/
def Over (signs : Str) (m : Nat) (z : Str) : Prop := z.length ≤ m ∧ ∀ c ∈ z.cps.toList, c ∈ signs.cps.toList
theorem singles_sum : ∀ zs : List Str, (∀ z ∈ zs, z.length = 1) → (zs.map (·.length)).sum = zs.length
  | [], _ => rfl
  | z :: zs, h => by
    have h1 := h z List.mem_cons_self
    have h2 := singles_sum zs fun y hy => h y (List.mem_cons_of_mem _ hy)
    simp only [List.map_cons, List.sum_cons, List.length_cons]
    omega
theorem singles_join {signs : Str} : ∀ zs : List Str, (∀ z ∈ zs, ∃ c ∈ signs.cps.toList, z = ⟨#[c]⟩) → (Str.join "" zs).length = zs.length ∧ ∀ c ∈ (Str.join "" zs).cps.toList, c ∈ signs.cps.toList
  | [], _ => ⟨rfl, fun c hc => by
    have : c ∈ ([] : List Nat) := hc
    cases this⟩
  | [z], h => by
    obtain ⟨c, hc, rfl⟩ := h z List.mem_cons_self
    refine ⟨rfl, fun d hd => ?_⟩
    have e : d = c := by simpa [Str.join] using hd
    rw [e]
    exact hc
  | z :: y :: zs, h => by
    obtain ⟨c, hc, rfl⟩ := h z List.mem_cons_self
    obtain ⟨l1, l2⟩ := singles_join (signs := signs) (y :: zs) fun x hx => h x (List.mem_cons_of_mem _ hx)
    have e : Str.join "" (⟨#[c]⟩ :: y :: zs) = (⟨#[c]⟩ : Str) ++ "" ++ Str.join "" (y :: zs) := rfl
    rw [e]
    refine ⟨?_, fun d hd => ?_⟩
    · rw [PySem.Str.length_append, PySem.Str.length_append, l1]
      show 1 + 0 + (zs.length + 1) = zs.length + 1 + 1
      omega
    · have hd2 : d = c ∨ d ∈ (Str.join "" (y :: zs)).cps.toList := by
        have z : ((⟨#[c]⟩ : Str) ++ "" ++ Str.join "" (y :: zs)).cps.toList = [c] ++ (Str.join "" (y :: zs)).cps.toList := by
          show ((#[c] ++ #[]) ++ (Str.join "" (y :: zs)).cps).toList = _
          simp
        rw [z] at hd
        simpa using hd
      rcases hd2 with rfl | hd2
      · exact hc
      · exact l2 d hd2
def spWord : Sp := fun vs H Q _ => ∃ (b : Addr) (signs : Str) (m : Nat), vs = [.ref b, .str signs, .int m] ∧ BagAt b H ∧ 0 < signs.length ∧ signs.length ≤ 1000 ∧ m ≤ 1000 ∧
  ∀ z H', Keep (J b) H H' → BagAt b H' → Over signs m z → Q (.str z) H'
section
variable {P : Program} {w : World} {K : PySem.W.Frag} {mg : Str → Option Value} {base : Heap}
theorem ok_law_drawn_word {f : Addr} {fd : FuncData} (F : FnP K "_law_drawn_word" s__law_drawn_word f fd) (T : TP K mg) : FnOk P w K mg base CX0 3 f fd ["_law_bag", "_law_signs", "_law_most"] spWord := by
  obtain ⟨d__law_pick, F__law_pick⟩ := T.f__law_pick
  have G__law_pick := ok_law_pick (P := P) (w := w) (base := base) F__law_pick T
  have b__law_pick : Binds K d__law_pick ["_law_bag", "_law_items"] [] := F__law_pick.bindsN fun _ _ _ _ _ _ us hl => match us, hl with | [_, _], _ => rfl
  obtain ⟨d__law_throw, F__law_throw⟩ := T.f__law_throw
  have G__law_throw := ok_law_throw (P := P) (w := w) (base := base) F__law_throw T
  have b__law_throw : Binds K d__law_throw ["_law_bag", "_law_total"] [] := F__law_throw.bindsN fun _ _ _ _ _ _ us hl => match us, hl with | [_, _], _ => rfl
  refine F.ok sc__law_drawn_word (fun vs H Q E h => ?_) (fun cdv A outer s H vs Q E hr h => ?_)
  · obtain ⟨b, signs, m, rfl, _⟩ := h
    rfl
  · obtain ⟨b, signs, m, rfl, hb, s0, s1, hm, k⟩ := h
    have nd := sc__law_drawn_word.nd
    refine ⟨_, PSs.nox (pss_one (ps_ret (pe_join pe_str (pe_lc (own := [("_law_turn", 3)]) rfl nd (pi_range1 (by rfl) T.b_range (pa_cons (pe_call G__law_throw (hr.mono (by decide)) rfl T.g__law_throw F__law_throw.kp b__law_throw .nil pass0 (pa_cons (pv 0) (pa_cons (pe_op op_add (pv 2) pe_int) pa_nil))) pa_nil)) (blkOk_by (own := [("_law_turn", 3)]) (N := ["_law_bag", "_law_signs", "_law_most", "_law_turn"]) (sc := defScope s__law_drawn_word) (by decide +kernel)) (fun _ _ _ _ _ => (pg_name (i := 3) nd rfl (.inl rfl))) (fun _ _ _ _ _ => pts_nil) (fun _ _ _ _ _ => (pe_call G__law_pick (hr.mono (by decide)) rfl T.g__law_pick F__law_pick.kp b__law_pick .nil pass0 (pa_cons (pv 0) (pa_cons (pv 1) pa_nil)))))))), ?_⟩
    have hb0 := hb
    obtain ⟨g, s', c, hb⟩ := hb
    refine ⟨⟨_, rfl⟩, _, rfl, _, rfl, _, _, rfl, rfl, b, g, s', c, (m : Int) + 1, rfl, hb, by omega, by omega, fun r g' c' r0 r1 => ⟨r, rfl, by omega, by omega, fun D nD => ?_⟩⟩
    have kb : Keep (J b) H (upd H b (bagO g' s' c')) := Keep.upd rfl
    have nb : D ≠ b := fun z => by rw [z, upd_same] at nD; cases nD
    refine lc_range (lo := 0) (n := r.toNat) (fun i H' => ∃ zs : List Str, zs.length = i ∧ (∀ z ∈ zs, ∃ c ∈ signs.cps.toList, z = ⟨#[c]⟩) ∧ H' D = some (.lst (zs.map V.str)) ∧ BagAt b H' ∧ Keep (J b) H H')
      ⟨[], rfl, fun z hz => (nomatch hz), upd_same, ⟨g', s', c', by rw [upd_ne nb.symm]; exact upd_same⟩, kb.trans (Keep.new nD)⟩ (fun i H' hi q => ?_) (fun H' q => ?_)
    · obtain ⟨zs, hl, hz, hD, ⟨g2, s2, c2, hb2⟩, kk⟩ := q
      have el : (signs.cps.toList.map fun c => V.str ⟨#[c]⟩).length = signs.length := by simp [Str.length]
      have s2k : signs.length ≤ sizeLine := by rw [sizeLine_eq]; omega
      refine ⟨rfl, _, rfl, _, rfl, b, g2, s2, c2, .str signs, _, rfl, hb2, .inr ⟨signs, rfl, s2k, rfl⟩, fun _ _ => .inr ⟨signs, rfl, s2k, rfl⟩, by omega, by omega, fun y g3 c3 hy => ?_⟩
      obtain ⟨ch, hc, rfl⟩ := List.mem_map.mp hy
      have hD2 : upd H' b (bagO g3 s2 c3) D = some (.lst (zs.map V.str)) := by rw [upd_ne nb]; exact hD
      refine ⟨_, hD2, by rw [List.length_map, sizeLine_eq]; omega, zs ++ [⟨#[ch]⟩], by simp [hl], ?_, by rw [upd_same]; simp, ⟨g3, s2, c3, by rw [upd_ne nb.symm]; exact upd_same⟩, ?_⟩
      · intro z hz2
        rcases List.mem_append.mp hz2 with h | h
        · exact hz z h
        · rw [List.mem_singleton.mp h]; exact ⟨ch, hc, rfl⟩
      · intro a o na ha
        have aD : a ≠ D := fun z => by
          rw [z] at ha
          have := kb _ _ nb ha
          rw [nD] at this
          cases this
        rw [upd_ne aD]
        exact (kk.trans (Keep.upd rfl)) a o na ha
    · obtain ⟨zs, hl, hz, hD, hbag, kk⟩ := q
      refine ⟨"", D, zs, rfl, rfl, .inl (SqL.of hD), ?_, k _ H' kk hbag ?_⟩
      · have e1 : (zs.map (·.length)).sum = zs.length := singles_sum zs fun z h => by
          obtain ⟨c, _, rfl⟩ := hz z h
          rfl
        have e2 : ("" : Str).length = 0 := rfl
        rw [e1, e2]
        omega
      · have e : Txt.join "" zs = Str.join "" zs := by simpa using (PyProof.Rows.join_closes (sep := "") (sep' := "") (ys := zs) rfl)
        rw [e]
        obtain ⟨l1, l2⟩ := singles_join (signs := signs) zs hz
        exact ⟨by omega, l2⟩
end
theorem Over.mono {x y : Str} {m : Nat} {z : Str} (h : Over x m z) (s : ∀ c ∈ x.cps.toList, c ∈ y.cps.toList) : Over y m z := ⟨h.1, fun c hc => s c (h.2 c hc)⟩
theorem over_let {x : Str} {m : Nat} {z : Str} (h : Over x m z) (s : ∀ c ∈ x.cps.toList, 97 ≤ c ∧ c ≤ 122) : Let z := fun c hc => s c (h.2 c hc)
end K0
set_option maxRecDepth 100000
set_option maxHeartbeats 1000000
namespace K0
open PySem L2 FM He
/-- a word put at a state -/
def putS (st : List (Nat × Str)) (m : Nat) (u : Str) : List (Nat × Str) := if (st.any fun p => p.1 == m) = true then st.map fun p => if p.1 = m then (p.1, u) else p else st ++ [(m, u)]
theorem putS_ent (st : List (Nat × Str)) (m : Nat) (u : Str) : putK (entW st) (.inl (m : Int)) (.str u) = entW (putS st m u) := by
  have e : ∀ p : Nat × Str, decide ((ent1 p).1 = (.inl (m : Int) : Key)) = (p.1 == m) := fun p => by
    rw [Bool.eq_iff_iff, decide_eq_true_iff, beq_iff_eq]
    show (.inl (p.1 : Int) : Key) = _ ↔ _
    rw [Sum.inl.injEq]
    omega
  have a : ((entW st).any fun kv => decide (kv.1 = (.inl (m : Int) : Key))) = st.any fun p => p.1 == m := by
    unfold entW
    rw [List.any_map]
    exact congrArg (fun f => List.any st f) (funext e)
  unfold putK putS
  rw [a]
  by_cases h : (st.any fun p => p.1 == m) = true
  · rw [if_pos h, if_pos h]
    unfold entW
    rw [List.map_map, List.map_map]
    refine List.map_congr_left fun p _ => ?_
    have ep := e p
    show (if (ent1 p).1 = (.inl (m : Int) : Key) then ((ent1 p).1, V.str u) else ent1 p) = ent1 (if p.1 = m then (p.1, u) else p)
    by_cases hp : p.1 = m
    · have h1 : (ent1 p).1 = (.inl (m : Int) : Key) := of_decide_eq_true (ep.trans (beq_iff_eq.mpr hp))
      rw [if_pos h1, if_pos hp]
      rfl
    · have h1 : ¬ (ent1 p).1 = (.inl (m : Int) : Key) := fun z => hp (beq_iff_eq.mp (ep.symm.trans (decide_eq_true z)))
      rw [if_neg h1, if_neg hp]
  · rw [if_neg h, if_neg h]
    unfold entW
    rw [List.map_append]
    rfl
theorem putS_keys (st : List (Nat × Str)) (m : Nat) (u : Str) : (putS st m u).map (·.1) = if m ∈ st.map (·.1) then st.map (·.1) else st.map (·.1) ++ [m] := by
  have e : (st.any fun p => p.1 == m) = true ↔ m ∈ st.map (·.1) := by
    rw [List.any_eq_true, List.mem_map]
    exact ⟨fun ⟨p, h1, h2⟩ => ⟨p, h1, beq_iff_eq.mp h2⟩, fun ⟨p, h1, h2⟩ => ⟨p, h1, beq_iff_eq.mpr h2⟩⟩
  unfold putS
  by_cases h : (st.any fun p => p.1 == m) = true
  · rw [if_pos h, if_pos (e.mp h), List.map_map]
    refine List.map_congr_left fun p _ => ?_
    show (if p.1 = m then (p.1, u) else p).1 = p.1
    split <;> rfl
  · rw [if_neg h, if_neg fun z => h (e.mpr z), List.map_append]
    rfl
theorem putS_mem {st : List (Nat × Str)} {m : Nat} {u : Str} {p : Nat × Str} (h : p ∈ putS st m u) : p ∈ st ∨ p = (m, u) := by
  unfold putS at h
  split at h
  · obtain ⟨q, hq, e⟩ := List.mem_map.mp h
    by_cases hm : q.1 = m
    · rw [if_pos hm] at e
      exact .inr (by rw [← e, hm])
    · rw [if_neg hm] at e
      exact .inl (e ▸ hq)
  · rcases List.mem_append.mp h with h | h
    · exact .inl h
    · exact .inr (List.mem_singleton.mp h)
theorem TblOk.put {st : List (Nat × Str)} {m : Nat} {u : Str} (ok : TblOk st) (hm : m < 12) (hu : Let u ∧ u.length ≤ 8) : TblOk (putS st m u) := by
  refine ⟨?_, fun p hp => ?_, fun p hp => ?_⟩
  · rw [putS_keys]
    split
    · exact ok.nd
    · exact List.nodup_append.mpr ⟨ok.nd, by simp, fun a ha b hb e => by rw [List.mem_singleton] at hb; subst hb; subst e; exact ‹¬ _› ha⟩
  · rcases putS_mem hp with h | rfl
    · exact ok.few p h
    · exact hm
  · rcases putS_mem hp with h | rfl
    · exact ok.word p h
    · exact hu
theorem tblOk_nil : TblOk [] := ⟨.nil, (fun p h => by cases h), fun p h => by cases h⟩
theorem putS_len (st : List (Nat × Str)) (m : Nat) (u : Str) : (putS st m u).length ≤ st.length + 1 := by
  have := congrArg List.length (putS_keys st m u)
  rw [List.length_map] at this
  rw [this]
  split <;> simp
/-- a plain thing: signs, words before, edges, words after -/
def PlnAt (H : Hp) (p : Addr) (R : RwP) : Prop := ∃ a t b : Addr, H p = some (.tup [.str (sgTxt R.sg), .ref a, .ref t, .ref b]) ∧ H a = some (.dK (entW R.st)) ∧ H b = some (.dK (entW R.en)) ∧ EdAt H t R.ed
theorem PlnAt.same {H H' : Hp} {p : Addr} {R : RwP} (h : PlnAt H p R) (S : Same H H') : PlnAt H' p R := by
  obtain ⟨a, t, b, h1, h2, h3, h4⟩ := h
  exact ⟨a, t, b, S _ _ h1, S _ _ h2, S _ _ h3, h4.same S⟩
theorem PlnAt.keep {H H' : Hp} {p b0 : Addr} {R : RwP} (h : PlnAt H p R) (bag : BagAt b0 H) (S : Keep (J b0) H H') : PlnAt H' p R := by
  obtain ⟨a, t, b, h1, h2, h3, ks, h4, h5, h6⟩ := h
  obtain ⟨g, s, c, hb⟩ := bag
  have ne : ∀ {x : Addr} {o : HO}, H x = some o → (∀ xs, o ≠ .lst xs) → x ≠ b0 := fun {x o} hx n e => by rw [e, hb] at hx; cases hx; exact n _ rfl
  exact ⟨a, t, b, S _ _ (ne h1 fun _ z => by cases z) h1, S _ _ (ne h2 fun _ z => by cases z) h2, S _ _ (ne h3 fun _ z => by cases z) h3, ks, S _ _ (ne h4 fun _ z => by cases z) h4, h5, fun q hq => S _ _ (ne (h6 q hq) fun _ z => by cases z) (h6 q hq)⟩
/-- few states, few edges -/
structure Sml (R : RwP) : Prop where
  ed : ∀ e ∈ R.ed, e.a < 7 ∧ e.b < 7
  n : R.ed.length ≤ 24
  st : ∀ p ∈ R.st, p.1 < 7
  en : ∀ p ∈ R.en, p.1 < 7
  wd : ∀ e ∈ R.ed, Over "ab" 2 e.u
  ws : ∀ p ∈ R.st, Over "ab" 1 p.2
  per : ∀ c, (R.ed.filter fun e => e.c == c).length ≤ 7
/-- a list of edges -/
def EdL (H : Hp) (L : Addr) (es : List Edg) : Prop := ∃ ks : List (Addr × Edg), H L = some (.lst (ks.map fun p => V.ref p.1)) ∧ ks.map (·.2) = es ∧ ∀ p ∈ ks, H p.1 = some (.tup (p.2.row.map kV))
theorem EdL.same {H H' : Hp} {te : Addr} {ed : List Edg} (h : EdL H te ed) (S : Same H H') : EdL H' te ed := by
  obtain ⟨ks, e1, e2, e3⟩ := h
  exact ⟨ks, S _ _ e1, e2, fun p hp => S _ _ (e3 p hp)⟩
theorem EdL.keep {H H' : Hp} {te b : Addr} {ed : List Edg} (h : EdL H te ed) (bag : BagAt b H) (ne : te ≠ b) (S : Keep (J b) H H') : EdL H' te ed := by
  obtain ⟨ks, e1, e2, e3⟩ := h
  obtain ⟨g, s, c, hb⟩ := bag
  exact ⟨ks, S _ _ ne e1, e2, fun p hp => S _ _ (fun z => by have := e3 p hp; rw [z, hb] at this; cases this) (e3 p hp)⟩
/-- one more edge: its tuple at q -/
theorem EdL.push {H : Hp} {L q : Addr} {es : List Edg} {e : Edg} {ks : List (Addr × Edg)} (h1 : H L = some (.lst (ks.map fun p => V.ref p.1))) (h2 : ks.map (·.2) = es) (h3 : ∀ p ∈ ks, H p.1 = some (.tup (p.2.row.map kV))) (hq : H q = some (.tup (e.row.map kV))) :
    EdL (upd H L (.lst ((ks.map fun p => V.ref p.1) ++ [.ref q]))) L (es ++ [e]) := by
  have T : ∀ b xs, H b = some (.tup xs) → upd H L (.lst ((ks.map fun p => V.ref p.1) ++ [.ref q])) b = some (.tup xs) := fun b xs z => by
    rw [upd_ne fun e => by rw [e, h1] at z; cases z]
    exact z
  refine ⟨ks ++ [(q, e)], by rw [upd_same, List.map_append]; rfl, by rw [List.map_append, h2]; rfl, fun p hp => ?_⟩
  rcases List.mem_append.mp hp with hp | hp
  · exact T _ _ (h3 p hp)
  · rw [List.mem_singleton.mp hp]
    exact T _ _ hq
end K0
set_option maxRecDepth 100000
set_option maxHeartbeats 1000000
namespace K0
open PySem L2 FM He
/-- few edges a sign: six, or seven with words of at most one letter -/
def Thn (R : RwP) : Prop := (∀ c, (R.ed.filter fun e => e.c == c).length ≤ 6) ∨ ((∀ c, (R.ed.filter fun e => e.c == c).length ≤ 7) ∧ ∀ e ∈ R.ed, Over "ab" 1 e.u)
end K0
set_option maxRecDepth 100000
set_option maxHeartbeats 1000000
namespace K0
open PySem L2 FM He
section
variable {P : Program} {w : World} {K : PySem.W.Frag} {mg : Str → Option Value} {base : Heap}
theorem sgOk_a : SgOk [97] := ⟨by decide, by decide, by decide, by decide⟩
theorem sgOk_ab : SgOk [97, 98] := ⟨by decide, by decide, by decide, by decide⟩
def spAny (K : PySem.W.Frag) : Sp := fun vs H Q _ => ∃ b : Addr, vs = [.ref b] ∧ BagAt b H ∧ ∀ p H' R, Keep (J b) H H' → BagAt b H' → H p = none → R.Ok → Sml R → Thn R → PlnAt H' p R → Q (.ref p) H'
theorem thrown {b : Addr} {H : Hp} (g s c : Int) : Keep (J b) H (upd H b (bagO g s c)) ∧ BagAt b (upd H b (bagO g s c)) := ⟨Keep.upd rfl, ⟨_, _, _, upd_same⟩⟩
theorem items_sg {H : Hp} {sg : List Nat} (ok : SgOk sg) : ItemsOf K H (.str (sgTxt sg)) (sg.map fun c => V.str ⟨#[c]⟩) ∧ 0 < (sg.map fun c => V.str ⟨#[c]⟩).length ∧ (sg.map fun c => V.str ⟨#[c]⟩).length < 1073741824 := by
  have four := ok.four
  have l : (sgTxt sg).length ≤ sizeLine := by rw [sgTxt_length, sizeLine_eq]; omega
  have n0 : 0 < sg.length := List.length_pos_iff.mpr ok.one
  exact ⟨.inr ⟨_, rfl, l, rfl⟩, by rw [List.length_map]; exact n0, by rw [List.length_map]; omega⟩
theorem ok_law_drawn_any {f : Addr} {fd : FuncData} (F : FnP K "_law_drawn_any" s__law_drawn_any f fd) (T : TP K mg) : FnOk P w K mg base CX0 4 f fd ["_law_bag"] (spAny K) := by
  obtain ⟨d__law_pick, F__law_pick⟩ := T.f__law_pick
  have G__law_pick := ok_law_pick (P := P) (w := w) (base := base) F__law_pick T
  have b__law_pick : Binds K d__law_pick ["_law_bag", "_law_items"] [] := F__law_pick.bindsN fun _ _ _ _ _ _ us hl => match us, hl with | [_, _], _ => rfl
  obtain ⟨d__law_drawn_word, F__law_drawn_word⟩ := T.f__law_drawn_word
  have G__law_drawn_word := ok_law_drawn_word (P := P) (w := w) (base := base) F__law_drawn_word T
  have b__law_drawn_word : Binds K d__law_drawn_word ["_law_bag", "_law_signs", "_law_most"] [] := F__law_drawn_word.bindsN fun _ _ _ _ _ _ us hl => match us, hl with | [_, _, _], _ => rfl
  obtain ⟨d__law_throw, F__law_throw⟩ := T.f__law_throw
  have G__law_throw := ok_law_throw (P := P) (w := w) (base := base) F__law_throw T
  have b__law_throw : Binds K d__law_throw ["_law_bag", "_law_total"] [] := F__law_throw.bindsN fun _ _ _ _ _ _ us hl => match us, hl with | [_, _], _ => rfl
  refine F.ok sc__law_drawn_any (fun vs H Q E h => ?_) (fun cdv A outer s H vs Q E hr h => ?_)
  · obtain ⟨b, rfl, _⟩ := h
    rfl
  · obtain ⟨b, rfl, bag, k⟩ := h
    have nd := sc__law_drawn_any.nd
    have hu64 := hr.units
    have hu1 := Nat.lt_of_le_of_lt (Nat.add_le_add_left (by decide : 1 ≤ 64) _) hu64
    have big : (100000 : Nat) ≤ sizeLine := by decide
    refine ⟨_, PSs.nox (pss_cons (ps_par (i := 1) (j := 2) (by rfl) nd rfl rfl (by decide) rfl rfl (pa_cons (pe_call G__law_pick (hr.mono (by decide)) rfl T.g__law_pick F__law_pick.kp b__law_pick .nil pass0 (pa_cons (pv 0) (pa_cons (pe_lst (pa_cons pe_str (pa_cons pe_str (pa_cons pe_str pa_nil)))) pa_nil))) (pa_cons (pe_op op_add pe_int (pe_call G__law_throw (hr.mono (by decide)) rfl T.g__law_throw F__law_throw.kp b__law_throw .nil pass0 (pa_cons (pv 0) (pa_cons pe_int pa_nil)))) pa_nil)) (by rfl))
      (pss_cons (ps_set (i := 3) nd rfl (.inl rfl) (pe_lst pa_nil))
      (pss_cons (ps_for PassesOwn.never rfl (pi_range1 (by rfl) T.b_range (pa_cons (pe_op op_add pe_int (pe_call G__law_throw (hr.mono (by decide)) rfl T.g__law_throw F__law_throw.kp b__law_throw .nil pass0 (pa_cons (pv 0) (pa_cons pe_int pa_nil)))) pa_nil)) (pg_name (i := 4) nd rfl (.inl rfl)) (pss_cons (ps_par (i := 5) (j := 6) (by rfl) nd rfl rfl (by decide) rfl rfl (pa_cons (pe_call G__law_throw (hr.mono (by decide)) rfl T.g__law_throw F__law_throw.kp b__law_throw .nil pass0 (pa_cons (pv 0) (pa_cons (pv 2) pa_nil))) (pa_cons (pe_call G__law_pick (hr.mono (by decide)) rfl T.g__law_pick F__law_pick.kp b__law_pick .nil pass0 (pa_cons (pv 0) (pa_cons (pv 1) pa_nil))) pa_nil)) (by rfl))
      (pss_cons (ps_set (i := 7) nd rfl (.inl rfl) (pe_call G__law_drawn_word (hr.mono (by decide)) rfl T.g__law_drawn_word F__law_drawn_word.kp b__law_drawn_word .nil pass0 (pa_cons (pv 0) (pa_cons pe_str (pa_cons pe_int pa_nil)))))
      (pss_one (ps_expr (pe_bm PySem.F.plainAttrs_list PySem.F.slot_list_append PySem.F.type_list_append mt_append (pv 3) (pa_cons (pe_tup (pa_cons (pv 5) (pa_cons (pv 6) (pa_cons (pv 7) (pa_cons (pe_call G__law_throw (hr.mono (by decide)) rfl T.g__law_throw F__law_throw.kp b__law_throw .nil pass0 (pa_cons (pv 0) (pa_cons (pv 2) pa_nil))) pa_nil))))) pa_nil)))))))
      (pss_cons (ps_set (i := 8) nd rfl (.inl rfl) pe_dnewK)
      (pss_cons (ps_set (i := 9) nd rfl (.inl rfl) pe_dnewK)
      (pss_cons (ps_for PassesOwn.never rfl (pi_range1 (by rfl) T.b_range (pa_cons (pe_op op_add pe_int (pe_call G__law_throw (hr.mono (by decide)) rfl T.g__law_throw F__law_throw.kp b__law_throw .nil pass0 (pa_cons (pv 0) (pa_cons pe_int pa_nil)))) pa_nil)) (pg_name (i := 4) nd rfl (.inl rfl)) (pss_cons (ps_dput hu1 (pv 8) (pe_call G__law_throw (hr.mono (by decide)) rfl T.g__law_throw F__law_throw.kp b__law_throw .nil pass0 (pa_cons (pv 0) (pa_cons (pv 2) pa_nil))) (pe_call G__law_drawn_word (hr.mono (by decide)) rfl T.g__law_drawn_word F__law_drawn_word.kp b__law_drawn_word .nil pass0 (pa_cons (pv 0) (pa_cons pe_str (pa_cons pe_int pa_nil)))) rfl)
      (pss_one (ps_dput hu1 (pv 9) (pe_call G__law_throw (hr.mono (by decide)) rfl T.g__law_throw F__law_throw.kp b__law_throw .nil pass0 (pa_cons (pv 0) (pa_cons (pv 2) pa_nil))) (pe_call G__law_drawn_word (hr.mono (by decide)) rfl T.g__law_drawn_word F__law_drawn_word.kp b__law_drawn_word .nil pass0 (pa_cons (pv 0) (pa_cons pe_str (pa_cons pe_int pa_nil)))) rfl))))
      (pss_one (ps_ret (pe_tup (pa_cons (pv 1) (pa_cons (pv 8) (pa_cons (pe_callTy call_tuple_of (by rfl) T.b_tuple (by decide +kernel) (pa_cons (pv 3) pa_nil)) (pa_cons (pv 9) pa_nil))))))))))))), ?_⟩
    refine ⟨_, rfl, by show 3 ≤ _; omega, fun L nL => ?_⟩
    have S1 := same_upd (o := .lst [.str "a", .str "ab", .str "ab"]) nL
    have hL : upd H L (.lst [.str "a", .str "ab", .str "ab"]) L = some (.lst [.str "a", .str "ab", .str "ab"]) := upd_same
    have Lb := bag_ne bag nL
    obtain ⟨g, s', c, hb⟩ := bag.same S1
    refine ⟨b, g, s', c, .ref L, _, rfl, hb, .inl ⟨L, rfl, .inl (.of hL)⟩, fun g' c' => .inl ⟨L, rfl, .inl (.of (by rw [upd_ne Lb]; exact hL))⟩, by decide, by decide, fun y g' c' hy => ?_⟩
    have ysg : ∃ sg, SgOk sg ∧ y = .str (sgTxt sg) := by
      rcases List.mem_cons.mp hy with rfl | hy
      · exact ⟨[97], sgOk_a, rfl⟩
      · rcases List.mem_cons.mp hy with rfl | hy
        · exact ⟨[97, 98], sgOk_ab, rfl⟩
        · rw [List.mem_singleton.mp hy]
          exact ⟨[97, 98], sgOk_ab, rfl⟩
    obtain ⟨sg, okS, rfl⟩ := ysg
    have k2 : Keep (J b) H (upd (upd H L (.lst [.str "a", .str "ab", .str "ab"])) b (bagO g' s' c')) := (Keep.of S1).trans (Keep.upd rfl)
    have bag2 : BagAt b (upd (upd H L (.lst [.str "a", .str "ab", .str "ab"])) b (bagO g' s' c')) := ⟨_, _, _, upd_same⟩
    generalize upd (upd H L (.lst [.str "a", .str "ab", .str "ab"])) b (bagO g' s' c') = H2 at k2 bag2 ⊢
    clear S1 hL hb
    obtain ⟨g, s', c, hb⟩ := id bag2
    refine ⟨_, rfl, b, g, s', c, 4, rfl, hb, by decide, by decide, fun rn g' c' rn0 rn1 => ?_⟩
    obtain ⟨k3, bag3⟩ := thrown (b := b) (H := H2) g' s' c'
    have k3 := k2.trans k3
    generalize upd H2 b (bagO g' s' c') = H3 at k3 bag3 ⊢
    refine ⟨_, _, rfl, rfl, _, _, rfl, by show 0 ≤ _; omega, fun L1 nL1 => ?_⟩
    have S4 := same_upd (o := .lst []) nL1

    have Lb := bag_ne bag3 nL1
    have ed0 : EdL (upd H3 L1 (.lst [])) L1 [] := ⟨[], upd_same, rfl, fun p hp => by cases hp⟩
    have fr : ∀ {x : Addr} {H' : Hp}, Keep (J b) H H' → H' x = none → x ≠ b → H x = none := fun {x H'} kk z ne => by
      cases e : H x with
      | none => rfl
      | some o => rw [kk _ _ ne e] at z; cases z
    have nLH := fr k3 nL1 Lb
    have k4 := k3.put (o := .lst []) nLH
    have bag4 := bag3.same S4
    generalize upd H3 L1 (.lst []) = H4 at ed0 k4 bag4 ⊢
    clear S4 k3 bag3 nL1 k2 bag2
    obtain ⟨g, s', c, hb⟩ := id bag4
    refine ⟨_, rfl, b, g, s', c, 7, rfl, hb, by decide, by decide, fun r7 g' c' r0 r1 => ?_⟩
    obtain ⟨k5, bag5⟩ := thrown (b := b) (H := H4) g' s' c'
    have ed5 := ed0.keep bag4 Lb k5
    have k5 := k4.trans k5
    generalize upd H4 b (bagO g' s' c') = H5 at ed5 k5 bag5 ⊢
    refine ⟨_, _, rfl, rfl, ?_⟩
    refine ⟨_, rfl, by omega, by omega, ?_⟩
    refine for_it walk_range (fun i σ H' => ∃ (u4 u5 u6 u7 : Option V) (es : List Edg), σ = [some (.ref b), some (.str (sgTxt sg)), some (.int (1 + rn)), some (.ref L1), u4, u5, u6, u7, none, none] ∧ Keep (J b) H H' ∧ BagAt b H' ∧ EdL H' L1 es ∧ es.length ≤ i ∧ ∀ e ∈ es, (EdgOk sg e ∧ e.a < 4 ∧ e.b < 4) ∧ Over "ab" 1 e.u)
      ⟨_, _, _, _, [], rfl, k5, bag5, ed5, Nat.le_refl _, fun e he => by cases he⟩ (fun _ _ _ _ _ => trivial) ?_ ?_
    · rintro i y σ H6 H6' hi ⟨u4, u5, u6, u7, es, rfl, k6, bag6, ed6, el, eo⟩ ⟨rfl, rfl⟩
      obtain ⟨g, s', c, hb⟩ := id bag6
      refine ⟨_, rfl, _, rfl, b, g, s', c, 1 + rn, rfl, hb, by omega, by omega, fun ra g' c' a0 a1 => ?_⟩
      obtain ⟨ja, rfl⟩ : ∃ j : Nat, ra = j := ⟨ra.toNat, by omega⟩
      obtain ⟨k7, bag7⟩ := thrown (b := b) (H := H6') g' s' c'
      have ed7 := ed6.keep bag6 Lb k7
      have k7 := k6.trans k7
      generalize upd H6' b (bagO g' s' c') = H7 at ed7 k7 bag7 ⊢
      obtain ⟨g, s', c, hb⟩ := id bag7
      obtain ⟨i1, i2, i3⟩ := items_sg (K := K) (H := H7) okS
      refine ⟨_, rfl, _, rfl, b, g, s', c, .str (sgTxt sg), _, rfl, hb, i1, fun _ _ => (items_sg okS).1, i2, i3, fun y g' c' hy => ?_⟩
      obtain ⟨d, hd, rfl⟩ := List.mem_map.mp hy
      obtain ⟨k8, bag8⟩ := thrown (b := b) (H := H7) g' s' c'
      have ed8 := ed7.keep bag7 Lb k8
      have k8 := k7.trans k8
      generalize upd H7 b (bagO g' s' c') = H8 at ed8 k8 bag8 ⊢
      refine ⟨_, _, rfl, ?_⟩
      refine ⟨_, rfl, b, "ab", 1, rfl, bag8, by decide, by decide, by decide, fun z H9 k9 bag9 hz => ?_⟩
      have ed9 := ed8.keep bag8 Lb k9
      have k9 := k8.trans k9
      obtain ⟨ks, e1, e2, e3⟩ := ed9
      refine ⟨_, rfl, .inl ⟨rfl, _, .of e1⟩, ?_⟩
      obtain ⟨g, s', c, hb⟩ := id bag9
      refine ⟨_, rfl, _, rfl, _, rfl, _, rfl, _, rfl, b, g, s', c, 1 + rn, rfl, hb, by omega, by omega, fun rb g' c' b0 b1 => ?_⟩
      obtain ⟨jb, rfl⟩ : ∃ j : Nat, rb = j := ⟨rb.toNat, by omega⟩
      obtain ⟨kA, bagA⟩ := thrown (b := b) (H := H9) g' s' c'
      have edA := EdL.keep ⟨ks, e1, e2, e3⟩ bag9 Lb kA
      have e1A := kA _ _ Lb e1
      have e3A : ∀ p ∈ ks, upd H9 b (bagO g' s' c') p.1 = some (.tup (p.2.row.map kV)) := fun p hp => kA _ _ (fun q => by have := e3 p hp; rw [q, hb] at this; cases this) (e3 p hp)
      have kA := k9.trans kA
      generalize upd H9 b (bagO g' s' c') = HA at edA e1A e3A kA bagA ⊢
      have kl : ks.length ≤ 7 := by
        have := congrArg List.length e2
        rw [List.length_map] at this
        omega
      refine ⟨by show 4 ≤ _; omega, fun q nq => ?_⟩
      have SQ := same_upd (o := .tup [.int (ja : Nat), .str ⟨#[d]⟩, .str z, .int (jb : Nat)]) nq
      have e1B := SQ _ _ e1A
      refine ⟨L1, _, _, rfl, rfl, e1B, by rw [List.length_map]; omega, ?_⟩
      refine ⟨_, _, _, _, es ++ [⟨ja, d, z, jb⟩], rfl, (kA.trans (Keep.of SQ)).put nLH, ?_, EdL.push e1B e2 (fun p hp => SQ _ _ (e3A p hp)) upd_same, by rw [List.length_append]; exact Nat.succ_le_succ el, fun e he => ?_⟩
      · obtain ⟨g, s, c, e⟩ := bagA.same SQ
        exact ⟨g, s, c, by rw [upd_ne Lb.symm]; exact e⟩
      · rcases List.mem_append.mp he with he | he
        · exact eo e he
        · rw [List.mem_singleton.mp he]
          have la : ja < 4 := by omega
          have lb : jb < 4 := by omega
          exact ⟨⟨⟨Nat.lt_of_lt_of_le la (by decide), Nat.lt_of_lt_of_le lb (by decide), hd, over_let hz (by decide), Nat.le_trans hz.1 (by decide)⟩, la, lb⟩, hz⟩
    · rintro σ H6 ⟨u4, u5, u6, u7, es, rfl, k6, bag6, ed6, el, eo⟩
      intro D1 nD1
      have SD := same_upd (o := .dK []) nD1
      have D1b := bag_ne bag6 nD1
      have nD1H := fr k6 nD1 D1b
      have LD1 : L1 ≠ D1 := by
        obtain ⟨ks, e1, _⟩ := ed6
        exact ne_of_none e1 nD1
      have ed7 := ed6.same SD
      have bag7 := bag6.same SD
      have k7 := k6.put (o := .dK []) nD1H
      have hD1 : upd H6 D1 (.dK []) D1 = some (.dK (entW [])) := upd_same
      generalize upd H6 D1 (.dK []) = H7 at SD ed7 bag7 k7 hD1 ⊢
      intro D2 nD2
      have SD2 := same_upd (o := .dK []) nD2
      have D2b := bag_ne bag7 nD2
      have nD2H := fr k7 nD2 D2b
      have D12 : D1 ≠ D2 := ne_of_none hD1 nD2
      have LD2 : L1 ≠ D2 := by
        obtain ⟨ks, e1, _⟩ := ed7
        exact ne_of_none e1 nD2
      have ed8 := ed7.same SD2
      have bag8 := bag7.same SD2
      have k8 := k7.put (o := .dK []) nD2H
      have hD18 := SD2 _ _ hD1
      have hD2 : upd H7 D2 (.dK []) D2 = some (.dK (entW [])) := upd_same
      generalize upd H7 D2 (.dK []) = H8 at ed8 bag8 k8 hD18 hD2 ⊢
      obtain ⟨g, s', c, hb⟩ := id bag8
      refine ⟨_, rfl, b, g, s', c, 2, rfl, hb, by decide, by decide, fun r2 g' c' r20 r21 => ?_⟩
      obtain ⟨k9, bag9⟩ := thrown (b := b) (H := H8) g' s' c'
      have ed9 := ed8.keep bag8 Lb k9
      have hD19 := k9 _ _ D1b hD18
      have hD29 := k9 _ _ D2b hD2
      have k9 := k8.trans k9
      generalize upd H8 b (bagO g' s' c') = H9 at ed9 k9 bag9 hD19 hD29 ⊢
      refine ⟨_, _, rfl, rfl, ?_⟩
      refine ⟨_, rfl, by omega, by omega, ?_⟩
      refine for_it walk_range (fun i σ H' => ∃ (u4 u5 u6 u7 : Option V) (st en : List (Nat × Str)), σ = [some (.ref b), some (.str (sgTxt sg)), some (.int (1 + rn)), some (.ref L1), u4, u5, u6, u7, some (.ref D1), some (.ref D2)] ∧ Keep (J b) H H' ∧ BagAt b H' ∧ EdL H' L1 es ∧ H' D1 = some (.dK (entW st)) ∧ H' D2 = some (.dK (entW en)) ∧ TblOk st ∧ TblOk en ∧ (∀ p ∈ st, p.1 < 7 ∧ Over "ab" 1 p.2) ∧ (∀ p ∈ en, p.1 < 7) ∧ st.length ≤ i ∧ en.length ≤ i)
        ⟨_, _, _, _, [], [], rfl, k9, bag9, ed9, hD19, hD29, tblOk_nil, tblOk_nil, (fun p hp => by cases hp), (fun p hp => by cases hp), Nat.le_refl _, Nat.le_refl _⟩ (fun _ _ _ _ _ => trivial) ?_ ?_
      · rintro i y σ HA HA' hi ⟨u4, u5, u6, u7, st, en, rfl, kA, bagA, edA, hD1A, hD2A, tS, tE, sS, sE, lS, lE⟩ ⟨rfl, rfl⟩
        refine ⟨_, rfl, b, "a", 1, rfl, bagA, by decide, by decide, by decide, fun z HB kB bagB hz => ?_⟩
        have edB := edA.keep bagA Lb kB
        have hD1B := kB _ _ D1b hD1A
        have hD2B := kB _ _ D2b hD2A
        have kB := kA.trans kB
        obtain ⟨g, s', c, hb⟩ := id bagB
        refine ⟨_, rfl, _, rfl, _, rfl, b, g, s', c, 1 + rn, rfl, hb, by omega, by omega, fun ra g' c' a0 a1 => ?_⟩
        obtain ⟨ja, rfl⟩ : ∃ j : Nat, ra = j := ⟨ra.toNat, by omega⟩
        obtain ⟨kC, bagC⟩ := thrown (b := b) (H := HB) g' s' c'
        have edC := edB.keep bagB Lb kC
        have hD1C := kC _ _ D1b hD1B
        have hD2C := kC _ _ D2b hD2B
        have kC := kB.trans kC
        generalize upd HB b (bagO g' s' c') = HC at edC kC bagC hD1C hD2C ⊢
        refine ⟨D1, _, rfl, DPut.k (k := (.inl (ja : Int) : Key)) hD1C (by unfold entW; rw [List.length_map]; omega), ?_⟩
        rw [putS_ent]
        have ja4 : ja < 4 := by omega
        have edD : EdL (upd HC D1 (.dK (entW (putS st ja z)))) L1 es := by
          obtain ⟨ks, e1, e2, e3⟩ := edC
          exact ⟨ks, by rw [upd_ne LD1]; exact e1, e2, fun p hp => by rw [upd_ne fun q => by have := e3 p hp; rw [q, hD1C] at this; cases this]; exact e3 p hp⟩
        have bagD : BagAt b (upd HC D1 (.dK (entW (putS st ja z)))) := by
          obtain ⟨g, s, c, e⟩ := bagC
          exact ⟨g, s, c, by rw [upd_ne D1b.symm]; exact e⟩
        have hD1D : upd HC D1 (.dK (entW (putS st ja z))) D1 = some (.dK (entW (putS st ja z))) := upd_same
        have hD2D : upd HC D1 (.dK (entW (putS st ja z))) D2 = some (.dK (entW en)) := by rw [upd_ne D12.symm]; exact hD2C
        have kD : Keep (J b) H (upd HC D1 (.dK (entW (putS st ja z)))) := kC.put nD1H
        have tS' := TblOk.put tS (m := ja) (u := z) (Nat.lt_of_lt_of_le ja4 (by decide)) ⟨over_let hz (by decide), Nat.le_trans hz.1 (by decide)⟩
        have sS' : ∀ p ∈ putS st ja z, p.1 < 7 ∧ Over "ab" 1 p.2 := fun p hp => by
          rcases putS_mem hp with h | rfl
          · exact sS p h
          · exact ⟨Nat.lt_of_lt_of_le ja4 (by decide), hz.1, fun c hc => (by decide : ∀ c ∈ ("a" : Str).cps.toList, c ∈ ("ab" : Str).cps.toList) c (hz.2 c hc)⟩
        have lS' := Nat.le_trans (putS_len st ja z) (Nat.succ_le_succ lS)
        generalize upd HC D1 (.dK (entW (putS st ja z))) = HD at edD bagD hD1D hD2D kD ⊢
        refine ⟨_, rfl, b, "a", 1, rfl, bagD, by decide, by decide, by decide, fun z2 HE kE bagE hz2 => ?_⟩
        have edE := edD.keep bagD Lb kE
        have hD1E := kE _ _ D1b hD1D
        have hD2E := kE _ _ D2b hD2D
        have kE := kD.trans kE
        obtain ⟨g, s', c, hb⟩ := id bagE
        refine ⟨_, rfl, _, rfl, _, rfl, b, g, s', c, 1 + rn, rfl, hb, by omega, by omega, fun rb g' c' b0 b1 => ?_⟩
        obtain ⟨jb, rfl⟩ : ∃ j : Nat, rb = j := ⟨rb.toNat, by omega⟩
        obtain ⟨kG, bagG⟩ := thrown (b := b) (H := HE) g' s' c'
        have edG := edE.keep bagE Lb kG
        have hD1G := kG _ _ D1b hD1E
        have hD2G := kG _ _ D2b hD2E
        have kG := kE.trans kG
        generalize upd HE b (bagO g' s' c') = HG at edG kG bagG hD1G hD2G ⊢
        have jb4 : jb < 4 := by omega
        refine ⟨D2, _, rfl, DPut.k (k := (.inl (jb : Int) : Key)) hD2G (by unfold entW; rw [List.length_map]; omega), ?_⟩
        rw [putS_ent]
        refine ⟨_, _, _, _, putS st ja z, putS en jb z2, rfl, kG.put nD2H, ?_, ?_, by rw [upd_ne D12]; exact hD1G, upd_same, tS', TblOk.put tE (Nat.lt_of_lt_of_le jb4 (by decide)) ⟨over_let hz2 (by decide), Nat.le_trans hz2.1 (by decide)⟩, sS', fun p hp => ?_, lS', Nat.le_trans (putS_len en jb z2) (Nat.succ_le_succ lE)⟩
        · obtain ⟨g, s, c, e⟩ := bagG
          exact ⟨g, s, c, by rw [upd_ne D2b.symm]; exact e⟩
        · obtain ⟨ks, e1, e2, e3⟩ := edG
          exact ⟨ks, by rw [upd_ne LD2]; exact e1, e2, fun p hp => by rw [upd_ne fun q => by have := e3 p hp; rw [q, hD2G] at this; cases this]; exact e3 p hp⟩
        · rcases putS_mem hp with h | rfl
          · exact sE p h
          · exact Nat.lt_of_lt_of_le jb4 (by decide)
      · rintro σ HA ⟨u4, u5, u6, u7, st, en, rfl, kA, bagA, edA, hD1A, hD2A, tS, tE, sS, sE, lS, lE⟩
        obtain ⟨ks, e1, e2, e3⟩ := edA
        refine ⟨_, rfl, _, rfl, _, rfl, L1, _, rfl, .inl ⟨.of e1, fun t nt => ?_⟩⟩
        have ST := same_upd (o := .tup (ks.map fun p => V.ref p.1)) nt
        have tb := bag_ne bagA nt
        have ntH := fr kA nt tb
        have kT := kA.put (o := .tup (ks.map fun p => V.ref p.1)) ntH
        have hT : upd HA t (.tup (ks.map fun p => V.ref p.1)) t = some (.tup (ks.map fun p => V.ref p.1)) := upd_same
        have bagT := bagA.same ST
        have e3T : ∀ p ∈ ks, upd HA t (.tup (ks.map fun p => V.ref p.1)) p.1 = some (.tup (p.2.row.map kV)) := fun p hp => ST _ _ (e3 p hp)
        have hD1T := ST _ _ hD1A
        have hD2T := ST _ _ hD2A
        generalize upd HA t (.tup (ks.map fun p => V.ref p.1)) = HT at kT hT bagT e3T hD1T hD2T ⊢
        refine ⟨_, rfl, by show 4 ≤ _; omega, fun p np => ?_⟩
        have SP := same_upd (o := .tup [.str (sgTxt sg), .ref D1, .ref t, .ref D2]) np
        have pb := bag_ne bagT np
        have el24 : es.length ≤ 24 := by omega
        have el7 : es.length ≤ 7 := by omega
        exact k p _ ⟨sg, st, es, en⟩ (kT.put (fr kT np pb)) (bagT.same SP) (fr kT np pb) ⟨okS, tS, fun e he => (eo e he).1.1, by show es.length ≤ 63; omega, tE⟩ ⟨fun e he => ⟨Nat.lt_of_lt_of_le (eo e he).1.2.1 (by decide), Nat.lt_of_lt_of_le (eo e he).1.2.2 (by decide)⟩, el24, fun p hp => (sS p hp).1, sE, fun e he => ⟨Nat.le_trans (eo e he).2.1 (by decide), (eo e he).2.2⟩, fun p hp => (sS p hp).2, fun c => Nat.le_trans (List.length_filter_le _ _) el7⟩ (.inr ⟨fun c => Nat.le_trans (List.length_filter_le _ _) el7, fun e he => (eo e he).2⟩)
          ⟨D1, t, D2, upd_same, SP _ _ hD1T, SP _ _ hD2T, ks, SP _ _ hT, e2, fun q hq => SP _ _ (e3T q hq)⟩
end
end K0
set_option maxRecDepth 100000
set_option maxHeartbeats 8000000
namespace K0
open PySem L2 FM He
abbrev EE := (Addr × Edg) × (Addr × Edg)
/-- two edges with one sign, from these states -/
def outPairs (ks ls : List (Addr × Edg)) (p : Nat × Nat) : List EE := (outOf ks p.1).flatMap fun e => ((outOf ls p.2).filter fun f => e.2.c == f.2.c).map fun f => (e, f)
/-- a step at a: the edges, where they lead -/
def StepRow (H : Hp) (a : Addr) (e : EE) : Prop := ∃ t1 t2 : Addr, H a = some (.tup [.ref t1, .ref t2]) ∧ H t1 = some (.tup [.ref e.1.1, .ref e.2.1]) ∧ H t2 = some (.tup ((prK (e.1.2.b, e.2.2.b)).map kV))
/-- an entry: the pair, its steps -/
def StepEnt (H : Hp) (ks ls : List (Addr × Edg)) (kv : List Key × V) (p : Nat × Nat) : Prop := kv.1 = prK p ∧ ∃ (t : Addr) (as : List Addr), kv.2 = .ref t ∧ H t = some (.tup (as.map V.ref)) ∧ Paired (StepRow H) as (outPairs ks ls p)
def StepsD (H : Hp) (D : Addr) (ks ls : List (Addr × Edg)) (ps : List (Nat × Nat)) : Prop := ∃ kvs, H D = some (.dT kvs) ∧ Paired (StepEnt H ks ls) kvs ps
/-- tuples stay -/
def TupS (H H' : Hp) : Prop := ∀ b xs, H b = some (.tup xs) → H' b = some (.tup xs)
theorem StepRow.tups {H H' : Hp} {a : Addr} {e : EE} (h : StepRow H a e) (S : TupS H H') : StepRow H' a e := by
  obtain ⟨t1, t2, a1, a2, a3⟩ := h
  exact ⟨t1, t2, S _ _ a1, S _ _ a2, S _ _ a3⟩
theorem StepEnt.tups {H H' : Hp} {ks ls : List (Addr × Edg)} {kv : List Key × V} {p : Nat × Nat} (h : StepEnt H ks ls kv p) (S : TupS H H') : StepEnt H' ks ls kv p := by
  obtain ⟨e, t, as, a1, a2, a3⟩ := h
  exact ⟨e, t, as, a1, S _ _ a2, paired_mono (fun _ _ h => h.tups S) a3⟩
theorem StepsD.same {H H' : Hp} {D : Addr} {ks ls : List (Addr × Edg)} {ps : List (Nat × Nat)} (h : StepsD H D ks ls ps) (S : Same H H') : StepsD H' D ks ls ps := by
  obtain ⟨kvs, a, b⟩ := h
  exact ⟨kvs, S _ _ a, paired_mono (fun _ _ h => h.tups fun b xs e => S _ _ e) b⟩
theorem ent_keys {H : Hp} {ks ls : List (Addr × Edg)} : ∀ {kvs : List (List Key × V)} {ps : List (Nat × Nat)}, Paired (StepEnt H ks ls) kvs ps → kvs.map (·.1) = ps.map prK
  | _, _, .nil => rfl
  | _, _, .cons h t => by rw [List.map_cons, List.map_cons, h.1, ent_keys t]
theorem StepsD.put {H : Hp} {D t : Addr} {ks ls : List (Addr × Edg)} {ps : List (Nat × Nat)} {p : Nat × Nat} {kvs : List (List Key × V)} {as : List Addr} (hD : H D = some (.dT kvs)) (pr : Paired (StepEnt H ks ls) kvs ps) (np : p ∉ ps)
    (ht : H t = some (.tup (as.map V.ref))) (rows : Paired (StepRow H) as (outPairs ks ls p)) : StepsD (upd H D (.dT (putK kvs (prK p) (.ref t)))) D ks ls (ps ++ [p]) := by
  have S : TupS H (upd H D (.dT (putK kvs (prK p) (.ref t)))) := fun b xs e => by
    rw [upd_ne fun z => by rw [z, hD] at e; cases e]
    exact e
  have out : prK p ∉ kvs.map (·.1) := fun z => by
    rw [ent_keys pr] at z
    obtain ⟨q, hq, e⟩ := List.mem_map.mp z
    exact np (prK_inj e ▸ hq)
  refine ⟨_, upd_same, ?_⟩
  have e := putK_new (V.ref t) (valV_out out)
  have fin : Paired (StepEnt (upd H D (.dT (putK kvs (prK p) (.ref t)))) ks ls) (kvs ++ [(prK p, V.ref t)]) (ps ++ [p]) :=
    paired_snoc (paired_mono (fun _ _ h => h.tups S) pr) ⟨rfl, t, as, rfl, S _ _ ht, paired_mono (fun _ _ h => h.tups S) rows⟩
  rw [← e] at fin
  exact fin
/-- a list of steps -/
def RowsL (H : Hp) (D : Addr) (es : List EE) : Prop := ∃ as : List Addr, H D = some (.lst (as.map V.ref)) ∧ Paired (StepRow H) as es
theorem RowsL.push {H : Hp} {D t1 t2 t3 : Addr} {as : List Addr} {es : List EE} {e : EE} (hD : H D = some (.lst (as.map V.ref))) (pr : Paired (StepRow H) as es) (nt1 : H t1 = none)
    (nt2 : upd H t1 (.tup [.ref e.1.1, .ref e.2.1]) t2 = none) (nt3 : upd (upd H t1 (.tup [.ref e.1.1, .ref e.2.1])) t2 (.tup [.int (e.1.2.b : Int), .int (e.2.2.b : Int)]) t3 = none) :
    RowsL (upd (upd (upd (upd H t1 (.tup [.ref e.1.1, .ref e.2.1])) t2 (.tup [.int (e.1.2.b : Int), .int (e.2.2.b : Int)])) t3 (.tup [.ref t1, .ref t2])) D (.lst (as.map V.ref ++ [.ref t3]))) D (es ++ [e]) := by
  have S1 := same_upd (o := .tup [.ref e.1.1, .ref e.2.1]) nt1
  have S2 := same_upd (o := .tup [.int (e.1.2.b : Int), .int (e.2.2.b : Int)]) nt2
  have S3 := same_upd (o := .tup [.ref t1, .ref t2]) nt3
  have hD3 := S3 _ _ (S2 _ _ (S1 _ _ hD))
  have T : TupS (upd (upd (upd H t1 (.tup [.ref e.1.1, .ref e.2.1])) t2 (.tup [.int (e.1.2.b : Int), .int (e.2.2.b : Int)])) t3 (.tup [.ref t1, .ref t2])) (upd (upd (upd (upd H t1 (.tup [.ref e.1.1, .ref e.2.1])) t2 (.tup [.int (e.1.2.b : Int), .int (e.2.2.b : Int)])) t3 (.tup [.ref t1, .ref t2])) D (.lst (as.map V.ref ++ [.ref t3]))) := fun b xs h => by
    rw [upd_ne fun z => by rw [z, hD3] at h; cases h]
    exact h
  refine ⟨as ++ [t3], by rw [upd_same, List.map_append]; rfl, paired_snoc (paired_mono (fun a f h => ?_) pr) ⟨t1, t2, T _ _ upd_same, T _ _ (S3 _ _ (S2 _ _ upd_same)), T _ _ (S3 _ _ upd_same)⟩⟩
  exact h.tups fun b xs z => T _ _ (S3 _ _ (S2 _ _ (S1 _ _ z)))
end K0
set_option maxRecDepth 100000
set_option maxHeartbeats 2000000
namespace K0
open PySem L2 FM He
abbrev PrA (H : Hp) (a : Addr) (p : Nat × Nat) : Prop := H a = some (.tup ((prK p).map kV))
/-- found, and the row of what is found -/
def FW (H : Hp) (F R : Addr) (row : List (Nat × Nat)) : Prop := ∃ (kvs : List (List Key × V)) (rs : List Addr), H F = some (.dT kvs) ∧ kvs.map (·.1) = row.map prK ∧ H R = some (.lst (rs.map V.ref)) ∧ Paired (PrA H) rs row ∧ row.Nodup
theorem FW.tups {H H' : Hp} {F R : Addr} {row : List (Nat × Nat)} (h : FW H F R row) (S : Same H H') : FW H' F R row := by
  obtain ⟨kvs, rs, a1, a2, a3, a4, a5⟩ := h
  exact ⟨kvs, rs, S _ _ a1, a2, S _ _ a3, paired_mono (fun _ _ h => S _ _ h) a4, a5⟩
theorem FW.push {H : Hp} {F R a : Addr} {row : List (Nat × Nat)} {p : Nat × Nat} {v : V} {kvs : List (List Key × V)} {rs : List Addr} (a1 : H F = some (.dT kvs)) (a2 : kvs.map (·.1) = row.map prK) (a3 : H R = some (.lst (rs.map V.ref))) (a4 : Paired (PrA H) rs row) (a5 : row.Nodup) (np : p ∉ row) (ha : PrA H a p) :
    FW (upd (upd H F (.dT (putK kvs (prK p) v))) R (.lst (rs.map V.ref ++ [.ref a]))) F R (row ++ [p]) := by
  have FR : F ≠ R := fun z => by rw [z, a3] at a1; cases a1
  have out : prK p ∉ kvs.map (·.1) := fun z => by
    rw [a2] at z
    obtain ⟨q, hq, e⟩ := List.mem_map.mp z
    exact np (prK_inj e ▸ hq)
  have T : TupS H (upd (upd H F (.dT (putK kvs (prK p) v))) R (.lst (rs.map V.ref ++ [.ref a]))) := fun b xs h => by
    have z1 : b ≠ R := fun z => by rw [z, a3] at h; cases h
    have z2 : b ≠ F := fun z => by rw [z, a1] at h; cases h
    rw [upd_ne z1, upd_ne z2]
    exact h
  refine ⟨putK kvs (prK p) v, rs ++ [a], by rw [upd_ne FR]; exact upd_same, ?_, by rw [upd_same, List.map_append]; rfl, paired_snoc (paired_mono (fun _ _ h => T _ _ h) a4) (T _ _ ha), ?_⟩
  · rw [putK_new v (valV_out out), List.map_append, List.map_append, a2]
    rfl
  · exact List.nodup_append.mpr ⟨a5, by simp, fun x hx y hy z => np (by rw [List.mem_singleton] at hy; rw [← hy, ← z]; exact hx)⟩
end K0
set_option maxRecDepth 100000
set_option maxHeartbeats 2000000
namespace FM
open PySem L2
theorem keyD_inj : ∀ {a b : List Key}, a.map keyD = b.map keyD → a = b
  | [], [], _ => rfl
  | [], _ :: _, h => by cases h
  | _ :: _, [], h => by cases h
  | x :: a, y :: b, h => by
    rw [List.map_cons, List.map_cons] at h
    injection h with h1 h2
    rw [keyD_inj h2]
    cases x with
    | inl i =>
      cases y with
      | inl j => cases h1; rfl
      | inr j => cases h1
    | inr i =>
      cases y with
      | inl j => cases h1
      | inr j => cases h1; rfl
theorem keysD_inj {a b : List Key} (h : keysD a = keysD b) : a = b := keyD_inj (PyData.tuple.inj h)
theorem KeysAt.same {H H' : Hp} {ks : List (List Key)} {ps : List DP} (h : KeysAt H ks ps) (S : Same H H') : KeysAt H' ks ps := ⟨h.1, fun p hp => let ⟨b, k, e1, e2, e3⟩ := h.2 p hp; ⟨b, k, e1, S _ _ e2, e3⟩⟩
end FM
namespace K0
open PySem L2 FM He
end K0
set_option maxRecDepth 100000
set_option maxHeartbeats 1000000
namespace K0
open PySem L2 FM He
/-- all states are below a number -/
structure Lim (n : Nat) (R : RwP) : Prop where
  ed : ∀ e ∈ R.ed, e.a < n ∧ e.b < n
  st : ∀ p ∈ R.st, p.1 < n
  en : ∀ p ∈ R.en, p.1 < n
  we : ∀ p ∈ R.en, Over "ab" 1 p.2
/-- the marks of the rooms -/
structure Rooms (cp n : Nat) (rs : List Nat) : Prop where
  all : ∀ m < n, m ∈ rs
  lt : ∀ m ∈ rs, m < n
  len : rs.length ≤ cp * n
  sum : ∀ cnt : Nat → Nat, (rs.map cnt).sum ≤ cp * ((List.range n).map cnt).sum
theorem rooms_nil {cp : Nat} : Rooms cp 0 [] := ⟨fun m h => absurd h (Nat.not_lt_zero _), (fun m h => by cases h), Nat.le_refl _, fun _ => Nat.zero_le _⟩
theorem sum_rep (c n : Nat) : (List.replicate n c).sum = n * c := by
  induction n with
  | zero => simp
  | succ n ih => rw [List.replicate_succ, List.sum_cons, ih, Nat.succ_mul, Nat.add_comm]
theorem Rooms.next {cp n k : Nat} {rs : List Nat} (r : Rooms cp n rs) (k1 : 1 ≤ k) (k2 : k ≤ cp) : Rooms cp (n + 1) (rs ++ List.replicate k n) := by
  have len := r.len
  refine ⟨fun m hm => ?_, fun m hm => ?_, by rw [List.length_append, List.length_replicate, Nat.mul_succ]; omega, fun cnt => ?_⟩
  · rcases Nat.lt_or_ge m n with h | h
    · exact List.mem_append_left _ (r.all m h)
    · rw [show m = n by omega]
      exact List.mem_append_right _ (List.mem_replicate.mpr ⟨by omega, rfl⟩)
  · rcases List.mem_append.mp hm with h | h
    · exact Nat.lt_succ_of_lt (r.lt m h)
    · rw [(List.mem_replicate.mp h).2]
      exact Nat.lt_succ_self _
  · rw [List.map_append, List.sum_append, List.map_replicate, sum_rep, List.range_succ, List.map_append, List.sum_append, List.map_cons, List.map_nil, List.sum_cons, List.sum_nil, Nat.add_zero, Nat.mul_add]
    have := Nat.mul_le_mul_right (cnt n) k2
    have sum := r.sum cnt
    omega
/-- the rooms of a mark, among the first j -/
def lotOf (rs : List Nat) (j m : Nat) : List Nat := (List.range j).filter fun k => rs[k]? == some m
theorem lot_next {rs : List Nat} {j m : Nat} (h : rs[j]? = some m) (m' : Nat) : lotOf rs (j + 1) m' = lotOf rs j m' ++ if m' = m then [j] else [] := by
  unfold lotOf
  rw [List.range_succ, List.filter_append]
  congr 1
  by_cases e : m' = m
  · subst e
    rw [if_pos rfl]
    simp [h]
  · rw [if_neg e]
    simp [h, Ne.symm e]
theorem lot_mem {rs : List Nat} {j m k : Nat} : k ∈ lotOf rs j m ↔ k < j ∧ rs[k]? = some m := by
  unfold lotOf
  rw [List.mem_filter, List.mem_range, beq_iff_eq]
theorem lot_len (rs : List Nat) (j m : Nat) : (lotOf rs j m).length ≤ j := by
  have := List.length_filter_le (fun k => rs[k]? == some m) (List.range j)
  rwa [List.length_range] at this
/-- how many slots lead to a mark -/
def cntOf (es : List ((Nat × Nat) × Nat)) (m : Nat) : Nat := (es.filter fun e => e.2 == m).length
theorem cnt_sum (es : List ((Nat × Nat) × Nat)) : ∀ n, ((List.range n).map (cntOf es)).sum ≤ es.length := fun n => by
  have go : ∀ n, ((List.range n).map (cntOf es)).sum = (es.filter fun e => decide (e.2 < n)).length := fun n => by
    induction n with
    | zero =>
      rw [List.filter_eq_nil_iff.mpr fun e _ => by simp]
      rfl
    | succ n ih =>
      rw [List.range_succ, List.map_append, List.sum_append, ih, List.map_cons, List.map_nil, List.sum_cons, List.sum_nil]
      unfold cntOf
      clear ih
      induction es with
      | nil => rfl
      | cons e es ih =>
        rw [List.filter_cons, List.filter_cons, List.filter_cons]
        by_cases h1 : e.2 < n
        · have h2 : (e.2 == n) = false := beq_false_of_ne (by omega)
          have h3 : decide (e.2 < n) = true := decide_eq_true h1
          have h4 : decide (e.2 < n + 1) = true := decide_eq_true (by omega)
          rw [h2, h3, h4]
          simp only [if_true, Bool.false_eq_true, if_false, List.length_cons]
          omega
        · have h3 : decide (e.2 < n) = false := decide_eq_false h1
          by_cases h2 : e.2 = n
          · have h5 : (e.2 == n) = true := beq_iff_eq.mpr h2
            have h4 : decide (e.2 < n + 1) = true := decide_eq_true (by omega)
            rw [h5, h3, h4]
            simp only [if_true, Bool.false_eq_true, if_false, List.length_cons]
            omega
          · have h5 : (e.2 == n) = false := beq_false_of_ne h2
            have h4 : decide (e.2 < n + 1) = false := decide_eq_false (by omega)
            rw [h5, h3, h4]
            simp only [Bool.false_eq_true, if_false]
            omega
  rw [go]
  exact List.length_filter_le _ _
/-- the slot leads to the mark -/
def hitOf (es : List ((Nat × Nat) × Nat)) (m : Nat) (s : Nat × Nat) : Bool := es.any fun e => e.1 == s && e.2 == m
theorem hit_val {es : List ((Nat × Nat) × Nat)} (nd : (es.map (·.1)).Nodup) {s : Nat × Nat} {v m : Nat} (h : (s, v) ∈ es) : hitOf es m s = (v == m) := by
  rw [Bool.eq_iff_iff]
  unfold hitOf
  rw [List.any_eq_true, beq_iff_eq]
  constructor
  · rintro ⟨e, he, z⟩
    rw [Bool.and_eq_true, beq_iff_eq, beq_iff_eq] at z
    obtain ⟨i, hi, ei⟩ := List.mem_iff_getElem.mp he
    obtain ⟨j, hj, ej⟩ := List.mem_iff_getElem.mp h
    have : i = j := by
      have h1 : (es.map (·.1))[i]'(by rw [List.length_map]; exact hi) = (es.map (·.1))[j]'(by rw [List.length_map]; exact hj) := by
        rw [List.getElem_map, List.getElem_map, ei, ej]
        exact z.1
      exact (List.getElem_inj nd).mp h1
    subst this
    rw [ei] at ej
    rw [← z.2, ej]
  · rintro rfl
    exact ⟨_, h, by simp⟩
theorem hit_len {es : List ((Nat × Nat) × Nat)} (nd : (es.map (·.1)).Nodup) {sl : List (Nat × Nat)} (ns : sl.Nodup) (m : Nat) : (sl.filter (hitOf es m)).length ≤ cntOf es m := by
  unfold cntOf
  rw [← List.length_map (f := fun e : (Nat × Nat) × Nat => e.1)]
  have n2 : (sl.filter (hitOf es m)).Nodup := ns.filter _
  refine n2.length_le_of_subset fun s hs => ?_
  obtain ⟨_, h⟩ := List.mem_filter.mp hs
  unfold hitOf at h
  obtain ⟨e, he, z⟩ := List.any_eq_true.mp h
  rw [Bool.and_eq_true, beq_iff_eq, beq_iff_eq] at z
  exact List.mem_map.mpr ⟨e, List.mem_filter.mpr ⟨he, by simp [z.2]⟩, z.1⟩
/-- how many edges have a sign -/
def perC (c : Nat) (es : List Edg) : Nat := (es.filter fun e => e.c == c).length
def onC (es : List ((Nat × Nat) × Nat)) (c : Nat) : List ((Nat × Nat) × Nat) := es.filter fun e => e.1.1 == c
theorem hit_on (es : List ((Nat × Nat) × Nat)) (c m : Nat) (s : Nat × Nat) : hitOf (onC es c) m s = (s.1 == c && hitOf es m s) := by
  rw [Bool.eq_iff_iff, Bool.and_eq_true, beq_iff_eq]
  unfold hitOf onC
  rw [List.any_eq_true, List.any_eq_true]
  constructor
  · rintro ⟨e, he, z⟩
    obtain ⟨h1, h2⟩ := List.mem_filter.mp he
    rw [Bool.and_eq_true, beq_iff_eq] at z
    rw [beq_iff_eq] at h2
    exact ⟨by rw [← z.1]; exact h2, e, h1, by rw [Bool.and_eq_true, beq_iff_eq]; exact z⟩
  · rintro ⟨h1, e, he, z⟩
    refine ⟨e, List.mem_filter.mpr ⟨he, ?_⟩, z⟩
    rw [Bool.and_eq_true, beq_iff_eq] at z
    rw [z.1, h1]
    exact beq_self_eq_true c
theorem onC_nd {es : List ((Nat × Nat) × Nat)} (nd : (es.map (·.1)).Nodup) (c : Nat) : ((onC es c).map (·.1)).Nodup := nd.sublist (List.filter_sublist.map _)
theorem onC_len {es : List ((Nat × Nat) × Nat)} (nd : (es.map (·.1)).Nodup) {n : Nat} (lt : ∀ e ∈ es, e.1.2 < n) (c : Nat) : (onC es c).length ≤ n := by
  have h := (onC_nd nd c).length_le_of_subset (l₂ := (List.range n).map fun m => (c, m)) fun s hs => by
    obtain ⟨e, he, rfl⟩ := List.mem_map.mp hs
    obtain ⟨h1, h2⟩ := List.mem_filter.mp he
    rw [beq_iff_eq] at h2
    exact List.mem_map.mpr ⟨e.1.2, List.mem_range.mpr (lt e h1), by rw [← h2]⟩
  rwa [List.length_map, List.length_map, List.length_range] at h
theorem perC_push (c : Nat) (es : List Edg) (e : Edg) : perC c (es ++ [e]) = perC c es + if e.c = c then 1 else 0 := by
  unfold perC
  rw [List.filter_append, List.length_append]
  congr 1
  by_cases h : e.c = c
  · simp [h]
  · simp [h]
/-- the lots: lists of rooms -/
structure LotsAt (H : Hp) (L : Addr) (As : List Addr) (rs : List Nat) (j : Nat) : Prop where
  at_ : H L = some (.lst (As.map V.ref))
  nd : As.Nodup
  lot : ∀ m a, As[m]? = some a → H a = some (.lst ((lotOf rs j m).map fun (k : Nat) => V.int (k : Nat)))
theorem LotsAt.same {H H' : Hp} {L : Addr} {As : List Addr} {rs : List Nat} {j : Nat} (h : LotsAt H L As rs j) (S : Same H H') : LotsAt H' L As rs j := ⟨S _ _ h.at_, h.nd, fun m a ha => S _ _ (h.lot m a ha)⟩
theorem LotsAt.next {H : Hp} {L : Addr} {As : List Addr} {rs : List Nat} {j m : Nat} {a : Addr} (h : LotsAt H L As rs j) (ha : As[m]? = some a) (hm : rs[j]? = some m) (ne : L ∉ As) :
    LotsAt (upd H a (.lst (((lotOf rs j m).map fun (k : Nat) => V.int (k : Nat)) ++ [.int (j : Nat)]))) L As rs (j + 1) := by
  refine ⟨?_, h.nd, fun m' a' ha' => ?_⟩
  · rw [upd_ne fun z => ne (by rw [z]; exact List.mem_of_getElem? ha)]
    exact h.at_
  · rw [lot_next hm]
    by_cases e : m' = m
    · subst e
      obtain rfl : a' = a := Option.some.inj (ha'.symm.trans ha)
      rw [upd_same, if_pos rfl, List.map_append]
      rfl
    · rw [if_neg e, List.append_nil]
      have : a' ≠ a := fun z => by
        subst z
        obtain ⟨h1, e1⟩ := List.getElem?_eq_some_iff.mp ha
        obtain ⟨h2, e2⟩ := List.getElem?_eq_some_iff.mp ha'
        exact e ((List.getElem_inj h.nd).mp (e2.trans e1.symm))
      rw [upd_ne this]
      exact h.lot m' a' ha'
/-- all but what is at a or at b stays -/
abbrev J2 (b x : Addr) : Addr → Prop := fun a => a = b ∨ a = x
theorem keep_far {b x : Addr} {H H1 H' : Hp} (k : Keep (J b) H H1) (n : H x = none) (k2 : Keep (J2 b x) H1 H') : Keep (J b) H H' := fun a o na h => k2 a o (fun z => z.elim na fun e => by rw [e, n] at h; cases h) (k a o na h)
theorem slots_read {H : Hp} : ∀ L : List DP, (∀ r ∈ L, ∃ (b : Addr) (s : Nat × Nat), r = (V.ref b, keysD (FM.kp s.1 s.2)) ∧ SlotAt H b s) →
    ∃ (qs : List Addr) (sl : List (Nat × Nat)), L.map (·.1) = qs.map V.ref ∧ Paired (SlotAt H) qs sl ∧ L.map (·.2) = sl.map fun s => keysD (FM.kp s.1 s.2)
  | [], _ => ⟨[], [], rfl, .nil, rfl⟩
  | r :: L, h => by
    obtain ⟨b, p, rfl, hb⟩ := h r List.mem_cons_self
    obtain ⟨qs, row, e1, e2, e3⟩ := slots_read L fun x hx => h x (List.mem_cons_of_mem _ hx)
    exact ⟨b :: qs, p :: row, by rw [List.map_cons, List.map_cons, e1], .cons hb e2, by rw [List.map_cons, List.map_cons, e3]⟩
/-- the slots, sorted -/
theorem sort_slots {H : Hp} {es : List ((Nat × Nat) × Nat)} {ps : List DP} (KA : KeysAt H ((es.map entD).map (·.1)) ps) (nd : (es.map (·.1)).Nodup) :
    ∃ (qs : List Addr) (sl : List (Nat × Nat)), (byData ps).map (·.1) = qs.map V.ref ∧ Paired (SlotAt H) qs sl ∧ sl.Nodup ∧ (∀ s ∈ sl, ∃ v, (s, v) ∈ es) ∧ ∀ e ∈ es, e.1 ∈ sl := by
  have pm := byData_perm ps
  have snd : ps.map (·.2) = (es.map (·.1)).map fun s => keysD (FM.kp s.1 s.2) := by rw [KA.1, List.map_map, List.map_map, List.map_map]; rfl
  obtain ⟨qs, sl, e1, e2, e3⟩ := slots_read (H := H) (byData ps) fun r hr => by
    have hr := pm.mem_iff.mp hr
    obtain ⟨b, k, h1, h2, h3⟩ := KA.2 r hr
    have : r.2 ∈ ps.map (·.2) := List.mem_map.mpr ⟨r, hr, rfl⟩
    rw [snd] at this
    obtain ⟨s, _, hs⟩ := List.mem_map.mp this
    have ek : k = FM.kp s.1 s.2 := keysD_inj (h3.symm.trans hs.symm)
    exact ⟨b, s, Prod.ext h1 hs.symm, by show H b = _; rw [h2, ek]; rfl⟩
  have inj : ∀ {s t : Nat × Nat}, keysD (FM.kp s.1 s.2) = keysD (FM.kp t.1 t.2) → s = t := fun {s t} h => by
    obtain ⟨a, b⟩ := kp_inj (keysD_inj h)
    exact Prod.ext a b
  have pm2 : (sl.map fun s => keysD (FM.kp s.1 s.2)).Perm ((es.map (·.1)).map fun s => keysD (FM.kp s.1 s.2)) := by
    rw [← e3, ← snd]
    exact pm.map _
  have nd1 : ((es.map (·.1)).map fun s => keysD (FM.kp s.1 s.2)).Nodup := by
    unfold List.Nodup
    rw [List.pairwise_map]
    exact nd.imp fun ne e => ne (inj e)
  have nd2 := pm2.nodup_iff.mpr nd1
  refine ⟨qs, sl, e1, e2, ?_, fun s hs => ?_, fun e he => ?_⟩
  · unfold List.Nodup at nd2
    rw [List.pairwise_map] at nd2
    exact nd2.imp fun ne e => ne (by rw [e])
  · obtain ⟨t, ht, e⟩ := List.mem_map.mp (pm2.mem_iff.mp (List.mem_map.mpr ⟨s, hs, rfl⟩))
    obtain ⟨x, hx, rfl⟩ := List.mem_map.mp ht
    exact ⟨x.2, by rw [← inj e]; exact hx⟩
  · obtain ⟨t, ht, q⟩ := List.mem_map.mp (pm2.mem_iff.mpr (List.mem_map.mpr ⟨e.1, List.mem_map.mpr ⟨e, he, rfl⟩, rfl⟩))
    rw [← inj q]
    exact ht
end K0
set_option maxRecDepth 100000
set_option maxHeartbeats 1000000
namespace K0
open PySem L2 FM He
section
variable {P : Program} {w : World} {K : PySem.W.Frag} {mg : Str → Option Value} {base : Heap}
def spGss (K : PySem.W.Frag) : Sp := fun vs H Q _ => ∃ (b : Addr) (sg : List Nat) (n : Int) (cp : Nat), vs = [.ref b, .str (sgTxt sg), .int n, .int (cp : Nat), .int 2] ∧ SgOk sg ∧ 1 ≤ n ∧ n ≤ 3 ∧ 1 ≤ cp ∧ cp ≤ 3 ∧ cp * n.toNat ≤ 6 ∧ BagAt b H ∧
  ∀ p H' R, Keep (J b) H H' → BagAt b H' → H p = none → R.Ok → Sml R → Thn R → R.ed ≠ [] → Lim (cp * n.toNat) R → R.ed.length ≤ cp * (n.toNat * sg.length) → PlnAt H' p R → Q (.ref p) H'
theorem ok_law_guesser {f : Addr} {fd : FuncData} (F : FnP K "_law_guesser" s__law_guesser f fd) (T : TP K mg) : FnOk P w K mg base CX0 4 f fd ["_law_bag", "_law_signs", "_law_size", "_law_copies", "_law_most"] (spGss K) := by
  have b_enumerate := T.b_enumerate
  obtain ⟨d__law_drawn_turns, F__law_drawn_turns⟩ := T.f__law_drawn_turns
  have G__law_drawn_turns := ok_law_drawn_turns (P := P) (w := w) (base := base) F__law_drawn_turns T
  have b__law_drawn_turns : Binds K d__law_drawn_turns ["_law_bag", "_law_signs", "_law_size"] [] := F__law_drawn_turns.bindsN fun _ _ _ _ _ _ us hl => match us, hl with | [_, _, _], _ => rfl
  obtain ⟨d__law_drawn_word, F__law_drawn_word⟩ := T.f__law_drawn_word
  have G__law_drawn_word := ok_law_drawn_word (P := P) (w := w) (base := base) F__law_drawn_word T
  have b__law_drawn_word : Binds K d__law_drawn_word ["_law_bag", "_law_signs", "_law_most"] [] := F__law_drawn_word.bindsN fun _ _ _ _ _ _ us hl => match us, hl with | [_, _, _], _ => rfl
  obtain ⟨d__law_throw, F__law_throw⟩ := T.f__law_throw
  have G__law_throw := ok_law_throw (P := P) (w := w) (base := base) F__law_throw T
  have b__law_throw : Binds K d__law_throw ["_law_bag", "_law_total"] [] := F__law_throw.bindsN fun _ _ _ _ _ _ us hl => match us, hl with | [_, _], _ => rfl
  obtain ⟨d__law_pick, F__law_pick⟩ := T.f__law_pick
  have G__law_pick := ok_law_pick (P := P) (w := w) (base := base) F__law_pick T
  have b__law_pick : Binds K d__law_pick ["_law_bag", "_law_items"] [] := F__law_pick.bindsN fun _ _ _ _ _ _ us hl => match us, hl with | [_, _], _ => rfl
  refine F.ok sc__law_guesser (fun vs H Q E h => ?_) (fun cdv A outer s H vs Q E hr h => ?_)
  · obtain ⟨b, sg, n, cp, rfl, _⟩ := h
    rfl
  · obtain ⟨b, sg, n, cp, rfl, okS, n1, n3, cp1, cp3, cn6, bag, k⟩ := h
    obtain ⟨n, rfl⟩ : ∃ j : Nat, n = j := ⟨n.toNat, by omega⟩
    rw [Int.toNat_natCast] at cn6
    have cn : ∀ {i}, i ≤ n → cp * i ≤ 6 := fun h => Nat.le_trans (Nat.mul_le_mul_left _ h) cn6
    have lt7 : ∀ {x : Nat}, x < cp * n → x < 7 := fun h => Nat.lt_of_lt_of_le h (Nat.le_trans cn6 (by decide))
    have nd := sc__law_guesser.nd
    have hu64 := hr.units
    have hu1 := Nat.lt_of_le_of_lt (Nat.add_le_add_left (by decide : 1 ≤ 64) _) hu64
    have big : (100000 : Nat) ≤ sizeLine := by decide
    have fr : ∀ {x : Addr} {H' : Hp}, Keep (J b) H H' → H' x = none → x ≠ b → H x = none := fun {x H'} kk z ne => by
      cases e : H x with
      | none => rfl
      | some o => rw [kk _ _ ne e] at z; cases z
    have four := okS.four
    refine ⟨_, PSs.nox (pss_cons (ps_par (i := 5) (j := 6) (by rfl) nd rfl rfl (by decide) rfl rfl (pa_cons (pe_call G__law_drawn_turns (hr.mono (by decide)) rfl T.g__law_drawn_turns F__law_drawn_turns.kp b__law_drawn_turns .nil pass0 (pa_cons (pv 0) (pa_cons (pv 1) (pa_cons (pv 2) pa_nil)))) (pa_cons (pe_lst pa_nil) pa_nil)) (by rfl))
      (pss_cons (ps_set (i := 7) nd rfl (.inl rfl) (pe_lst pa_nil))
      (pss_cons (ps_for PassesOwn.never rfl (pi_range1 (by rfl) T.b_range (pa_cons (pv 2) pa_nil)) (pg_name (i := 8) nd rfl (.inl rfl)) (pss_one (ps_set (i := 6) nd rfl (.inl rfl) (pe_op op_cat (pv 6) (pe_op op_rep (pe_lst (pa_cons (pv 8) pa_nil)) (pe_op op_add pe_int (pe_call G__law_throw (hr.mono (by decide)) rfl T.g__law_throw F__law_throw.kp b__law_throw .nil pass0 (pa_cons (pv 0) (pa_cons (pv 3) pa_nil)))))))))
      (pss_cons (ps_setLc (i := 9) (own := [("_law_mark", 8)]) rfl nd rfl rfl (sw_true rfl rfl rfl (by decide +kernel)) (pi_range1 (by rfl) T.b_range (pa_cons (pv 2) pa_nil)) (blkOk_by (own := [("_law_mark", 8)]) (N := ["_law_bag", "_law_signs", "_law_size", "_law_copies", "_law_most", "_law_turns", "_law_rooms", "_law_edges", "_law_mark", "_law_lots", "_law_room", "_law_sign", "_law_other", "_law_word", "_law_first", "_law_last", "_law_lot"]) (sc := defScope s__law_guesser) (by decide +kernel)) (fun _ _ _ _ _ => (pg_name (i := 8) nd rfl (.inl rfl))) (fun _ _ _ _ _ => pts_nil) (fun _ _ _ _ _ => (pe_lst pa_nil)))
      (pss_cons (ps_for PassesOwn.never rfl (pi_enum (by rfl) b_enumerate (pa_cons (pv 6) pa_nil)) (pg_tup (by rfl) (pgs_cons (pg_name (i := 10) nd rfl (.inl rfl)) (pgs_cons (pg_name (i := 8) nd rfl (.inl rfl)) pgs_nil))) (pss_one (ps_expr (pe_bm PySem.F.plainAttrs_list PySem.F.slot_list_append PySem.F.type_list_append mt_append (pe_ix ix_seq (pv 9) (pv 8) (fun _ _ => rfl)) (pa_cons (pv 10) pa_nil)))))
      (pss_cons (ps_for PassesOwn.never rfl (pi_enum (by rfl) b_enumerate (pa_cons (pv 6) pa_nil)) (pg_tup (by rfl) (pgs_cons (pg_name (i := 10) nd rfl (.inl rfl)) (pgs_cons (pg_name (i := 8) nd rfl (.inl rfl)) pgs_nil))) (pss_one (ps_for PassesOwn.never rfl (pi_list (pe_callB (cr_sortDT rfl hu64) (by rfl) T.b_sorted (by decide +kernel) (pa_cons (pv 5) pa_nil))) (pg_tup (by rfl) (pgs_cons (pg_name (i := 11) nd rfl (.inl rfl)) (pgs_cons (pg_name (i := 12) nd rfl (.inl rfl)) pgs_nil))) (pss_one (ps_if (pt_cmpR op_eq (pe_dget hu1 (pv 5) (pe_tup (pa_cons (pv 11) (pa_cons (pv 12) pa_nil))) (fun _ _ => rfl)) (pv 8) (nomark _)) (pss_cons (ps_set (i := 13) nd rfl (.inl rfl) (pe_call G__law_drawn_word (hr.mono (by decide)) rfl T.g__law_drawn_word F__law_drawn_word.kp b__law_drawn_word .nil pass0 (pa_cons (pv 0) (pa_cons pe_str (pa_cons (pv 4) pa_nil)))))
      (pss_one (ps_expr (pe_bm PySem.F.plainAttrs_list PySem.F.slot_list_append PySem.F.type_list_append mt_append (pv 7) (pa_cons (pe_tup (pa_cons (pv 10) (pa_cons (pv 11) (pa_cons (pv 13) (pa_cons (pe_call G__law_pick (hr.mono (by decide)) rfl T.g__law_pick F__law_pick.kp b__law_pick .nil pass0 (pa_cons (pv 0) (pa_cons (pe_ix ix_seq (pv 9) (pv 12) (fun _ _ => rfl)) pa_nil))) pa_nil))))) pa_nil))))) pss_nil)))))
      (pss_cons (ps_set (i := 14) nd rfl (.inl rfl) pe_dnewK)
      (pss_cons (ps_set (i := 15) nd rfl (.inl rfl) pe_dnewK)
      (pss_cons (ps_for PassesOwn.never rfl (pi_list (pv 9)) (pg_name (i := 16) nd rfl (.inl rfl)) (pss_one (ps_if (pt_cmpR op_gt (pe_call G__law_throw (hr.mono (by decide)) rfl T.g__law_throw F__law_throw.kp b__law_throw .nil pass0 (pa_cons (pv 0) (pa_cons pe_int pa_nil))) pe_int (nomark _)) (pss_one (ps_dput hu1 (pv 14) (pe_ix ix_seq (pv 16) pe_int (fun _ _ => rfl)) (pe_call G__law_drawn_word (hr.mono (by decide)) rfl T.g__law_drawn_word F__law_drawn_word.kp b__law_drawn_word .nil pass0 (pa_cons (pv 0) (pa_cons pe_str (pa_cons (pe_op op_sub (pv 4) pe_int) pa_nil)))) rfl)) pss_nil)))
      (pss_cons (ps_for PassesOwn.never rfl (pi_list (pe_ix ix_seq (pv 9) pe_int (fun _ _ => rfl))) (pg_name (i := 10) nd rfl (.inl rfl)) (pss_one (ps_dput hu1 (pv 15) (pv 10) (pe_call G__law_drawn_word (hr.mono (by decide)) rfl T.g__law_drawn_word F__law_drawn_word.kp b__law_drawn_word .nil pass0 (pa_cons (pv 0) (pa_cons pe_str (pa_cons (pe_op op_sub (pv 4) pe_int) pa_nil)))) rfl)))
      (pss_one (ps_ret (pe_tup (pa_cons (pv 1) (pa_cons (pv 14) (pa_cons (pe_callTy call_tuple_of (by rfl) T.b_tuple (by decide +kernel) (pa_cons (pv 7) pa_nil)) (pa_cons (pv 15) pa_nil))))))))))))))))), ?_⟩
    -- turns, rooms
    refine ⟨_, rfl, _, rfl, _, rfl, b, sg, n, rfl, okS, by omega, by omega, bag, fun D H1 es dr k1 bag1 nD hD => ?_⟩
    have Db : D ≠ b := fun z => by
      obtain ⟨g, s, c, hb⟩ := bag1
      rw [z, hb] at hD
      cases hD
    have esn : es.length ≤ n * sg.length := by
      have h1 : (es.map (·.1)).length ≤ (slotsOf sg n).length := dr.nd.length_le_of_subset fun s hs => by
        obtain ⟨e, he, rfl⟩ := List.mem_map.mp hs
        obtain ⟨a1, a2, _⟩ := dr.ok e he
        exact slots_mem.mpr ⟨a1, a2⟩
      rwa [List.length_map, slots_len] at h1
    have esl : es.length ≤ 12 := by
      have h1 : (es.map (·.1)).length ≤ (slotsOf sg n).length := dr.nd.length_le_of_subset fun s hs => by
        obtain ⟨e, he, rfl⟩ := List.mem_map.mp hs
        obtain ⟨a1, a2, _⟩ := dr.ok e he
        exact slots_mem.mpr ⟨a1, a2⟩
      rw [List.length_map, slots_len] at h1
      have : n * sg.length ≤ 3 * 4 := Nat.mul_le_mul (by omega) four
      omega
    refine ⟨by show 0 ≤ _; omega, fun R0 nR0 => ?_⟩
    have R0b := bag_ne bag1 nR0
    have k2 := k1.put (o := .lst []) (fr k1 nR0 R0b)
    have S2 := same_upd (o := .lst []) nR0
    have bag2 := bag1.same S2
    have hD2 := S2 _ _ hD
    have hR2 : upd H1 R0 (.lst []) R0 = some (.lst (([] : List Nat).map fun (m : Nat) => V.int (m : Nat))) := upd_same
    generalize upd H1 R0 (.lst []) = H2 at k2 bag2 hD2 hR2 ⊢
    refine ⟨_, _, rfl, by show 0 ≤ _; omega, fun L nL => ?_⟩
    have Lb := bag_ne bag2 nL
    have nLH := fr k2 nL Lb
    have k3 := k2.put (o := .lst []) nLH
    have S3 := same_upd (o := .lst []) nL
    have bag3 := bag2.same S3
    have hD3 := S3 _ _ hD2
    have hR3 := S3 _ _ hR2
    have RL : R0 ≠ L := ne_of_none hR2 nL
    have hL3 : upd H2 L (.lst []) L = some (.lst []) := upd_same
    generalize upd H2 L (.lst []) = H3 at k3 bag3 hD3 hR3 hL3 ⊢
    clear S2 S3 nR0 nL
    refine ⟨_, rfl, _, rfl, by omega, by omega, ?_⟩
    refine for_it walk_range (fun i σ H' => ∃ (u8 : Option V) (RM : Addr) (rs : List Nat), σ = [some (.ref b), some (.str (sgTxt sg)), some (.int (n : Nat)), some (.int (cp : Nat)), some (.int 2), some (.ref D), some (.ref RM), some (.ref L), u8, none, none, none, none, none, none, none, none] ∧ Keep (J b) H H' ∧ BagAt b H' ∧ H' D = some (.dT (es.map entD)) ∧ H' L = some (.lst []) ∧ RM ≠ b ∧ RM ≠ L ∧ H' RM = some (.lst (rs.map fun (m : Nat) => V.int (m : Nat))) ∧ Rooms cp i rs)
      ⟨_, R0, [], rfl, k3, bag3, hD3, hL3, R0b, RL, hR3, rooms_nil⟩ (fun _ _ _ _ _ => trivial) ?_ ?_
    · rintro i y σ H4 H4' hi ⟨u8, RM, rs, rfl, k4, bag4, hD4, hL4, RMb, RML, hR4, rm⟩ ⟨rfl, rfl⟩
      have i_n : i < n := by simpa using hi
      have rl : rs.length ≤ 6 := Nat.le_trans rm.len (cn (Nat.le_of_lt i_n))
      refine ⟨_, rfl, _, rfl, by show 1 ≤ _; omega, fun M nM => ?_⟩
      have Mb := bag_ne bag4 nM
      have S5 := same_upd (o := .lst [.int (0 + (i : Nat))]) nM
      have k5 := k4.put (o := .lst [.int (0 + (i : Nat))]) (fr k4 nM Mb)
      have bag5 := bag4.same S5
      have hD5 := S5 _ _ hD4
      have hL5 := S5 _ _ hL4
      have hR5 := S5 _ _ hR4
      have hM5 : upd H4' M (.lst [.int (0 + (i : Nat))]) M = some (.lst [.int (0 + (i : Nat))]) := upd_same
      generalize upd H4' M (.lst [.int (0 + (i : Nat))]) = H5 at k5 bag5 hD5 hL5 hR5 hM5 ⊢
      obtain ⟨g, s', c, hb⟩ := id bag5
      refine ⟨_, rfl, _, rfl, b, g, s', c, (cp : Nat), rfl, hb, by omega, by omega, fun r g' c' r0 r1 => ?_⟩
      obtain ⟨r, rfl⟩ : ∃ j : Nat, r = j := ⟨r.toNat, by omega⟩
      obtain ⟨k6, bag6⟩ := thrown (b := b) (H := H5) g' s' c'
      have hD6 := k6 _ _ Db hD5
      have hL6 := k6 _ _ Lb hL5
      have hR6 := k6 _ _ RMb hR5
      have hM6 := k6 _ _ Mb hM5
      have k6 := k5.trans k6
      generalize upd H5 b (bagO g' s' c') = H6 at k6 bag6 hD6 hL6 hR6 hM6 ⊢
      refine ⟨_, _, rfl, rfl, M, 1 + (r : Nat), [.int (0 + (i : Nat))], rfl, rfl, hM6, by omega, by omega, by show 1 * _ ≤ _; omega, fun p np => ?_⟩
      have pb := bag_ne bag6 np
      have eP : (List.replicate ((1 : Int) + (r : Nat)).toNat [V.int (0 + (i : Nat))]).flatten = (List.replicate (1 + r) i).map fun (m : Nat) => V.int (m : Nat) := by
        rw [show ((1 : Int) + (r : Nat)).toNat = 1 + r by omega, List.map_replicate]
        have go : ∀ k, (List.replicate k [V.int (0 + (i : Nat))]).flatten = List.replicate k (V.int (i : Nat)) := fun k => by
          induction k with
          | zero => rfl
          | succ k ih => rw [List.replicate_succ, List.replicate_succ, List.flatten_cons, ih, Int.zero_add]; rfl
        exact go _
      rw [eP]
      have S7 := same_upd (o := .lst ((List.replicate (1 + r) i).map fun (m : Nat) => V.int (m : Nat))) np
      have k7 := k6.put (o := .lst ((List.replicate (1 + r) i).map fun (m : Nat) => V.int (m : Nat))) (fr k6 np pb)
      have bag7 := bag6.same S7
      have hD7 := S7 _ _ hD6
      have hL7 := S7 _ _ hL6
      have hR7 := S7 _ _ hR6
      have hp7 : upd H6 p (.lst ((List.replicate (1 + r) i).map fun (m : Nat) => V.int (m : Nat))) p = some (.lst ((List.replicate (1 + r) i).map fun (m : Nat) => V.int (m : Nat))) := upd_same
      generalize upd H6 p (.lst ((List.replicate (1 + r) i).map fun (m : Nat) => V.int (m : Nat))) = H7 at k7 bag7 hD7 hL7 hR7 hp7 ⊢
      have rl2 : (List.replicate (1 + r) i).length ≤ 3 := by rw [List.length_replicate]; omega
      refine ⟨RM, p, _, _, rfl, rfl, hR7, hp7, by rw [List.length_map, List.length_map]; omega, fun q nq => ?_⟩
      rw [← List.map_append]
      have qb := bag_ne bag7 nq
      have qL : q ≠ L := fun z => by rw [z, hL7] at nq; cases nq
      have S8 := same_upd (o := .lst ((rs ++ List.replicate (1 + r) i).map fun (m : Nat) => V.int (m : Nat))) nq
      exact ⟨_, q, _, rfl, k7.put (fr k7 nq qb), bag7.same S8, S8 _ _ hD7, S8 _ _ hL7, qb, qL, upd_same, rm.next (by omega) (by omega)⟩
    · rintro σ H4 ⟨u8, RM, rs, rfl, k4, bag4, hD4, hL4, RMb, RML, hR4, rm⟩
      rw [Int.toNat_natCast] at rm
      have rlc : rs.length ≤ cp * n := rm.len
      have rl : rs.length ≤ 6 := Nat.le_trans rlc (cn (Nat.le_refl _))
      -- the lots
      refine ⟨_, rfl, _, rfl, by omega, by omega, fun LL nLL => ?_⟩
      refine lc_it walk_range (fun i H' => Same H4 H' ∧ ∃ As : List Addr, H' LL = some (.lst (As.map V.ref)) ∧ As.length = i ∧ As.Nodup ∧ ∀ a ∈ As, H' a = some (.lst []) ∧ H4 a = none ∧ a ≠ LL) ⟨same_upd nLL, [], upd_same, rfl, .nil, fun a ha => by cases ha⟩ (fun _ _ _ _ => trivial) ?_ ?_
      · rintro i y H5 H5' hi ⟨S5, As, hLL, al, ndA, hA⟩ ⟨rfl, rfl⟩
        refine ⟨rfl, by show 0 ≤ _; omega, fun q nq => ?_⟩
        have SQ := same_upd (o := .lst []) nq
        have qL : q ≠ LL := fun z => by rw [z, hLL] at nq; cases nq
        refine ⟨_, SQ _ _ hLL, by rw [List.length_map]; omega, upd_far nLL (S5.trans SQ), As ++ [q], by rw [upd_same, List.map_append]; rfl, by rw [List.length_append, al]; rfl, ?_, fun a ha => ?_⟩
        · exact List.nodup_append.mpr ⟨ndA, by simp, fun a ha c hc e => by rw [List.mem_singleton] at hc; subst hc; subst e; have := (hA _ ha).1; rw [nq] at this; cases this⟩
        · rcases List.mem_append.mp ha with ha | ha
          · obtain ⟨a1, a2, a3⟩ := hA a ha
            exact ⟨by rw [upd_ne a3]; exact SQ _ _ a1, a2, a3⟩
          · rw [List.mem_singleton.mp ha]
            exact ⟨by rw [upd_ne qL]; exact upd_same, S5.free nq, qL⟩
      · rintro H5 ⟨S5, As, hLL, al, ndA, hA⟩
        rw [Int.toNat_natCast] at al
        have lots0 : LotsAt H5 LL As rs 0 := ⟨hLL, ndA, fun m a ha => (hA a (List.mem_of_getElem? ha)).1⟩
        have LLA : LL ∉ As := fun z => (hA _ z).2.2 rfl
        have nA : ∀ {x : Addr} {o : HO}, H4 x = some o → x ∉ As := fun {x o} hx z => by rw [(hA _ z).2.1] at hx; cases hx
        have k5 := k4.trans (Keep.of S5)
        have bag5 := bag4.same S5
        have LLb : LL ≠ b := bag_ne bag4 nLL
        have LLL : LL ≠ L := fun z => by rw [z, hL4] at nLL; cases nLL
        have LA : L ∉ As := nA hL4
        have DA : D ∉ As := nA hD4
        have RA : RM ∉ As := nA hR4
        have bA : b ∉ As := by
          obtain ⟨_, _, _, hb⟩ := id bag4
          exact nA hb
        have hL5 := S5 _ _ hL4
        have hD5 := S5 _ _ hD4
        have hR5 := S5 _ _ hR4
        have Afree : ∀ a ∈ As, H a = none := fun a ha => fr k4 (hA a ha).2.1 fun z => bA (z ▸ ha)
        clear hA S5 hL4 hD4 hR4 bag4 k4
        refine ⟨_, rfl, RM, _, rfl, .of hR5, ?_⟩
        refine for_it walk_enum (fun j σ H' => ∃ (u8 u10 : Option V), σ = [some (.ref b), some (.str (sgTxt sg)), some (.int (n : Nat)), some (.int (cp : Nat)), some (.int 2), some (.ref D), some (.ref RM), some (.ref L), u8, some (.ref LL), u10, none, none, none, none, none, none] ∧ Keep (fun a => a ∈ As) H5 H' ∧ LotsAt H' LL As rs j)
          ⟨_, _, rfl, Keep.refl, lots0⟩ (fun _ _ _ _ h => by obtain ⟨_, _, _, h, _⟩ := h; exact .of (h _ _ RA hR5)) ?_ ?_
        · rintro j y σ H6 H6' hj ⟨u8, u10, rfl, k6, lots⟩ ⟨T, x, y, rfl, nT, rfl, ex, ey⟩
          obtain rfl := Option.some.inj ex
          have ey : (rs.map fun (m : Nat) => V.int (m : Nat))[j]? = some y := ey
          rw [List.getElem?_map] at ey
          obtain ⟨m, hm, rfl⟩ := Option.map_eq_some_iff.mp ey
          have ST := same_upd (o := .tup [.int (j : Nat), .int (m : Nat)]) nT
          refine ⟨T, _, rfl, .of upd_same, rfl, _, _, rfl, _, _, rfl, rfl, ?_⟩
          have lots := lots.same ST
          have k6 := k6.trans (Keep.of ST)
          generalize upd H6 T (.tup [.int (j : Nat), .int (m : Nat)]) = H7 at lots k6 ⊢
          have mn := rm.lt m (List.mem_of_getElem? hm)
          obtain ⟨a, ha⟩ : ∃ a, As[m]? = some a := ⟨As[m]'(by omega), List.getElem?_eq_getElem _⟩
          have hl := lots.lot m a ha
          have jl : j < rs.length := (List.getElem?_eq_some_iff.mp hm).1
          have := lot_len rs j m
          refine ⟨_, rfl, _, rfl, .inl ⟨LL, _, (m : Int), .ref a, rfl, rfl, .of lots.at_, atI_nat (by rw [List.getElem?_map, ha]; rfl), .inl ⟨rfl, _, .of hl⟩, _, rfl, a, _, _, rfl, rfl, hl, by rw [List.length_map]; omega, ?_⟩⟩
          exact ⟨_, _, rfl, k6.trans (Keep.upd (List.mem_of_getElem? ha)), lots.next ha hm LLA⟩
        · rintro σ H6 ⟨u8, u10, rfl, k6, lots⟩
          rw [List.length_map] at lots
          have hL6 := k6 _ _ LA hL5
          have hD6 := k6 _ _ DA hD5
          have hR6 := k6 _ _ RA hR5
          have bag6 : BagAt b H6 := by
            obtain ⟨g, s, c, e⟩ := bag5
            exact ⟨g, s, c, k6 _ _ bA e⟩
          have kH6 : Keep (J b) H H6 := fun a o na h => k6 a o (fun z => by rw [Afree a z] at h; cases h) (k5 a o na h)
          clear k6 k5 bag5 hL5 hD5 hR5 lots0 hLL
          -- the edges
          have DL : D ≠ L := ne_of hD6 hL6 fun z => by cases z
          have rl6 : rs.length ≤ 6 := by omega
          have edo0 : EdL H6 L [] := ⟨[], hL6, rfl, fun p hp => by cases hp⟩
          have keepE : ∀ {Ha Hb : Hp} {eds : List Edg}, BagAt b Ha → Keep (J b) Ha Hb → EdL Ha L eds → EdL Hb L eds := fun {Ha Hb eds} bg kk ed => ed.keep bg Lb kk
          refine ⟨_, rfl, RM, _, rfl, .of hR6, ?_⟩
          refine for_it walk_enum (fun j σ H' => ∃ (u8 u10 u11 u12 u13 : Option V) (eds : List Edg), σ = [some (.ref b), some (.str (sgTxt sg)), some (.int (n : Nat)), some (.int (cp : Nat)), some (.int 2), some (.ref D), some (.ref RM), some (.ref L), u8, some (.ref LL), u10, u11, u12, u13, none, none, none] ∧ Keep (J2 b L) H6 H' ∧ BagAt b H' ∧ EdL H' L eds ∧ eds.length ≤ ((rs.take j).map (cntOf es)).sum ∧ (∀ e ∈ eds, EdgOk sg e ∧ e.a < cp * n ∧ e.b < cp * n) ∧ (∀ e ∈ eds, Over "ab" 2 e.u) ∧ (∀ c, perC c eds ≤ ((rs.take j).map (cntOf (onC es c))).sum) ∧ ∀ e ∈ es, e.2 ∈ rs.take j → 0 < eds.length)
            ⟨_, _, _, _, _, [], rfl, Keep.refl, bag6, edo0, Nat.zero_le _, (fun e he => by cases he), (fun e he => by cases he), (fun c => Nat.zero_le _), fun e he h => by simp at h⟩ (fun _ _ _ _ h => by obtain ⟨_, _, _, _, _, _, _, h, _⟩ := h; exact .of (h _ _ (fun z => z.elim RMb RML) hR6)) ?_ ?_
          · rintro j y σ H7 H7' hj ⟨u8, u10, u11, u12, u13, eds, rfl, k7, bag7, ed7, edl, edo, edu, edc, edn⟩ ⟨T, x, y, rfl, nT, rfl, ex, ey⟩
            obtain rfl := Option.some.inj ex
            have ey : (rs.map fun (m : Nat) => V.int (m : Nat))[j]? = some y := ey
            rw [List.getElem?_map] at ey
            obtain ⟨m, hm, rfl⟩ := Option.map_eq_some_iff.mp ey
            have jl : j < rs.length := (List.getElem?_eq_some_iff.mp hm).1
            have ST := same_upd (o := .tup [.int (j : Nat), .int (m : Nat)]) nT
            refine ⟨T, _, rfl, .of upd_same, rfl, _, _, rfl, _, _, rfl, rfl, ?_⟩
            have k8 := k7.trans (Keep.of ST)
            have bag8 := bag7.same ST
            have ed8 := ed7.same ST
            have hD8 := k8 _ _ (fun z => z.elim Db DL) hD6
            generalize upd H7 T (.tup [.int (j : Nat), .int (m : Nat)]) = H8 at k8 bag8 ed8 hD8 ⊢
            clear k7 bag7 ed7 ST nT
            refine ⟨_, rfl, D, es.map entD, rfl, .inl hD8, ?_, .inl fun d hd => ?_, fun p hp => keysD_depth _, by rw [List.length_map]; omega, fun ps q nq KA => ⟨q, rfl, ⟨_, .of upd_same⟩, ?_⟩⟩
            · intro a ha c hc
              obtain ⟨k1, hk1, rfl⟩ := List.mem_map.mp ha
              obtain ⟨k2, hk2, rfl⟩ := List.mem_map.mp hc
              rw [List.map_map] at hk1 hk2
              obtain ⟨e1, _, rfl⟩ := List.mem_map.mp hk1
              obtain ⟨e2, _, rfl⟩ := List.mem_map.mp hk2
              rfl
            · obtain ⟨k1, hk1, rfl⟩ := List.mem_map.mp hd
              rw [List.map_map] at hk1
              obtain ⟨e1, _, rfl⟩ := List.mem_map.mp hk1
              exact ⟨_, _, rfl⟩
            obtain ⟨qs, sl, e1, e2, nsl, inE, covE⟩ := sort_slots KA dr.nd
            rw [e1]
            have qb := bag_ne bag8 nq
            have qL : q ≠ L := fun z => by
              obtain ⟨ks, h, _⟩ := ed8
              rw [z, h] at nq
              cases nq
            have SQ := same_upd (o := .lst (qs.map V.ref)) nq
            have hq9 : upd H8 q (.lst (qs.map V.ref)) q = some (.lst (qs.map V.ref)) := upd_same
            have k9 := k8.trans (Keep.of SQ)
            have bag9 := bag8.same SQ
            have ed9 := ed8.same SQ
            have hD9 := SQ _ _ hD8
            have e29 := paired_mono (fun a s (h : SlotAt H8 a s) => SQ _ _ h) e2
            generalize upd H8 q (.lst (qs.map V.ref)) = H9 at hq9 k9 bag9 ed9 hD9 e29 ⊢
            clear k8 bag8 ed8 hD8 e2 SQ KA nq
            refine for_it walk_list (fun i σ H' => ∃ (u11 u12 u13 : Option V) (eds' : List Edg), σ = [some (.ref b), some (.str (sgTxt sg)), some (.int (n : Nat)), some (.int (cp : Nat)), some (.int 2), some (.ref D), some (.ref RM), some (.ref L), some (.int (m : Nat)), some (.ref LL), some (.int (j : Nat)), u11, u12, u13, none, none, none] ∧ Keep (J2 b L) H9 H' ∧ BagAt b H' ∧ EdL H' L eds' ∧ eds'.length = eds.length + ((sl.take i).filter (hitOf es m)).length ∧ (∀ e ∈ eds', EdgOk sg e ∧ e.a < cp * n ∧ e.b < cp * n) ∧ (∀ e ∈ eds', Over "ab" 2 e.u) ∧ ∀ c, perC c eds' ≤ perC c eds + ((sl.take i).filter (hitOf (onC es c) m)).length)
              ⟨_, _, _, eds, rfl, Keep.refl, bag9, ed9, rfl, edo, edu, fun c => Nat.le_add_right _ _⟩ (fun _ _ _ _ h => by obtain ⟨_, _, _, _, _, h, _⟩ := h; exact .of (h _ _ (fun z => z.elim qb qL) hq9)) ?_ ?_
            · rintro i y σ HA HA' hi ⟨v11, v12, v13, eda, rfl, kA, bagA, edA, eal, eao, eau, eac⟩ ⟨rfl, hy⟩
              rw [List.getElem?_map] at hy
              obtain ⟨a, ha, rfl⟩ := Option.map_eq_some_iff.mp hy
              obtain ⟨sk, hs, sa⟩ := paired_get e29 ha
              have sin := List.mem_of_getElem? hs
              obtain ⟨v, hv⟩ := inE sk sin
              have sab : ¬ J2 b L a := fun z => by
                rcases z with rfl | rfl
                · obtain ⟨_, _, _, hb⟩ := id bag9
                  have sa : H9 a = _ := sa
                  rw [sa] at hb
                  cases hb
                · obtain ⟨_, h, _⟩ := ed9
                  have sa : H9 a = _ := sa
                  rw [sa] at h
                  cases h
              have sa := kA _ _ sab sa
              refine ⟨a, _, rfl, .of sa, rfl, _, _, rfl, _, _, rfl, rfl, ?_⟩
              refine ⟨_, rfl, _, rfl, _, rfl, by show 2 ≤ _; omega, fun q2 nq2 => ?_⟩
              have S2 := same_upd (o := .tup [.str ⟨#[sk.1]⟩, .int (sk.2 : Nat)]) nq2
              have hq2 : upd HA' q2 (.tup [.str ⟨#[sk.1]⟩, .int (sk.2 : Nat)]) q2 = some (.tup ((FM.kp sk.1 sk.2).map kV)) := upd_same
              have kA9 := k9.trans kA
              have hDA := kA9 _ _ (fun z => z.elim Db DL) hD6
              have hDB := S2 _ _ hDA
              have gv : valV (es.map entD) (FM.kp sk.1 sk.2) = some (.int (v : Nat)) := by
                refine valV_mem ?_ (List.mem_map.mpr ⟨_, hv, rfl⟩)
                rw [List.map_map]
                unfold List.Nodup
                rw [List.pairwise_map]
                refine (List.pairwise_map.mp dr.nd).imp fun {x y} ne e => ne ?_
                obtain ⟨e1, e2⟩ := kp_inj e
                exact Prod.ext e1 e2
              have dg := DGet.t (k := FM.kp sk.1 sk.2) hDB hq2
              rw [gv] at dg
              have kB := kA9.trans (Keep.of S2)
              have k9B := kA.trans (Keep.of (b := J2 b L) S2)
              have bagB := bagA.same S2
              have edB := edA.same S2
              generalize upd HA' q2 (.tup [.str ⟨#[sk.1]⟩, .int (sk.2 : Nat)]) = HB at dg kB k9B bagB edB ⊢
              clear S2 hq2 hDA hDB edA bagA kA9
              refine ⟨D, _, rfl, dg, _, rfl, ?_⟩
              have ev : decide (V.int (v : Nat) = V.int (m : Nat)) = hitOf es m sk := by
                rw [hit_val dr.nd hv, Bool.eq_iff_iff, decide_eq_true_iff, beq_iff_eq]
                refine ⟨fun z => ?_, fun z => by rw [z]⟩
                injection z with z
                omega
              have tk : sl.take (i + 1) = sl.take i ++ [sk] := by rw [List.take_add_one, hs]; rfl
              refine ⟨rfl, _, rfl, ?_⟩
              rw [show decide (V.int (v : Nat) = V.int (m : Nat)) = hitOf es m sk from ev]
              cases hh : hitOf es m sk with
              | false =>
                refine iteF ⟨_, _, _, eda, rfl, k9B, bagB, edB, ?_, eao, eau, fun c => ?_⟩
                · rw [tk, List.filter_append, List.length_append]
                  simp only [List.filter_cons, hh, Bool.false_eq_true, if_false, List.filter_nil, List.length_nil]
                  omega
                · rw [tk, List.filter_append, List.length_append]
                  have := eac c
                  omega
              | true =>
                refine iteT ?_
                refine ⟨_, rfl, _, rfl, b, "ab", 2, rfl, bagB, by decide, by decide, by decide, fun z HC kC bagC hz => ?_⟩
                have edC := keepE bagB kC edB
                have kC9 : Keep (J2 b L) H6 HC := kB.trans (Keep.more (fun a z => .inl z) kC)
                have k9C : Keep (J2 b L) H9 HC := k9B.trans (Keep.more (fun a z => .inl z) kC)
                obtain ⟨ks, e1, e2, e3⟩ := id edC
                obtain ⟨a2, ha2⟩ : ∃ a, As[sk.2]? = some a := ⟨As[sk.2]'(by have h : sk.2 < n := (dr.ok _ hv).2.1; omega), List.getElem?_eq_getElem _⟩
                have a2in := List.mem_of_getElem? ha2
                have a2b : a2 ≠ b := fun z => bA (z ▸ a2in)
                have a2L : a2 ≠ L := fun z => LA (z ▸ a2in)
                have hla := kC9 _ _ (fun z => z.elim a2b a2L) (lots.lot _ _ ha2)
                have hLL := kC9 _ _ (fun z => z.elim LLb LLL) lots.at_
                obtain ⟨g, s', c, hb⟩ := id bagC
                have lpos : 0 < (lotOf rs rs.length sk.2).length := by
                  obtain ⟨k0, hk0⟩ := List.mem_iff_getElem.mp (rm.all sk.2 (dr.ok _ hv).2.1)
                  obtain ⟨hk1, hk2⟩ := hk0
                  exact List.length_pos_of_mem (lot_mem.mpr ⟨hk1, by rw [List.getElem?_eq_getElem hk1, hk2]⟩)
                have llen := lot_len rs rs.length sk.2
                refine ⟨_, rfl, .inl ⟨rfl, _, .of e1⟩, ?_⟩
                refine ⟨_, rfl, _, rfl, _, rfl, _, rfl, _, rfl, _, rfl, .inl ⟨LL, _, (sk.2 : Int), .ref a2, rfl, rfl, .of hLL, atI_nat (by rw [List.getElem?_map, ha2]; rfl), ?_⟩⟩
                refine ⟨b, g, s', c, .ref a2, _, rfl, hb, .inl ⟨a2, rfl, .inl (.of hla)⟩, fun g' c' => .inl ⟨a2, rfl, .inl (.of (by rw [upd_ne a2b]; exact hla))⟩, by rw [List.length_map]; exact lpos, by rw [List.length_map]; omega, fun y g' c' hy => ?_⟩
                obtain ⟨r, hr2, rfl⟩ := List.mem_map.mp hy
                have rlt := (lot_mem.mp hr2).1
                obtain ⟨kD, bagD⟩ := thrown (b := b) (H := HC) g' s' c'
                have e1D := kD _ _ Lb e1
                have e3D : ∀ p ∈ ks, upd HC b (bagO g' s' c') p.1 = some (.tup (p.2.row.map kV)) := fun p hp => kD _ _ (fun q => by have := e3 p hp; rw [q, hb] at this; cases this) (e3 p hp)
                have kD9 := k9C.trans (Keep.more (fun a (z : J b a) => (.inl z : J2 b L a)) kD)
                generalize upd HC b (bagO g' s' c') = HD at e1D e3D kD9 bagD ⊢
                have kl : ks.length ≤ 200 := by
                  have h1 := congrArg List.length e2
                  rw [List.length_map] at h1
                  have h2 := List.length_filter_le (hitOf es m) (sl.take i)
                  rw [List.length_take] at h2
                  have h3 : ((rs.take j).map (cntOf es)).sum ≤ 6 * 12 := by
                    have go : ∀ l : List Nat, (l.map (cntOf es)).sum ≤ l.length * 12 := fun l => by
                      induction l with
                      | nil => simp
                      | cons x l ih =>
                        have : cntOf es x ≤ es.length := List.length_filter_le _ _
                        rw [List.map_cons, List.sum_cons, List.length_cons, Nat.succ_mul]
                        omega
                    have := go (rs.take j)
                    rw [List.length_take] at this
                    omega
                  have h4 : sl.length ≤ es.length := by
                    have := nsl.length_le_of_subset (l₂ := es.map (·.1)) fun s hs => by
                      obtain ⟨v, hv⟩ := inE s hs
                      exact List.mem_map.mpr ⟨_, hv, rfl⟩
                    rwa [List.length_map] at this
                  omega
                refine ⟨by show 4 ≤ _; omega, fun t nt => ?_⟩
                have ST := same_upd (o := .tup [.int (j : Nat), .str ⟨#[sk.1]⟩, .str z, .int (r : Nat)]) nt
                have e1T := ST _ _ e1D
                refine ⟨L, _, _, rfl, rfl, e1T, by rw [List.length_map]; omega, ?_⟩
                refine ⟨_, _, _, eda ++ [⟨j, sk.1, z, r⟩], rfl, (kD9.trans (Keep.of ST)).trans (Keep.upd (.inr rfl)), ?_, EdL.push e1T e2 (fun p hp => ST _ _ (e3D p hp)) upd_same, ?_, fun e he => ?_, fun e he => ?_, fun c => ?_⟩
                · obtain ⟨g, s, c, e⟩ := bagD.same ST
                  exact ⟨g, s, c, by rw [upd_ne Lb.symm]; exact e⟩
                · rw [tk, List.filter_append, List.length_append, List.length_append]
                  simp only [List.filter_cons, hh, if_true, List.filter_nil, List.length_cons, List.length_nil]
                  omega
                · rcases List.mem_append.mp he with he | he
                  · exact eao e he
                  · rw [List.mem_singleton.mp he]
                    exact ⟨⟨by show j < 12; omega, by show r < 12; omega, (dr.ok _ hv).1, over_let hz (by decide), Nat.le_trans hz.1 (by decide)⟩, by show j < cp * n; omega, by show r < cp * n; omega⟩
                · rcases List.mem_append.mp he with he | he
                  · exact eau e he
                  · rw [List.mem_singleton.mp he]
                    exact hz
                · rw [perC_push, tk, List.filter_append, List.length_append]
                  have h1 := eac c
                  by_cases z : sk.1 = c
                  · rw [if_pos z]
                    have h2 : ([sk].filter (hitOf (onC es c) m)).length = 1 := by
                      have : hitOf (onC es c) m sk = true := by rw [hit_on, hh, z]; simp
                      rw [List.filter_cons, this]
                      rfl
                    omega
                  · rw [if_neg z]
                    omega
            · rintro σ HA ⟨v11, v12, v13, eda, rfl, kA, bagA, edA, eal, eao, eau, eac⟩
              have h4 : rs.take (j + 1) = rs.take j ++ [m] := by rw [List.take_add_one, hm]; rfl
              refine ⟨_, _, _, _, _, eda, rfl, k9.trans kA, bagA, edA, ?_, eao, eau, fun c => ?_, fun e he hin => ?_⟩
              case refine_3 =>
                rw [h4] at hin
                rcases List.mem_append.mp hin with hin | hin
                · have := edn e he hin
                  omega
                · have em := List.mem_singleton.mp hin
                  have : e.1 ∈ (sl.take (qs.map V.ref).length).filter (hitOf es m) := by
                    refine List.mem_filter.mpr ⟨?_, ?_⟩
                    · rw [List.length_map, List.take_of_length_le (by rw [e29.length]; exact Nat.le_refl _)]
                      exact covE e he
                    · unfold hitOf
                      exact List.any_eq_true.mpr ⟨e, he, by simp [em]⟩
                  have := List.length_pos_of_mem this
                  omega
              case refine_2 =>
                have h1 := eac c
                rw [List.length_map] at h1
                have h2 := hit_len (onC_nd dr.nd c) nsl m
                have h3 : (sl.take qs.length) = sl := List.take_of_length_le (by rw [e29.length]; exact Nat.le_refl _)
                rw [h3] at h1
                have h5 := edc c
                rw [h4, List.map_append, List.sum_append]
                simp only [List.map_cons, List.map_nil, List.sum_cons, List.sum_nil]
                omega
              rw [List.length_map] at eal
              have h1 := List.length_filter_le (hitOf es m) sl
              have h2 := hit_len dr.nd nsl m
              have h3 : (sl.take qs.length).filter (hitOf es m) = sl.filter (hitOf es m) := by rw [List.take_of_length_le (by rw [e29.length]; exact Nat.le_refl _)]
              rw [h3] at eal
              rw [h4, List.map_append, List.sum_append]
              simp only [List.map_cons, List.map_nil, List.sum_cons, List.sum_nil]
              omega
          · rintro σ H7 ⟨u8, u10, u11, u12, u13, eds, rfl, k7, bag7, ed7, edl, edo, edu, edc, edn⟩
            rw [List.length_map, List.take_length] at edl
            have edM : eds.length ≤ cp * (n * sg.length) := by
              have h1 := rm.sum (cntOf es)
              have h2 := cnt_sum es n
              have h3 := Nat.mul_le_mul_left cp h2
              have h5 := Nat.mul_le_mul_left cp esn
              omega
            have ed24 : eds.length ≤ 24 := by
              have h1 := rm.sum (cntOf es)
              have h2 := cnt_sum es n
              have h3 := Nat.mul_le_mul_left cp h2
              have h4 : es.length ≤ n * sg.length := esn
              have h5 : cp * es.length ≤ 6 * 4 := Nat.le_trans (Nat.mul_le_mul_left cp h4) (by rw [← Nat.mul_assoc]; exact Nat.mul_le_mul cn6 four)
              omega
            have edp : ∀ c, perC c eds ≤ 6 := fun c => by
              have h1 := rm.sum (cntOf (onC es c))
              have h2 := cnt_sum (onC es c) n
              have h3 := onC_len dr.nd (fun e he => (dr.ok e he).2.1) c
              have h4 := edc c
              rw [List.length_map, List.take_length] at h4
              have h5 := Nat.mul_le_mul_left cp (Nat.le_trans h2 h3)
              omega
            have edne : eds ≠ [] := fun z => by
              obtain ⟨c0, hc0⟩ := List.exists_mem_of_ne_nil _ okS.one
              obtain ⟨v, hv⟩ := dr.all c0 hc0 0 (by omega)
              rw [List.length_map, List.take_length] at edn
              have := edn _ hv (rm.all v (dr.ok _ hv).2.2)
              rw [z] at this
              cases this
            have lots7 : LotsAt H7 LL As rs rs.length := ⟨k7 _ _ (fun z => z.elim LLb LLL) lots.at_, lots.nd, fun m a ha => k7 _ _ (fun z => z.elim (fun e => bA (e ▸ List.mem_of_getElem? ha)) fun e => LA (e ▸ List.mem_of_getElem? ha)) (lots.lot m a ha)⟩
            have kH7 : Keep (J b) H H7 := keep_far kH6 nLH k7
            clear k7
            intro D1 nD1
            have D1b := bag_ne bag7 nD1
            have nD1H := fr kH7 nD1 D1b
            have LD1 : L ≠ D1 := by
              obtain ⟨_, h, _⟩ := ed7
              exact ne_of_none h nD1
            have SD := same_upd (o := .dK []) nD1
            have lots8 := lots7.same SD
            have LLD1 : LL ≠ D1 := ne_of_none lots7.at_ nD1
            have AD1 : ∀ {m : Nat} {a : Addr}, As[m]? = some a → a ≠ D1 := fun h => ne_of_none (lots7.lot _ _ h) nD1
            have ed8 := ed7.same SD
            have bag8 := bag7.same SD
            have k8 := kH7.put (o := .dK []) nD1H
            have hD18 : upd H7 D1 (.dK []) D1 = some (.dK (entW [])) := upd_same
            generalize upd H7 D1 (.dK []) = H8 at lots8 ed8 bag8 k8 hD18 ⊢
            clear SD ed7 bag7 lots7 nD1
            intro D2 nD2
            have D2b := bag_ne bag8 nD2
            have nD2H := fr k8 nD2 D2b
            have LD2 : L ≠ D2 := by
              obtain ⟨_, h, _⟩ := ed8
              exact ne_of_none h nD2
            have D12 : D1 ≠ D2 := ne_of_none hD18 nD2
            have SD := same_upd (o := .dK []) nD2
            have LLD2 : LL ≠ D2 := ne_of_none lots8.at_ nD2
            have AD2 : ∀ {m : Nat} {a : Addr}, As[m]? = some a → a ≠ D2 := fun h => ne_of_none (lots8.lot _ _ h) nD2
            have lots9 := lots8.same SD
            have ed9 := ed8.same SD
            have bag9 := bag8.same SD
            have k9 := k8.put (o := .dK []) nD2H
            have hD19 := SD _ _ hD18
            have hD29 : upd H8 D2 (.dK []) D2 = some (.dK (entW [])) := upd_same
            generalize upd H8 D2 (.dK []) = H9 at lots9 ed9 bag9 k9 hD19 hD29 ⊢
            clear SD ed8 bag8 lots8 nD2 hD18 k8
            have hb9 : ∀ {m : Nat} {a : Addr}, As[m]? = some a → a ≠ b := fun h e => bA (e ▸ List.mem_of_getElem? h)
            have lotpos : ∀ {m : Nat}, m < n → 0 < (lotOf rs rs.length m).length := fun {m} hm => by
              obtain ⟨k0, hk1, hk2⟩ := List.mem_iff_getElem.mp (rm.all m hm)
              exact List.length_pos_of_mem (lot_mem.mpr ⟨hk1, by rw [List.getElem?_eq_getElem hk1, hk2]⟩)
            refine ⟨_, rfl, LL, rfl, ⟨_, .of lots9.at_⟩, ?_⟩
            refine for_it walk_list (fun i σ H' => ∃ (u8 u10 u11 u12 u13 u16 : Option V) (st : List (Nat × Str)), σ = [some (.ref b), some (.str (sgTxt sg)), some (.int (n : Nat)), some (.int (cp : Nat)), some (.int 2), some (.ref D), some (.ref RM), some (.ref L), u8, some (.ref LL), u10, u11, u12, u13, some (.ref D1), some (.ref D2), u16] ∧ Keep (J2 b D1) H9 H' ∧ BagAt b H' ∧ EdL H' L eds ∧ H' D1 = some (.dK (entW st)) ∧ TblOk st ∧ (∀ p ∈ st, p.1 < cp * n ∧ Over "ab" 1 p.2) ∧ st.length ≤ i)
              ⟨_, _, _, _, _, _, [], rfl, Keep.refl, bag9, ed9, hD19, tblOk_nil, (fun p hp => by cases hp), Nat.le_refl _⟩ (fun _ _ _ _ h => by obtain ⟨_, _, _, _, _, _, _, _, h, _⟩ := h; exact .of (h _ _ (fun z => z.elim LLb LLD1) lots9.at_)) ?_ ?_
            · rintro i y σ HA HA' hi ⟨u8, u10, u11, u12, u13, u16, st, rfl, kA, bagA, edA, hD1A, tS, sS, lS⟩ ⟨rfl, hy⟩
              rw [List.getElem?_map] at hy
              obtain ⟨a, ha, rfl⟩ := Option.map_eq_some_iff.mp hy
              have il : i < As.length := (List.getElem?_eq_some_iff.mp ha).1
              obtain ⟨g, s', c, hb⟩ := id bagA
              refine ⟨_, rfl, b, g, s', c, 5, rfl, hb, by decide, by decide, fun r g' c' r0 r1 => ?_⟩
              obtain ⟨kB, bagB⟩ := thrown (b := b) (H := HA') g' s' c'
              have edB := edA.keep bagA Lb kB
              have hD1B := kB _ _ D1b hD1A
              have kB := kA.trans (Keep.more (fun a (z : J b a) => (.inl z : J2 b D1 a)) kB)
              generalize upd HA' b (bagO g' s' c') = HB at edB kB bagB hD1B ⊢
              refine ⟨_, _, rfl, rfl, _, rfl, ?_⟩
              refine ite2 (fun _ => ?_) fun _ => ⟨_, _, _, _, _, _, st, rfl, kB, bagB, edB, hD1B, tS, sS, Nat.le_succ_of_le lS⟩
              refine ⟨_, rfl, _, rfl, _, _, rfl, rfl, b, "ab", 1, rfl, bagB, by decide, by decide, by decide, fun z HC kC bagC hz => ?_⟩
              have edC := edB.keep bagB Lb kC
              have hD1C := kC _ _ D1b hD1B
              have kC := kB.trans (Keep.more (fun a (z : J b a) => (.inl z : J2 b D1 a)) kC)
              have hla := kC _ _ (fun z => z.elim (hb9 ha) (AD1 ha)) (lots9.lot _ _ ha)
              have lp := lotpos (m := i) (by omega)
              have r0in : (lotOf rs rs.length i)[0] ∈ lotOf rs rs.length i := List.getElem_mem lp
              have rlt := (lot_mem.mp r0in).1
              refine ⟨_, rfl, _, rfl, .inl ⟨a, _, 0, .int (((lotOf rs rs.length i)[0] : Nat) : Int), rfl, rfl, .of hla, atI_nat (j := 0) (by rw [List.getElem?_map, List.getElem?_eq_getElem lp]; rfl), ?_⟩⟩
              refine ⟨D1, _, rfl, DPut.k (k := (.inl (((lotOf rs rs.length i)[0] : Nat) : Int) : Key)) hD1C (by unfold entW; rw [List.length_map]; omega), ?_⟩
              rw [putS_ent]
              generalize (lotOf rs rs.length i)[0] = r0 at rlt ⊢
              refine ⟨_, _, _, _, _, _, putS st r0 z, rfl, kC.trans (Keep.upd (.inr rfl)), ?_, ?_, upd_same, TblOk.put tS (by omega) ⟨over_let hz (by decide), Nat.le_trans hz.1 (by decide)⟩, fun p hp => ?_, Nat.le_trans (putS_len st r0 z) (Nat.succ_le_succ lS)⟩
              · obtain ⟨g, s, c, e⟩ := bagC
                exact ⟨g, s, c, by rw [upd_ne D1b.symm]; exact e⟩
              · obtain ⟨ks, e1, e2, e3⟩ := edC
                exact ⟨ks, by rw [upd_ne LD1]; exact e1, e2, fun p hp => by rw [upd_ne fun q => by have := e3 p hp; rw [q, hD1C] at this; cases this]; exact e3 p hp⟩
              · rcases putS_mem hp with h | rfl
                · exact sS p h
                · exact ⟨by show r0 < cp * n; omega, hz⟩
            · rintro σ HA ⟨u8, u10, u11, u12, u13, u16, st, rfl, kA, bagA, edA, hD1A, tS, sS, lS⟩
              obtain ⟨a0, ha0⟩ : ∃ a, As[0]? = some a := ⟨As[0]'(by omega), List.getElem?_eq_getElem _⟩
              have hlA := kA _ _ (fun z => z.elim (hb9 ha0) (AD1 ha0)) (lots9.lot _ _ ha0)
              have hLLA := kA _ _ (fun z => z.elim LLb LLD1) lots9.at_
              have hD2A := kA _ _ (fun z => z.elim D2b D12.symm) hD29
              have kHA : Keep (J b) H HA := keep_far k9 nD1H kA
              clear kA
              refine ⟨_, rfl, .inl ⟨LL, _, 0, .ref a0, rfl, rfl, .of hLLA, atI_nat (j := 0) (by rw [List.getElem?_map, ha0]; rfl), a0, rfl, ⟨_, .of hlA⟩, ?_⟩⟩
              refine for_it walk_list (fun i σ H' => ∃ (u8 u10 u11 u12 u13 u16 : Option V) (en : List (Nat × Str)), σ = [some (.ref b), some (.str (sgTxt sg)), some (.int (n : Nat)), some (.int (cp : Nat)), some (.int 2), some (.ref D), some (.ref RM), some (.ref L), u8, some (.ref LL), u10, u11, u12, u13, some (.ref D1), some (.ref D2), u16] ∧ Keep (J2 b D2) HA H' ∧ BagAt b H' ∧ EdL H' L eds ∧ H' D2 = some (.dK (entW en)) ∧ TblOk en ∧ (∀ p ∈ en, p.1 < cp * n ∧ Over "ab" 1 p.2) ∧ en.length ≤ i)
                ⟨_, _, _, _, _, _, [], rfl, Keep.refl, bagA, edA, hD2A, tblOk_nil, (fun p hp => by cases hp), Nat.le_refl _⟩ (fun _ _ _ _ h => by obtain ⟨_, _, _, _, _, _, _, _, h, _⟩ := h; exact .of (h _ _ (fun z => z.elim (hb9 ha0) (AD2 ha0)) hlA)) ?_ ?_
              · rintro i y σ HB HB' hi ⟨v8, v10, v11, v12, v13, v16, en, rfl, kB, bagB, edB, hD2B, tE, sE, lE⟩ ⟨rfl, hy⟩
                rw [List.getElem?_map] at hy
                obtain ⟨r0, hr0, rfl⟩ := Option.map_eq_some_iff.mp hy
                have rlt := (lot_mem.mp (List.mem_of_getElem? hr0)).1
                have il : i < (lotOf rs rs.length 0).length := (List.getElem?_eq_some_iff.mp hr0).1
                have ll := lot_len rs rs.length 0
                refine ⟨_, rfl, _, rfl, _, _, rfl, rfl, b, "ab", 1, rfl, bagB, by decide, by decide, by decide, fun z HC kC bagC hz => ?_⟩
                have edC := edB.keep bagB Lb kC
                have hD2C := kC _ _ D2b hD2B
                have kC := kB.trans (Keep.more (fun a (z : J b a) => (.inl z : J2 b D2 a)) kC)
                refine ⟨_, rfl, _, rfl, D2, _, rfl, DPut.k (k := (.inl (r0 : Int) : Key)) hD2C (by unfold entW; rw [List.length_map]; omega), ?_⟩
                rw [putS_ent]
                refine ⟨_, _, _, _, _, _, putS en r0 z, rfl, kC.trans (Keep.upd (.inr rfl)), ?_, ?_, upd_same, TblOk.put tE (by omega) ⟨over_let hz (by decide), Nat.le_trans hz.1 (by decide)⟩, fun p hp => ?_, Nat.le_trans (putS_len en r0 z) (Nat.succ_le_succ lE)⟩
                · obtain ⟨g, s, c, e⟩ := bagC
                  exact ⟨g, s, c, by rw [upd_ne D2b.symm]; exact e⟩
                · obtain ⟨ks, e1, e2, e3⟩ := edC
                  exact ⟨ks, by rw [upd_ne LD2]; exact e1, e2, fun p hp => by rw [upd_ne fun q => by have := e3 p hp; rw [q, hD2C] at this; cases this]; exact e3 p hp⟩
                · rcases putS_mem hp with h | rfl
                  · exact sE p h
                  · exact ⟨by show r0 < cp * n; omega, hz⟩
              · rintro σ HB ⟨v8, v10, v11, v12, v13, v16, en, rfl, kB, bagB, edB, hD2B, tE, sE, lE⟩
                have hD1B := kB _ _ (fun z => z.elim D1b D12) hD1A
                have kHB := keep_far kHA nD2H kB
                obtain ⟨ks, e1, e2, e3⟩ := edB
                refine ⟨_, rfl, _, rfl, _, rfl, L, _, rfl, .inl ⟨.of e1, fun t nt => ?_⟩⟩
                have ST := same_upd (o := .tup (ks.map fun p => V.ref p.1)) nt
                have tb := bag_ne bagB nt
                have kT := kHB.put (o := .tup (ks.map fun p => V.ref p.1)) (fr kHB nt tb)
                have hT : upd HB t (.tup (ks.map fun p => V.ref p.1)) t = some (.tup (ks.map fun p => V.ref p.1)) := upd_same
                have bagT := bagB.same ST
                have e3T : ∀ p ∈ ks, upd HB t (.tup (ks.map fun p => V.ref p.1)) p.1 = some (.tup (p.2.row.map kV)) := fun p hp => ST _ _ (e3 p hp)
                have hD1T := ST _ _ hD1B
                have hD2T := ST _ _ hD2B
                generalize upd HB t (.tup (ks.map fun p => V.ref p.1)) = HT at kT hT bagT e3T hD1T hD2T ⊢
                refine ⟨_, rfl, by show 4 ≤ _; omega, fun p np => ?_⟩
                have SP := same_upd (o := .tup [.str (sgTxt sg), .ref D1, .ref t, .ref D2]) np
                have pb := bag_ne bagT np
                exact k p _ ⟨sg, st, eds, en⟩ (kT.put (fr kT np pb)) (bagT.same SP) (fr kT np pb) ⟨okS, tS, fun e he => (edo e he).1, by show eds.length ≤ 63; omega, tE⟩ ⟨fun e he => ⟨lt7 (edo e he).2.1, lt7 (edo e he).2.2⟩, ed24, fun p hp => lt7 (sS p hp).1, fun p hp => lt7 (sE p hp).1, edu, fun p hp => (sS p hp).2, fun c => Nat.le_trans (edp c) (by decide)⟩ (.inl edp) edne ⟨fun e he => (edo e he).2, fun p hp => (sS p hp).1, fun p hp => (sE p hp).1, fun p hp => (sE p hp).2⟩ edM
                  ⟨D1, t, D2, upd_same, SP _ _ hD1T, SP _ _ hD2T, ks, SP _ _ hT, e2, fun q hq => SP _ _ (e3T q hq)⟩
end
end K0
set_option maxRecDepth 100000
set_option maxHeartbeats 1000000
namespace K0
open PySem L2 FM He
end K0
set_option maxRecDepth 100000
set_option maxHeartbeats 3200000
namespace FM
open PySem PySem.Spec PyProof.Rows L2
section
variable {P : Program} {w : World} {A : Around} {E : Value → Shared → Prop} {s : Shared}
theorem call_set_lstI {l : Addr} {items : Array Value} (ks : List Int) {Q : Value → Shared → Prop} (hh : A.handled = none) (hl : s.heap.IsList l items) (hit : IntsAre items.toList ks) (hb : ks.length + 1 < scanBound)
    (h : ∀ (h' : Heap) (tk c : Nat), SetR w h' s.heap.objs.size (fun j => decide (j ∈ ks)) c → c ≤ ks.length → (∀ b o, s.heap.get? b = some o → h'.get? b = some o) → Q (.ref s.heap.objs.size) { s with heap := h', toks := tk }) :
    wpAny (model P w) A (call (.type "set") [.ref l]) Q E s := by
  have hisz : items.size = ks.length := by
    have q := IntsAre.length hit
    rw [Array.length_toList] at q
    exact q
  obtain ⟨c, tl, hmro⟩ := F.called_set.mro
  have hmade := F.called_set.made
  have hsub := F.called_set.sub
  refine wpAny_call (codeAny_of_tree ?_)
  show wpAny _ _ (callAny (.type "set") _) _ _ _
  refine wpAny_pure ⟨Code.quiet_builtin _ (by decide +kernel), codeAny_builtin PySem.F.entry_type_call ?_⟩
  rw [Around.under_plain (weight_type_call_type "set" [.ref l] []) rfl]
  have h1 := F.called_set.notType
  have h2 := F.called_set.canCreate
  have hct := F.typeCall_set_1 (.ref l)
  repeat (any_goals (first | assumption | wp_step))
  refine codeAny_mono (code_set_led1 (.ref l) (E := E) (Q₁ := fun obj s₁ => obj = .ref s.heap.objs.size ∧ s₁ = { s with heap := s.heap.push (freshSet w) }) ⟨rfl, rfl⟩) fun r s₁ hr => ?_
  cases r with
  | error e => exact hr
  | ok fl =>
    cases fl with
    | ret obj =>
      obtain ⟨rfl, rfl⟩ := hr
      have hS : (s.heap.push (freshSet w)).get? s.heap.objs.size = some (freshSet w) := Heap.get?_push_size _ rfl
      have hT : Shared.TypeIs { s with heap := s.heap.push (freshSet w) } (.ref s.heap.objs.size) "set" := ⟨_, hS, rfl⟩
      have hli := F.called_set.init.lookup
      have hbi := F.called_set.init.bind (.ref s.heap.objs.size)
      repeat (any_goals (first | assumption | wp_step))
      refine codeAny_mono (codeAny_call_builtin (R := wants (fun r s₂ => r = .none ∧ ∃ h' tk c, s₂ = { s with heap := h', toks := tk } ∧ SetR w h' s.heap.objs.size (fun j => decide (j ∈ ks)) c ∧ c ≤ ks.length ∧
          (∀ b o, s.heap.get? b = some o → h'.get? b = some o)) E) F.called_set.init.plain F.entry_set_init (check_set_init_1 hT ?_)) fun r₂ s₂ hr₂ => ?_
      · obtain ⟨ol, hol, hcl, nl, hdl⟩ := hl
        obtain ⟨ocls, odict, odata, oslots⟩ := ol
        simp only at hcl hdl
        subst hcl
        subst hdl
        have hol' : (s.heap.push (freshSet w)).get? l = some { cls := .type "list", dict := odict, data := .seq items nl, slots := oslots } := Heap.get?_push_of_some _ hol
        have hsls := PySem.F.sub_list_set
        have hslf := PySem.F.sub_list_frozenset
        have hne : (Value.type "list" == Value.type "dict") = false := by decide
        have hl1 : (s.heap.push (freshSet w)).IsList l items := ⟨_, hol', rfl, nl, rfl⟩
        unfold Builtin.«set.__init__» noKeywords Builtin.Frozenset.updateFrom
        generalize hPI : pyIter = PI
        wp_walk
        subst hPI
        refine wpAny_pyIter_list hl1 ?_
        refine wpAny_bind (wpAny_runValue ?_)
        have hlS : l < s.heap.objs.size := Heap.lt_size hol
        have hh3 : A.in1.in1.in1.handled = none := by simp [hh]
        have hz1 : (s.heap.push (freshSet w)).objs.size = s.heap.objs.size + 1 := Heap.size_push ..
        have hneI : l ≠ (s.heap.push (freshSet w)).objs.size := by
          rw [hz1]
          exact Nat.ne_of_lt (Nat.lt_succ_of_lt hlS)
        have hSf : s.heap.objs.size ∉ [(s.heap.push (freshSet w)).objs.size, l] := by
          rw [hz1]
          intro hm
          rcases List.mem_cons.mp hm with q | q
          · exact absurd q (Nat.ne_of_lt (Nat.lt_succ_self _))
          · exact absurd (List.mem_singleton.mp q) (Nat.ne_of_gt hlS)
        have hval : ∀ (i : Nat) (v : Value), items[i]? = some v → ∃ k t, ks[i]? = some k ∧ v = .int k t := fun i v hv => by
          have hi : i < ks.length := by rw [← hisz]; exact (Array.getElem?_eq_some_iff.mp hv).1
          obtain ⟨t, e⟩ := hit.int_at i v (by rw [Array.getElem?_toList]; exact hv)
          refine ⟨ks[i], t, List.getElem?_eq_getElem hi, ?_⟩
          rw [e, List.getD_eq_getElem?_getD, List.getElem?_eq_getElem hi] <;> rfl
        refine set_update_ints ((Walks.list hh3 _ l hneI items).toS) s.heap.objs.size hSf ks hisz hb hval (items.size - 0) 0 _ (by omega) (Nat.zero_le _)
          ⟨⟨_, Heap.get?_push_size _ rfl, rfl, rfl⟩, (hl1.push _)⟩ ?hS0 ?hR
        case hS0 =>
          exact ⟨0, Nat.le_refl 0, setR_new_at (Heap.get?_push_of_some _ hS)⟩
        case hR =>
          intro s' c' hm hc' hS'
          obtain ⟨h', g2, d', tk', os'⟩ := s'
          have eg : g2 = s.gens := hm.gens
          have ed : d' = s.drawn := hm.drawn
          have eo : os' = s.os := hm.os
          subst eg; subst ed; subst eo
          show wpAny _ _ _ _ _ _
          refine wpAny_pure ?_
          show wpAny _ _ (ret Value.none) _ _ _
          rw [hisz] at hc'
          refine wpAny_pure ⟨rfl, h', tk', c', rfl, hS', hc', fun b o e => ?_⟩
          have hb0 : b < s.heap.objs.size := Heap.lt_size e
          refine hm.heap b o (fun hm => ?_) (Heap.get?_push_of_some _ (Heap.get?_push_of_some _ e))
          rcases List.mem_cons.mp hm with q | q
          · exact absurd q (Nat.ne_of_lt hb0)
          · have q := List.mem_singleton.mp q
            rw [hz1] at q
            exact absurd q (Nat.ne_of_lt (Nat.lt_succ_of_lt hb0))
      · cases r₂ with
        | error e => exact hr₂
        | ok fl₂ =>
          cases fl₂ with
          | ret r =>
            obtain ⟨rfl, h', tk, c', rfl, hS', hc', hk'⟩ := hr₂
            repeat (any_goals (first | assumption | wp_step))
            exact h _ _ _ hS' hc' hk'
          | _ => exact hr₂.elim
    | _ => exact hr.elim
end
section
variable {X : Cx}
def rSetLsI (K : PySem.W.Frag) (w : World) : List V → Hp → VK → Prop := fun xs H Q => ∃ (a : Addr) (ks : List Int), xs = [.ref a] ∧ SqL K H a (ks.map V.int) ∧ ks.length < 4000 ∧ ∀ p n, H p = none → n ≤ ks.length → Q (.ref p) (upd H p (SetO w p (fun j => decide (j ∈ ks)) n))
theorem cr_setLsI (hc : X.calm = true) : CallR X (.type "set") (rSetLsI X.K X.w) := by
  intro pins s σ H xs us Q I r h
  obtain ⟨a, ks, rfl, ha, hx, q⟩ := h
  obtain rfl := Vals.ref1 r
  obtain ⟨its, rv, pl, hz⟩ := I.list ha
  refine call_set_lstI ks (I.ok.hd hc) pl.isList (by simpa using rv.ints) (scan_small hx) fun h' tk c R hc' hk => ?_
  exact ⟨.ref _, upd H s.heap.objs.size (SetO X.w s.heap.objs.size (fun j => decide (j ∈ ks)) c), I.laid (t' := tk) hk (Nat.le_refl _) (setO_new R), rfl, q _ c (I.hok.fresh (Nat.le_refl _)) hc'⟩
/-- the same, the readings without the place -/
theorem cr_setLsI2 {K : PySem.W.Frag} {w : World} (eK : X.K = K) (ew : X.w = w) (hc : X.calm = true) : CallR X (.type "set") (rSetLsI K w) := by
  subst eK ew
  exact cr_setLsI hc
theorem cr_sortedSet2 {w : World} (ew : X.w = w) (hc : X.calm = true) : CallR X (.builtin "sorted") (rSortedSet w) := by
  subst ew
  exact cr_sortedSet hc
end
end FM
set_option maxRecDepth 100000
set_option maxHeartbeats 1000000
namespace K0
open PySem L2 FM He
/-- what is met in i rounds -/
def layN (mv : List (Nat × Nat)) (B : List Nat) : Nat → Nat → Prop
  | 0, m => m ∈ B
  | i + 1, m => layN mv B i m ∨ ∃ e ∈ mv, layN mv B i e.1 ∧ e.2 = m
inductive RcN (mv : List (Nat × Nat)) (B : List Nat) : Nat → Prop
  | base {m : Nat} : m ∈ B → RcN mv B m
  | step {m x : Nat} : RcN mv B m → (m, x) ∈ mv → RcN mv B x
theorem lay_sound {mv : List (Nat × Nat)} {B : List Nat} : ∀ {i m : Nat}, layN mv B i m → RcN mv B m
  | 0, _, h => .base h
  | i + 1, m, h => by
    rcases h with h | ⟨e, he, h, rfl⟩
    · exact lay_sound h
    · exact .step (lay_sound h) he
theorem lay_stable {mv : List (Nat × Nat)} {B : List Nat} {i : Nat} (s : ∀ m, layN mv B (i + 1) m → layN mv B i m) (b : ∀ m ∈ B, layN mv B i m) {m : Nat} (h : RcN mv B m) : layN mv B i m := by
  induction h with
  | base h => exact b _ h
  | step _ he ih => exact s _ (.inr ⟨_, he, ih, rfl⟩)
theorem lay_base {mv : List (Nat × Nat)} {B : List Nat} : ∀ {i m : Nat}, m ∈ B → layN mv B i m
  | 0, _, h => h
  | _ + 1, _, h => .inl (lay_base h)
open Classical in
theorem lay_full (mv : List (Nat × Nat)) (B : List Nat) (m : Nat) : layN mv B mv.length m ↔ RcN mv B m := by
  refine ⟨lay_sound, fun h => ?_⟩
  have cnt : ∀ i, (∀ m, layN mv B (i + 1) m → layN mv B i m) ∨ i ≤ (mv.filter fun e => decide (layN mv B i e.2)).length := fun i => by
    induction i with
    | zero => exact .inr (Nat.zero_le _)
    | succ i ih =>
      by_cases st : ∀ m, layN mv B (i + 1 + 1) m → layN mv B (i + 1) m
      · exact .inl st
      · rcases ih with ih | ih
        · refine absurd (fun m h => ?_) st
          rcases h with h | ⟨e, he, h, rfl⟩
          · exact h
          · exact .inr ⟨e, he, ih _ h, rfl⟩
        · refine .inr ?_
          -- a new one
          have : ∃ m, layN mv B (i + 1) m ∧ ¬ layN mv B i m := by
            refine Classical.byContradiction fun no => st fun m h => ?_
            rcases h with h | ⟨e, he, h, rfl⟩
            · exact h
            · refine .inr ⟨e, he, Classical.byContradiction fun z => no ⟨_, h, z⟩, rfl⟩
          obtain ⟨x, hx, nx⟩ := this
          rcases hx with hx | ⟨e, he, h1, rfl⟩
          · exact absurd hx nx
          have go : ∀ l : List (Nat × Nat), e ∈ l → (l.filter fun e => decide (layN mv B i e.2)).length + 1 ≤ (l.filter fun e => decide (layN mv B (i + 1) e.2)).length := fun l hl => by
            have mono : ∀ l : List (Nat × Nat), (l.filter fun e => decide (layN mv B i e.2)).length ≤ (l.filter fun e => decide (layN mv B (i + 1) e.2)).length := fun l => by
              induction l with
              | nil => exact Nat.le_refl _
              | cons a l ih =>
                rw [List.filter_cons, List.filter_cons]
                by_cases h : layN mv B i a.2
                · rw [if_pos (decide_eq_true h), if_pos (decide_eq_true (show layN mv B (i + 1) a.2 from Or.inl h))]
                  exact Nat.succ_le_succ ih
                · rw [if_neg (by rw [decide_eq_false h]; decide)]
                  split
                  · exact Nat.le_succ_of_le ih
                  · exact ih
            induction l with
            | nil => cases hl
            | cons a l ih =>
              rw [List.filter_cons, List.filter_cons]
              rcases List.mem_cons.mp hl with rfl | hl
              · rw [if_neg (by rw [decide_eq_false nx]; decide), if_pos (decide_eq_true (show layN mv B (i + 1) e.2 from Or.inr ⟨e, he, h1, rfl⟩))]
                exact Nat.succ_le_succ (mono l)
              · by_cases h : layN mv B i a.2
                · rw [if_pos (decide_eq_true h), if_pos (decide_eq_true (show layN mv B (i + 1) a.2 from Or.inl h))]
                  exact Nat.succ_le_succ (ih hl)
                · rw [if_neg (by rw [decide_eq_false h]; decide)]
                  split
                  · exact Nat.le_succ_of_le (ih hl)
                  · exact ih hl
          exact Nat.le_trans (Nat.succ_le_succ ih) (go mv he)
  have full : ∀ m, layN mv B (mv.length + 1) m → layN mv B mv.length m := by
    rcases cnt (mv.length + 1) with st | c
    · -- the next is stable: the last one too
      rcases cnt mv.length with s2 | c2
      · exact s2
      · intro m hm
        rcases hm with hm | ⟨e, he, hm, rfl⟩
        · exact hm
        · -- all edges lead into it
          have e1 : mv.filter (fun e => decide (layN mv B mv.length e.2)) = mv := List.filter_sublist.eq_of_length (Nat.le_antisymm (List.length_filter_le _ _) c2)
          rw [← e1] at he
          exact of_decide_eq_true (List.mem_filter.mp he).2
    · have := List.length_filter_le (fun e : Nat × Nat => decide (layN mv B (mv.length + 1) e.2)) mv
      omega
  exact lay_stable full (fun m h => lay_base h) h
/-- a rising list of ints that are members of a list of nats -/
theorem rise_nats {ks : List Nat} {ns : List Int} (pw : ns.Pairwise (· < ·)) (mem : ∀ k : Int, k ∈ ns ↔ decide (k ∈ ks.map fun (m : Nat) => (m : Int)) = true) :
    ∃ l : List Nat, ns = l.map (fun (m : Nat) => (m : Int)) ∧ l.Pairwise (· < ·) ∧ ∀ m, m ∈ l ↔ m ∈ ks := by
  have nn : ∀ k ∈ ns, ∃ m : Nat, k = m ∧ m ∈ ks := fun k hk => by
    obtain ⟨m, hm, rfl⟩ := List.mem_map.mp (of_decide_eq_true ((mem k).mp hk))
    exact ⟨m, rfl, hm⟩
  have e : ns = (ns.map Int.toNat).map fun (m : Nat) => (m : Int) := by
    rw [List.map_map]
    have : ∀ l : List Int, (∀ k ∈ l, ∃ m : Nat, k = m ∧ m ∈ ks) → l = l.map ((fun (m : Nat) => (m : Int)) ∘ Int.toNat) := fun l => by
      induction l with
      | nil => exact fun _ => rfl
      | cons a l ih =>
        intro h
        obtain ⟨m, rfl, _⟩ := h a List.mem_cons_self
        rw [List.map_cons, ← ih fun k hk => h k (List.mem_cons_of_mem _ hk)]
        rfl
    exact this ns nn
  refine ⟨ns.map Int.toNat, e, ?_, fun m => ⟨fun h => ?_, fun h => ?_⟩⟩
  · rw [e, List.pairwise_map] at pw
    exact pw.imp fun h => by omega
  · obtain ⟨k, hk, rfl⟩ := List.mem_map.mp h
    obtain ⟨m, rfl, hm⟩ := nn k hk
    exact hm
  · have := (mem m).mpr (decide_eq_true (List.mem_map.mpr ⟨m, h, rfl⟩))
    exact List.mem_map.mpr ⟨_, this, rfl⟩
theorem rise_len {l : List Nat} {n : Nat} (pw : l.Pairwise (· < ·)) (h : ∀ m ∈ l, m < n) : l.length ≤ n := by
  have nd : l.Nodup := pw.imp fun h => Nat.ne_of_lt h
  have := nd.length_le_of_subset (l₂ := List.range n) fun m hm => List.mem_range.mpr (h m hm)
  rwa [List.length_range] at this
/-- the moves of edges -/
def mvF (es : List Edg) : List (Nat × Nat) := es.map fun e => (e.a, e.b)
def mvR (es : List Edg) : List (Nat × Nat) := es.map fun e => (e.b, e.a)
theorem rcN_F {es : List Edg} {B : List Nat} {m : Nat} : RcN (mvF es) B m ↔ Rch (mvs es) B m := by
  constructor
  · intro h
    induction h with
    | base h => exact .base h
    | @step m x _ he ih =>
      obtain ⟨e, he, e2⟩ := List.mem_map.mp he
      injection e2 with e1 e2
      exact .step ih (List.mem_map.mpr ⟨e, he, by rw [e1, e2]⟩)
  · intro h
    induction h with
    | base h => exact .base h
    | @step m x _ he ih =>
      obtain ⟨e, he, e2⟩ := List.mem_map.mp he
      simp only [List.cons.injEq, and_true] at e2
      exact .step ih (List.mem_map.mpr ⟨e, he, Prod.ext (by show e.a = m; omega) (by show e.b = x; omega)⟩)
theorem rcN_R {es : List Edg} {B : List Nat} {m : Nat} : RcN (mvR es) B m ↔ Rch (mvsB es) B m := by
  constructor
  · intro h
    induction h with
    | base h => exact .base h
    | @step m x _ he ih =>
      obtain ⟨e, he, e2⟩ := List.mem_map.mp he
      injection e2 with e1 e2
      exact .step ih (List.mem_map.mpr ⟨e, he, by rw [e1, e2]⟩)
  · intro h
    induction h with
    | base h => exact .base h
    | @step m x _ he ih =>
      obtain ⟨e, he, e2⟩ := List.mem_map.mp he
      simp only [List.cons.injEq, and_true] at e2
      exact .step ih (List.mem_map.mpr ⟨e, he, Prod.ext (by show e.b = m; omega) (by show e.a = x; omega)⟩)
end K0
set_option maxRecDepth 100000
set_option maxHeartbeats 1000000
namespace K0
open PySem L2 FM He
theorem flat_nats (l : List Nat) : (l.map fun (m : Nat) => V.int (m : Nat)).all flatV = true := by
  rw [List.all_map]
  exact List.all_eq_true.mpr fun _ _ => rfl
theorem iteB {c d : Bool} {A B : Prop} (e : c = d) (h1 : d = true → A) (h2 : d = false → B) : if c = true then A else B := by
  subst e
  cases c with
  | true => exact h1 rfl
  | false => exact h2 rfl
section
variable {P : Program} {w : World} {K : PySem.W.Frag} {mg : Str → Option Value} {base : Heap}
def spBeh (K : PySem.W.Frag) (mv : List Edg → List (Nat × Nat)) : Sp := fun vs H Q _ => ∃ (p l : Addr) (R : RwP) (B : List Nat), vs = [.ref p, .ref l] ∧ R.Ok ∧ R.ed.length ≤ 40 ∧ PlnAt H p R ∧ SqL K H l (B.map fun (m : Nat) => V.int (m : Nat)) ∧ B.length ≤ 12 ∧ (∀ m ∈ B, m < 12) ∧
  ∀ q H' (ns : List Nat), Same H H' → H q = none → H' q = some (.lst (ns.map fun (m : Nat) => V.int (m : Nat))) → ns.Pairwise (· < ·) → (∀ m, m ∈ ns ↔ RcN (mv R.ed) B m) → Q (.ref q) H'
theorem ok_law_behind {f : Addr} {fd : FuncData} (F : FnP K "_law_behind" s__law_behind f fd) (T : TP K mg) : FnOk P w K mg base CX0 1 f fd ["_law_plain", "_law_states"] (spBeh K mvF) := by
  refine F.ok sc__law_behind (fun vs H Q E h => ?_) (fun cdv A outer s H vs Q E hr h => ?_)
  · obtain ⟨p, l, R, B, rfl, _⟩ := h
    rfl
  · obtain ⟨p, l, R, B, rfl, okR, e24, hp, hl, b12, B12, k⟩ := h
    have nd := sc__law_behind.nd
    have big : (100000 : Nat) ≤ sizeLine := by decide
    refine ⟨_, PSs.nox (pss_cons (ps_set (i := 2) nd rfl (.inr rfl) (pe_callB (cr_sortedSet2 (w := w) rfl rfl) (by rfl) T.b_sorted (by decide +kernel) (pa_cons (pe_callTy (cr_setLsI2 (K := K) (w := w) rfl rfl rfl) (by rfl) T.b_set (by decide +kernel) (pa_cons (pv 1) pa_nil)) pa_nil)))
      (pss_cons (ps_for PassesOwn.never rfl (pi_range1 (by rfl) T.b_range (pa_cons (pe_callB call_len (by rfl) T.b_len (by decide +kernel) (pa_cons (pe_ix ix_seq (pv 0) pe_int (fun _ _ => rfl)) pa_nil)) pa_nil)) (pg_name (i := 3) nd rfl (.inl rfl)) (pss_cons (ps_setLc (i := 4) (own := [("_law_edge", 5)]) rfl nd rfl rfl (sw_true rfl rfl rfl (by decide +kernel)) (pi_tup (pe_ix ix_seq (pv 0) pe_int (fun _ _ => rfl))) (blkOk_by (own := [("_law_edge", 5)]) (N := ["_law_plain", "_law_states", "_law_found", "_law_turn", "_law_more", "_law_edge"]) (sc := defScope s__law_behind) (by decide +kernel)) (fun _ _ _ _ _ => (pg_name (i := 5) nd rfl (.inl rfl))) (fun _ _ _ _ _ => pts_one (pt_cmpR (op_in_seq : OpR _ _ (rIn K false)) (pe_ix (ix_seq : IxR _ (rIx K)) (pv 5) pe_int (fun _ _ => rfl)) (pv 2) (by rfl))) (fun _ _ _ _ _ => (pe_ix (ix_seq : IxR _ (rIx K)) (pv 5) pe_int (fun _ _ => rfl))))
      (pss_one (ps_set (i := 2) nd rfl (.inr rfl) (pe_callB (cr_sortedSet2 (w := w) rfl rfl) (by rfl) T.b_sorted (by decide +kernel) (pa_cons (pe_callTy (cr_setLsI2 (K := K) (w := w) rfl rfl rfl) (by rfl) T.b_set (by decide +kernel) (pa_cons (pe_op op_cat (pv 2) (pv 4)) pa_nil)) pa_nil))))))
      (pss_one (ps_ret (pv 2))))), ?_⟩
    refine ⟨_, rfl, l, B.map fun (m : Nat) => (m : Int), rfl, by rw [List.map_map]; exact hl, by rw [List.length_map]; omega, fun s1 n1 ns1 nl1 => ?_⟩
    rw [List.length_map] at nl1
    refine ⟨s1, _, n1, rfl, upd_same, by omega, fun (ns : List Int) q pw mem nn nq => ?_⟩
    obtain ⟨ns, rfl, pw, mem⟩ := rise_nats pw mem
    rw [List.map_map]
    have SL := (same_upd (o := SetO w s1 (fun j => decide (j ∈ B.map fun (m : Nat) => (m : Int))) n1) ns1).trans (same_upd (o := .lst (ns.map (V.int ∘ fun (m : Nat) => (m : Int)))) nq)
    have nqH : H q = none := (same_upd (o := SetO w s1 (fun j => decide (j ∈ B.map fun (m : Nat) => (m : Int))) n1) ns1).free nq
    have hq : upd (upd H s1 (SetO w s1 (fun j => decide (j ∈ B.map fun (m : Nat) => (m : Int))) n1)) q (.lst (ns.map (V.int ∘ fun (m : Nat) => (m : Int)))) q = some (.lst (ns.map fun (m : Nat) => V.int (m : Nat))) := upd_same
    generalize upd (upd H s1 (SetO w s1 (fun j => decide (j ∈ B.map fun (m : Nat) => (m : Int))) n1)) q (.lst (ns.map (V.int ∘ fun (m : Nat) => (m : Int)))) = H1 at SL hq ⊢
    obtain ⟨a0, t, b0, h1, h2, h3, ks, h4, h5, h6⟩ := hp
    have lk : ks.length = R.ed.length := by have := congrArg List.length h5; rwa [List.length_map] at this
    refine ⟨_, rfl, .inr (.inl ⟨p, _, 2, .ref t, rfl, rfl, .of (SL _ _ h1), atI_nat (j := 2) rfl, ?_⟩)⟩
    refine ⟨_, _, rfl, .inr ⟨_, .of (SL _ _ h4), rfl⟩, ?_⟩
    rw [List.length_map]
    refine ⟨_, rfl, by omega, by omega, ?_⟩
    refine for_it walk_range (fun i σ H' => ∃ (u3 u4 : Option V) (L : Addr) (ns : List Nat), σ = [some (.ref p), some (.ref l), some (.ref L), u3, u4, none] ∧ Same H H' ∧ H L = none ∧ H' L = some (.lst (ns.map fun (m : Nat) => V.int (m : Nat))) ∧ ns.Pairwise (· < ·) ∧ ∀ m, m ∈ ns ↔ layN (mvF R.ed) B i m)
      ⟨_, _, q, ns, rfl, SL, nqH, hq, pw, mem⟩ (fun _ _ _ _ _ => trivial) ?_ ?_
    · rintro i y σ H2 H2' hi ⟨u3, u4, L, ns, rfl, S2, nL, hL, pw, mem⟩ ⟨rfl, rfl⟩
      have n12 : ns.length ≤ 12 := rise_len pw fun m hm => by
        have := lay_sound ((mem m).mp hm)
        induction this with
        | base h => exact B12 _ h
        | step _ he ih =>
          obtain ⟨e, he, e2⟩ := List.mem_map.mp he
          injection e2 with e1 e2
          rw [← e2]
          exact (okR.ed e he).b
      refine ⟨_, rfl, .inr (.inl ⟨p, _, 2, .ref t, rfl, rfl, .of (S2 _ _ h1), atI_nat (j := 2) rfl, t, rfl, ⟨_, .of (S2 _ _ h4)⟩, fun M nM => ?_⟩)⟩
      refine lc_it walk_tup (fun j H' => Same H2' H' ∧ H' M = some (.lst ((((R.ed.take j).filter fun e => decide (e.a ∈ ns)).map fun e => V.int (e.b : Nat))))) ⟨same_upd nM, upd_same⟩ (fun i H' _ h => .of (h.1 _ _ (S2 _ _ h4))) ?_ ?_
      · rintro j y H3 H3' hj ⟨S3, hM⟩ ⟨rfl, hy⟩
        rw [List.getElem?_map] at hy
        obtain ⟨ke, hke, rfl⟩ := Option.map_eq_some_iff.mp hy
        have ha := S3 _ _ (S2 _ _ (h6 ke (List.mem_of_getElem? hke)))
        have hej : R.ed[j]? = some ke.2 := by rw [← h5, List.getElem?_map, hke]; rfl
        have tk : R.ed.take (j + 1) = R.ed.take j ++ [ke.2] := by rw [List.take_add_one, hej]; rfl
        refine ⟨rfl, _, rfl, .inr (.inl ⟨ke.1, _, 0, _, rfl, rfl, .of ha, atI_nat (j := 0) rfl, _, rfl, L, _, rfl, .inl (.of (S3 _ _ hL)), rfl, flat_nats ns, _, rfl, ?_⟩)⟩
        have ev : (if false = true then !inV (V.int (ke.2.a : Nat)) (ns.map fun (m : Nat) => V.int (m : Nat)) else inV (V.int (ke.2.a : Nat)) (ns.map fun (m : Nat) => V.int (m : Nat))) = decide (ke.2.a ∈ ns) := inV_nats ke.2.a ns
        have hl2 : ((R.ed.take j).filter fun e => decide (e.a ∈ ns)).length ≤ 40 := by
          have := List.length_filter_le (fun e : Edg => decide (e.a ∈ ns)) (R.ed.take j)
          rw [List.length_take] at this
          omega
        rw [tk, List.filter_append, List.map_append]
        refine iteB ev (fun hin => ?_) fun hin => ?_
        · refine ⟨_, rfl, .inr (.inl ⟨ke.1, _, 3, _, rfl, rfl, .of ha, atI_nat (j := 3) rfl, _, hM, by rw [List.length_map]; omega, upd_far nM S3, ?_⟩)⟩
          rw [show ([ke.2].filter fun e => decide (e.a ∈ ns)) = [ke.2] from by rw [List.filter_cons, if_pos hin]; rfl]
          exact upd_same
        · rw [show ([ke.2].filter fun e => decide (e.a ∈ ns)) = [] from by rw [List.filter_cons, if_neg (by rw [hin]; decide)]; rfl, List.map_nil, List.append_nil]
          exact ⟨S3, hM⟩
      · rintro H3 ⟨S3, hM⟩
        rw [List.length_map, lk, List.take_length] at hM
        have hL3 := S3 _ _ hL
        have ml : ((R.ed.filter fun e => decide (e.a ∈ ns)).map fun e => V.int (e.b : Nat)).length ≤ 40 := by
          have := List.length_filter_le (fun e : Edg => decide (e.a ∈ ns)) R.ed
          rw [List.length_map]
          omega
        refine ⟨_, rfl, _, rfl, L, M, _, _, rfl, rfl, hL3, hM, by rw [List.length_map]; omega, fun C nC => ?_⟩
        have eC : ((ns.map fun (m : Nat) => V.int (m : Nat)) ++ (R.ed.filter fun e => decide (e.a ∈ ns)).map fun e => V.int (e.b : Nat)) = ((ns ++ (R.ed.filter fun e => decide (e.a ∈ ns)).map Edg.b).map fun (m : Nat) => (m : Int)).map V.int := by
          rw [List.map_map, List.map_append, List.map_map]
          rfl
        rw [eC]
        rw [List.length_map] at ml
        have SC := same_upd (o := .lst (((ns ++ (R.ed.filter fun e => decide (e.a ∈ ns)).map Edg.b).map fun (m : Nat) => (m : Int)).map V.int)) nC
        have hC : upd H3 C (.lst (((ns ++ (R.ed.filter fun e => decide (e.a ∈ ns)).map Edg.b).map fun (m : Nat) => (m : Int)).map V.int)) C = some (.lst (((ns ++ (R.ed.filter fun e => decide (e.a ∈ ns)).map Edg.b).map fun (m : Nat) => (m : Int)).map V.int)) := upd_same
        have S4 := (S2.trans S3).trans SC
        generalize upd H3 C (.lst (((ns ++ (R.ed.filter fun e => decide (e.a ∈ ns)).map Edg.b).map fun (m : Nat) => (m : Int)).map V.int)) = H4 at S4 hC ⊢
        generalize eks : ns ++ (R.ed.filter fun e => decide (e.a ∈ ns)).map Edg.b = ks2 at hC
        have kl : ks2.length ≤ 52 := by rw [← eks, List.length_append, List.length_map]; omega
        refine ⟨C, ks2.map fun (m : Nat) => (m : Int), rfl, .of hC, by rw [List.length_map]; omega, fun s1 n1 ns1 nl1 => ?_⟩
        rw [List.length_map] at nl1
        refine ⟨s1, _, n1, rfl, upd_same, by omega, fun (ns2 : List Int) q2 pw2 mem2 nn2 nq2 => ?_⟩
        obtain ⟨ns2, rfl, pw2, mem2⟩ := rise_nats pw2 mem2
        have SA := same_upd (o := SetO w s1 (fun j => decide (j ∈ ks2.map fun (m : Nat) => (m : Int))) n1) ns1
        have SL := SA.trans (same_upd (o := .lst ((ns2.map fun (m : Nat) => (m : Int)).map V.int)) nq2)
        refine ⟨_, _, q2, ns2, rfl, S4.trans SL, (S4.trans SA).free nq2, ?_, pw2, fun m => ?_⟩
        · rw [upd_same, List.map_map]
          rfl
        · rw [mem2, ← eks, List.mem_append, mem]
          refine or_congr Iff.rfl ⟨fun h => ?_, fun ⟨e, he, h, e2⟩ => ?_⟩
          · obtain ⟨e, he, rfl⟩ := List.mem_map.mp h
            obtain ⟨he, hin⟩ := List.mem_filter.mp he
            exact ⟨(e.a, e.b), List.mem_map.mpr ⟨e, he, rfl⟩, (mem _).mp (of_decide_eq_true hin), rfl⟩
          · obtain ⟨e', he', rfl⟩ := List.mem_map.mp he
            exact List.mem_map.mpr ⟨e', List.mem_filter.mpr ⟨he', decide_eq_true ((mem _).mpr h)⟩, e2⟩
    · rintro σ H2 ⟨u3, u4, L, ns, rfl, S2, nL, hL, pw, mem⟩
      refine ⟨_, rfl, k L H2 ns S2 nL hL pw fun m => ?_⟩
      rw [mem, Int.toNat_natCast, lk, show R.ed.length = (mvF R.ed).length from (List.length_map _).symm]
      exact lay_full _ _ _
theorem ok_law_ahead_of {f : Addr} {fd : FuncData} (F : FnP K "_law_ahead_of" s__law_ahead_of f fd) (T : TP K mg) : FnOk P w K mg base CX0 1 f fd ["_law_plain", "_law_states"] (spBeh K mvR) := by
  refine F.ok sc__law_ahead_of (fun vs H Q E h => ?_) (fun cdv A outer s H vs Q E hr h => ?_)
  · obtain ⟨p, l, R, B, rfl, _⟩ := h
    rfl
  · obtain ⟨p, l, R, B, rfl, okR, e24, hp, hl, b12, B12, k⟩ := h
    have nd := sc__law_ahead_of.nd
    have big : (100000 : Nat) ≤ sizeLine := by decide
    refine ⟨_, PSs.nox (pss_cons (ps_set (i := 2) nd rfl (.inr rfl) (pe_callB (cr_sortedSet2 (w := w) rfl rfl) (by rfl) T.b_sorted (by decide +kernel) (pa_cons (pe_callTy (cr_setLsI2 (K := K) (w := w) rfl rfl rfl) (by rfl) T.b_set (by decide +kernel) (pa_cons (pv 1) pa_nil)) pa_nil)))
      (pss_cons (ps_for PassesOwn.never rfl (pi_range1 (by rfl) T.b_range (pa_cons (pe_callB call_len (by rfl) T.b_len (by decide +kernel) (pa_cons (pe_ix ix_seq (pv 0) pe_int (fun _ _ => rfl)) pa_nil)) pa_nil)) (pg_name (i := 3) nd rfl (.inl rfl)) (pss_cons (ps_setLc (i := 4) (own := [("_law_edge", 5)]) rfl nd rfl rfl (sw_true rfl rfl rfl (by decide +kernel)) (pi_tup (pe_ix ix_seq (pv 0) pe_int (fun _ _ => rfl))) (blkOk_by (own := [("_law_edge", 5)]) (N := ["_law_plain", "_law_states", "_law_found", "_law_turn", "_law_more", "_law_edge"]) (sc := defScope s__law_ahead_of) (by decide +kernel)) (fun _ _ _ _ _ => (pg_name (i := 5) nd rfl (.inl rfl))) (fun _ _ _ _ _ => pts_one (pt_cmpR (op_in_seq : OpR _ _ (rIn K false)) (pe_ix (ix_seq : IxR _ (rIx K)) (pv 5) pe_int (fun _ _ => rfl)) (pv 2) (by rfl))) (fun _ _ _ _ _ => (pe_ix (ix_seq : IxR _ (rIx K)) (pv 5) pe_int (fun _ _ => rfl))))
      (pss_one (ps_set (i := 2) nd rfl (.inr rfl) (pe_callB (cr_sortedSet2 (w := w) rfl rfl) (by rfl) T.b_sorted (by decide +kernel) (pa_cons (pe_callTy (cr_setLsI2 (K := K) (w := w) rfl rfl rfl) (by rfl) T.b_set (by decide +kernel) (pa_cons (pe_op op_cat (pv 2) (pv 4)) pa_nil)) pa_nil))))))
      (pss_one (ps_ret (pv 2))))), ?_⟩
    refine ⟨_, rfl, l, B.map fun (m : Nat) => (m : Int), rfl, by rw [List.map_map]; exact hl, by rw [List.length_map]; omega, fun s1 n1 ns1 nl1 => ?_⟩
    rw [List.length_map] at nl1
    refine ⟨s1, _, n1, rfl, upd_same, by omega, fun (ns : List Int) q pw mem nn nq => ?_⟩
    obtain ⟨ns, rfl, pw, mem⟩ := rise_nats pw mem
    rw [List.map_map]
    have SL := (same_upd (o := SetO w s1 (fun j => decide (j ∈ B.map fun (m : Nat) => (m : Int))) n1) ns1).trans (same_upd (o := .lst (ns.map (V.int ∘ fun (m : Nat) => (m : Int)))) nq)
    have nqH : H q = none := (same_upd (o := SetO w s1 (fun j => decide (j ∈ B.map fun (m : Nat) => (m : Int))) n1) ns1).free nq
    have hq : upd (upd H s1 (SetO w s1 (fun j => decide (j ∈ B.map fun (m : Nat) => (m : Int))) n1)) q (.lst (ns.map (V.int ∘ fun (m : Nat) => (m : Int)))) q = some (.lst (ns.map fun (m : Nat) => V.int (m : Nat))) := upd_same
    generalize upd (upd H s1 (SetO w s1 (fun j => decide (j ∈ B.map fun (m : Nat) => (m : Int))) n1)) q (.lst (ns.map (V.int ∘ fun (m : Nat) => (m : Int)))) = H1 at SL hq ⊢
    obtain ⟨a0, t, b0, h1, h2, h3, ks, h4, h5, h6⟩ := hp
    have lk : ks.length = R.ed.length := by have := congrArg List.length h5; rwa [List.length_map] at this
    refine ⟨_, rfl, .inr (.inl ⟨p, _, 2, .ref t, rfl, rfl, .of (SL _ _ h1), atI_nat (j := 2) rfl, ?_⟩)⟩
    refine ⟨_, _, rfl, .inr ⟨_, .of (SL _ _ h4), rfl⟩, ?_⟩
    rw [List.length_map]
    refine ⟨_, rfl, by omega, by omega, ?_⟩
    refine for_it walk_range (fun i σ H' => ∃ (u3 u4 : Option V) (L : Addr) (ns : List Nat), σ = [some (.ref p), some (.ref l), some (.ref L), u3, u4, none] ∧ Same H H' ∧ H L = none ∧ H' L = some (.lst (ns.map fun (m : Nat) => V.int (m : Nat))) ∧ ns.Pairwise (· < ·) ∧ ∀ m, m ∈ ns ↔ layN (mvR R.ed) B i m)
      ⟨_, _, q, ns, rfl, SL, nqH, hq, pw, mem⟩ (fun _ _ _ _ _ => trivial) ?_ ?_
    · rintro i y σ H2 H2' hi ⟨u3, u4, L, ns, rfl, S2, nL, hL, pw, mem⟩ ⟨rfl, rfl⟩
      have n12 : ns.length ≤ 12 := rise_len pw fun m hm => by
        have := lay_sound ((mem m).mp hm)
        induction this with
        | base h => exact B12 _ h
        | step _ he ih =>
          obtain ⟨e, he, e2⟩ := List.mem_map.mp he
          injection e2 with e1 e2
          rw [← e2]
          exact (okR.ed e he).a
      refine ⟨_, rfl, .inr (.inl ⟨p, _, 2, .ref t, rfl, rfl, .of (S2 _ _ h1), atI_nat (j := 2) rfl, t, rfl, ⟨_, .of (S2 _ _ h4)⟩, fun M nM => ?_⟩)⟩
      refine lc_it walk_tup (fun j H' => Same H2' H' ∧ H' M = some (.lst ((((R.ed.take j).filter fun e => decide (e.b ∈ ns)).map fun e => V.int (e.a : Nat))))) ⟨same_upd nM, upd_same⟩ (fun i H' _ h => .of (h.1 _ _ (S2 _ _ h4))) ?_ ?_
      · rintro j y H3 H3' hj ⟨S3, hM⟩ ⟨rfl, hy⟩
        rw [List.getElem?_map] at hy
        obtain ⟨ke, hke, rfl⟩ := Option.map_eq_some_iff.mp hy
        have ha := S3 _ _ (S2 _ _ (h6 ke (List.mem_of_getElem? hke)))
        have hej : R.ed[j]? = some ke.2 := by rw [← h5, List.getElem?_map, hke]; rfl
        have tk : R.ed.take (j + 1) = R.ed.take j ++ [ke.2] := by rw [List.take_add_one, hej]; rfl
        refine ⟨rfl, _, rfl, .inr (.inl ⟨ke.1, _, 3, _, rfl, rfl, .of ha, atI_nat (j := 3) rfl, _, rfl, L, _, rfl, .inl (.of (S3 _ _ hL)), rfl, flat_nats ns, _, rfl, ?_⟩)⟩
        have ev : (if false = true then !inV (V.int (ke.2.b : Nat)) (ns.map fun (m : Nat) => V.int (m : Nat)) else inV (V.int (ke.2.b : Nat)) (ns.map fun (m : Nat) => V.int (m : Nat))) = decide (ke.2.b ∈ ns) := inV_nats ke.2.b ns
        have hl2 : ((R.ed.take j).filter fun e => decide (e.b ∈ ns)).length ≤ 40 := by
          have := List.length_filter_le (fun e : Edg => decide (e.b ∈ ns)) (R.ed.take j)
          rw [List.length_take] at this
          omega
        rw [tk, List.filter_append, List.map_append]
        refine iteB ev (fun hin => ?_) fun hin => ?_
        · refine ⟨_, rfl, .inr (.inl ⟨ke.1, _, 0, _, rfl, rfl, .of ha, atI_nat (j := 0) rfl, _, hM, by rw [List.length_map]; omega, upd_far nM S3, ?_⟩)⟩
          rw [show ([ke.2].filter fun e => decide (e.b ∈ ns)) = [ke.2] from by rw [List.filter_cons, if_pos hin]; rfl]
          exact upd_same
        · rw [show ([ke.2].filter fun e => decide (e.b ∈ ns)) = [] from by rw [List.filter_cons, if_neg (by rw [hin]; decide)]; rfl, List.map_nil, List.append_nil]
          exact ⟨S3, hM⟩
      · rintro H3 ⟨S3, hM⟩
        rw [List.length_map, lk, List.take_length] at hM
        have hL3 := S3 _ _ hL
        have ml : ((R.ed.filter fun e => decide (e.b ∈ ns)).map fun e => V.int (e.a : Nat)).length ≤ 40 := by
          have := List.length_filter_le (fun e : Edg => decide (e.b ∈ ns)) R.ed
          rw [List.length_map]
          omega
        refine ⟨_, rfl, _, rfl, L, M, _, _, rfl, rfl, hL3, hM, by rw [List.length_map]; omega, fun C nC => ?_⟩
        have eC : ((ns.map fun (m : Nat) => V.int (m : Nat)) ++ (R.ed.filter fun e => decide (e.b ∈ ns)).map fun e => V.int (e.a : Nat)) = ((ns ++ (R.ed.filter fun e => decide (e.b ∈ ns)).map Edg.a).map fun (m : Nat) => (m : Int)).map V.int := by
          rw [List.map_map, List.map_append, List.map_map]
          rfl
        rw [eC]
        rw [List.length_map] at ml
        have SC := same_upd (o := .lst (((ns ++ (R.ed.filter fun e => decide (e.b ∈ ns)).map Edg.a).map fun (m : Nat) => (m : Int)).map V.int)) nC
        have hC : upd H3 C (.lst (((ns ++ (R.ed.filter fun e => decide (e.b ∈ ns)).map Edg.a).map fun (m : Nat) => (m : Int)).map V.int)) C = some (.lst (((ns ++ (R.ed.filter fun e => decide (e.b ∈ ns)).map Edg.a).map fun (m : Nat) => (m : Int)).map V.int)) := upd_same
        have S4 := (S2.trans S3).trans SC
        generalize upd H3 C (.lst (((ns ++ (R.ed.filter fun e => decide (e.b ∈ ns)).map Edg.a).map fun (m : Nat) => (m : Int)).map V.int)) = H4 at S4 hC ⊢
        generalize eks : ns ++ (R.ed.filter fun e => decide (e.b ∈ ns)).map Edg.a = ks2 at hC
        have kl : ks2.length ≤ 52 := by rw [← eks, List.length_append, List.length_map]; omega
        refine ⟨C, ks2.map fun (m : Nat) => (m : Int), rfl, .of hC, by rw [List.length_map]; omega, fun s1 n1 ns1 nl1 => ?_⟩
        rw [List.length_map] at nl1
        refine ⟨s1, _, n1, rfl, upd_same, by omega, fun (ns2 : List Int) q2 pw2 mem2 nn2 nq2 => ?_⟩
        obtain ⟨ns2, rfl, pw2, mem2⟩ := rise_nats pw2 mem2
        have SA := same_upd (o := SetO w s1 (fun j => decide (j ∈ ks2.map fun (m : Nat) => (m : Int))) n1) ns1
        have SL := SA.trans (same_upd (o := .lst ((ns2.map fun (m : Nat) => (m : Int)).map V.int)) nq2)
        refine ⟨_, _, q2, ns2, rfl, S4.trans SL, (S4.trans SA).free nq2, ?_, pw2, fun m => ?_⟩
        · rw [upd_same, List.map_map]
          rfl
        · rw [mem2, ← eks, List.mem_append, mem]
          refine or_congr Iff.rfl ⟨fun h => ?_, fun ⟨e, he, h, e2⟩ => ?_⟩
          · obtain ⟨e, he, rfl⟩ := List.mem_map.mp h
            obtain ⟨he, hin⟩ := List.mem_filter.mp he
            exact ⟨(e.b, e.a), List.mem_map.mpr ⟨e, he, rfl⟩, (mem _).mp (of_decide_eq_true hin), rfl⟩
          · obtain ⟨e', he', rfl⟩ := List.mem_map.mp he
            exact List.mem_map.mpr ⟨e', List.mem_filter.mpr ⟨he', decide_eq_true ((mem _).mpr h)⟩, e2⟩
    · rintro σ H2 ⟨u3, u4, L, ns, rfl, S2, nL, hL, pw, mem⟩
      refine ⟨_, rfl, k L H2 ns S2 nL hL pw fun m => ?_⟩
      rw [mem, Int.toNat_natCast, lk, show R.ed.length = (mvR R.ed).length from (List.length_map _).symm]
      exact lay_full _ _ _
end
end K0
set_option maxRecDepth 100000
set_option maxHeartbeats 1000000
namespace K0
open PySem L2 FM He
theorem entW_refs (st : List (Nat × Str)) : (entW st).map (fun kv => kV kv.1) = (st.map (·.1)).map fun (m : Nat) => V.int (m : Nat) := by
  unfold entW
  rw [List.map_map, List.map_map]
  rfl
theorem tbl_keys {st : List (Nat × Str)} (ok : TblOk st) : (st.map (·.1)).length ≤ 12 ∧ ∀ m ∈ st.map (·.1), m < 12 := by
  have lt : ∀ m ∈ st.map (·.1), m < 12 := fun m hm => by
    obtain ⟨p, hp, rfl⟩ := List.mem_map.mp hm
    exact ok.few p hp
  have := nat_nodup_len _ (List.range 12) ok.nd fun m hm => List.mem_range.mpr (lt m hm)
  rw [List.length_range] at this
  exact ⟨this, lt⟩
/-- kept edges, sorted: one only -/
theorem kept_of2 {R : RwP} {us : List Nat} (rise : us.Pairwise (· < ·)) (mem : ∀ m, m ∈ us ↔ R.Useful m) {ks L1 : List (Addr × Edg)} (eks : ks.map (·.2) = R.ed) (sub : ∀ q ∈ L1, q ∈ ks.filter fun q => decide (q.2.a ∈ us) && decide (q.2.b ∈ us))
    (all : ∀ q ∈ ks.filter (fun q => decide (q.2.a ∈ us) && decide (q.2.b ∈ us)), q.2.row ∈ L1.map fun q => q.2.row) (nd : (L1.map fun q => q.2.row).Nodup) (srt : KSorted (L1.map fun q => q.2.row)) : Kept R us (L1.map (·.2)) := by
  refine ⟨rise, mem, ?_, ?_, fun e => ?_⟩
  · rw [List.map_map]
    exact srt
  · unfold List.Nodup at nd ⊢
    rw [List.pairwise_map] at nd ⊢
    exact nd.imp fun ne e => ne (by rw [e])
  · rw [← eks]
    refine ⟨fun z => ?_, fun ⟨z, h1, h2⟩ => ?_⟩
    · obtain ⟨q, hq, rfl⟩ := List.mem_map.mp z
      obtain ⟨h1, h2⟩ := List.mem_filter.mp (sub q hq)
      rw [Bool.and_eq_true, decide_eq_true_iff, decide_eq_true_iff] at h2
      exact ⟨List.mem_map.mpr ⟨q, h1, rfl⟩, h2⟩
    · obtain ⟨q, hq, rfl⟩ := List.mem_map.mp z
      obtain ⟨q2, hq2, e⟩ := List.mem_map.mp (all q (List.mem_filter.mpr ⟨hq, by rw [decide_eq_true h1, decide_eq_true h2]; rfl⟩))
      exact List.mem_map.mpr ⟨q2, hq2, row_inj e⟩
/-- what the law keeps of R -/
def RwP.cut (R : RwP) (us : List Nat) (ed : List Edg) : RwP := ⟨R.sg, atS R.st us, ed, atS R.en us⟩
section
variable {P : Program} {w : World} {K : PySem.W.Frag} {mg : Str → Option Value} {base : Heap}
def spUse (K : PySem.W.Frag) : Sp := fun vs H Q _ => ∃ (p : Addr) (R : RwP), vs = [.ref p] ∧ R.Ok ∧ R.ed.length ≤ 40 ∧ PlnAt H p R ∧
  ∀ q H' us ed, Same H H' → H q = none → Kept R us ed → PlnAt H' q (RwP.cut R us ed) → Q (.ref q) H'
theorem ok_law_useful {f : Addr} {fd : FuncData} (F : FnP K "_law_useful" s__law_useful f fd) (T : TP K mg) : FnOk P w K mg base CX0 2 f fd ["_law_plain"] (spUse K) := by
  obtain ⟨d__law_ahead_of, F__law_ahead_of⟩ := T.f__law_ahead_of
  have G__law_ahead_of := ok_law_ahead_of (P := P) (w := w) (base := base) F__law_ahead_of T
  have b__law_ahead_of : Binds K d__law_ahead_of ["_law_plain", "_law_states"] [] := F__law_ahead_of.bindsN fun _ _ _ _ _ _ us hl => match us, hl with | [_, _], _ => rfl
  obtain ⟨d__law_behind, F__law_behind⟩ := T.f__law_behind
  have G__law_behind := ok_law_behind (P := P) (w := w) (base := base) F__law_behind T
  have b__law_behind : Binds K d__law_behind ["_law_plain", "_law_states"] [] := F__law_behind.bindsN fun _ _ _ _ _ _ us hl => match us, hl with | [_, _], _ => rfl
  refine F.ok sc__law_useful (fun vs H Q E h => ?_) (fun cdv A outer s H vs Q E hr h => ?_)
  · obtain ⟨p, R, rfl, _⟩ := h
    rfl
  · obtain ⟨p, R, rfl, okR, e24, hp, k⟩ := h
    have nd := sc__law_useful.nd
    have hu64 := hr.units
    have hu1 := Nat.lt_of_le_of_lt (Nat.add_le_add_left (by decide : 1 ≤ 64) _) hu64
    have big : (100000 : Nat) ≤ sizeLine := by decide
    refine ⟨_, PSs.nox (pss_cons (ps_set (i := 1) nd rfl (.inr rfl) (pe_call G__law_ahead_of (hr.mono (by decide)) rfl T.g__law_ahead_of F__law_ahead_of.kp b__law_ahead_of .nil pass0 (pa_cons (pv 0) (pa_cons (pe_callTy (call_listD rfl) (by rfl) T.b_list (by decide +kernel) (pa_cons (pe_ix ix_seq (pv 0) pe_int (fun _ _ => rfl)) pa_nil)) pa_nil))))
      (pss_cons (ps_set (i := 2) nd rfl (.inr rfl) (pe_lc (own := [("_law_room", 3)]) rfl nd (pi_list (pe_call G__law_behind (hr.mono (by decide)) rfl T.g__law_behind F__law_behind.kp b__law_behind .nil pass0 (pa_cons (pv 0) (pa_cons (pe_callTy (call_listD rfl) (by rfl) T.b_list (by decide +kernel) (pa_cons (pe_ix ix_seq (pv 0) pe_int (fun _ _ => rfl)) pa_nil)) pa_nil)))) (blkOk_by (own := [("_law_room", 3)]) (N := ["_law_plain", "_law_before", "_law_kept", "_law_room", "_law_first", "_law_last", "_law_edges", "_law_edge"]) (sc := defScope s__law_useful) (by decide +kernel)) (fun _ _ _ _ _ => (pg_name (i := 3) nd rfl (.inl rfl))) (fun _ _ _ _ _ => pts_one (pt_cmpR (op_in_seq : OpR _ _ (rIn K false)) (pv 3) (pv 1) (by rfl))) (fun _ _ _ _ _ => (pv 3))))
      (pss_cons (ps_set (i := 4) nd rfl (.inl rfl) pe_dnewK)
      (pss_cons (ps_set (i := 5) nd rfl (.inl rfl) pe_dnewK)
      (pss_cons (ps_for PassesOwn.never rfl (pi_list (pv 2)) (pg_name (i := 3) nd rfl (.inl rfl)) (pss_cons (ps_if (pt_cmp (pc_din hu1 (pv 3) (pe_ix ix_seq (pv 0) pe_int (fun _ _ => rfl))) rfl) (pss_one (ps_dput hu1 (pv 4) (pv 3) (pe_dget hu1 (pe_ix ix_seq (pv 0) pe_int (fun _ _ => rfl)) (pv 3) (fun _ _ => rfl)) rfl)) pss_nil)
      (pss_one (ps_if (pt_cmp (pc_din hu1 (pv 3) (pe_ix ix_seq (pv 0) pe_int (fun _ _ => rfl))) rfl) (pss_one (ps_dput hu1 (pv 5) (pv 3) (pe_dget hu1 (pe_ix ix_seq (pv 0) pe_int (fun _ _ => rfl)) (pv 3) (fun _ _ => rfl)) rfl)) pss_nil))))
      (pss_cons (ps_setLc (i := 6) (own := [("_law_edge", 7)]) rfl nd rfl rfl (sw_true rfl rfl rfl (by decide +kernel)) (pi_tup (pe_ix ix_seq (pv 0) pe_int (fun _ _ => rfl))) (blkOk_by (own := [("_law_edge", 7)]) (N := ["_law_plain", "_law_before", "_law_kept", "_law_room", "_law_first", "_law_last", "_law_edges", "_law_edge"]) (sc := defScope s__law_useful) (by decide +kernel)) (fun _ _ _ _ _ => (pg_name (i := 7) nd rfl (.inl rfl))) (fun _ _ _ _ _ => pts_one (PW.pt (pw_and (pt_cmpR (op_in_seq : OpR _ _ (rIn K false)) (pe_ix (ix_seq : IxR _ (rIx K)) (pv 7) pe_int (fun _ _ => rfl)) (pv 2) (by rfl)) (pw_and1 (pt_cmpR (op_in_seq : OpR _ _ (rIn K false)) (pe_ix (ix_seq : IxR _ (rIx K)) (pv 7) pe_int (fun _ _ => rfl)) (pv 2) (by rfl)))))) (fun _ _ _ _ _ => (pv 7)))
      (pss_one (ps_ret (pe_tup (pa_cons (pe_ix ix_seq (pv 0) pe_int (fun _ _ => rfl)) (pa_cons (pv 4) (pa_cons (pe_callTy call_tuple_of (by rfl) T.b_tuple (by decide +kernel) (pa_cons (pe_callB (cr_sortK2 (K := K) (P := P) (w := w) rfl rfl rfl rfl hu64) (by rfl) T.b_sorted (by decide +kernel) (pa_cons (pe_callTy (cr_setOfK2 (K := K) (P := P) (w := w) rfl rfl rfl rfl hu64) (by rfl) T.b_set (by decide +kernel) (pa_cons (pv 6) pa_nil)) pa_nil)) pa_nil)) (pa_cons (pv 5) pa_nil))))))))))))), ?_⟩
    obtain ⟨a0, t, b0, h1, h2, h3, ks, h4, h5, h6⟩ := id hp
    have lk : ks.length = R.ed.length := by have := congrArg List.length h5; rwa [List.length_map] at this
    obtain ⟨en12, enlt⟩ := tbl_keys okR.en
    obtain ⟨st12, stlt⟩ := tbl_keys okR.st
    refine ⟨_, rfl, _, rfl, .inr (.inl ⟨p, _, 3, .ref b0, rfl, rfl, .of h1, atI_nat (j := 3) rfl, b0, _, rfl, .inl h3, fun l nl => ?_⟩)⟩
    rw [entW_refs]
    have S1 := same_upd (o := .lst ((R.en.map (·.1)).map fun (m : Nat) => V.int (m : Nat))) nl
    refine ⟨p, l, R, R.en.map (·.1), rfl, okR, e24, hp.same S1, .of upd_same, en12, enlt, fun q1 H1 ns1 S2 nq1 hq1 pw1 mem1 => ?_⟩
    have S := S1.trans S2
    have hp1 := hp.same S
    clear S1 S2
    refine ⟨_, rfl, _, rfl, .inr (.inl ⟨p, _, 1, .ref a0, rfl, rfl, .of (S _ _ h1), atI_nat (j := 1) rfl, a0, _, rfl, .inl (S _ _ h2), fun l2 nl2 => ?_⟩)⟩
    rw [entW_refs]
    have S1 := same_upd (o := .lst ((R.st.map (·.1)).map fun (m : Nat) => V.int (m : Nat))) nl2
    refine ⟨p, l2, R, R.st.map (·.1), rfl, okR, e24, hp1.same S1, .of upd_same, st12, stlt, fun q2 H2 ns2 S2 nq2 hq2 pw2 mem2 => ?_⟩
    have hq12 := S2 _ _ (S1 _ _ hq1)
    have S := (S.trans S1).trans S2
    clear S1 S2 hq1 hp1
    have n2lt : ∀ m ∈ ns2, m < 12 := fun m hm => by
      have := (mem2 m).mp hm
      induction this with
      | base h => exact stlt _ h
      | step _ he ih =>
        obtain ⟨e, he, e2⟩ := List.mem_map.mp he
        injection e2 with e1 e2
        rw [← e2]
        exact (okR.ed e he).b
    have n2 := rise_len pw2 n2lt
    refine ⟨q2, rfl, ⟨_, .of hq2⟩, fun Kp nKp => ?_⟩
    refine lc_it walk_list (fun i H' => Same H2 H' ∧ H' Kp = some (.lst (((ns2.take i).filter fun m => decide (m ∈ ns1)).map fun (m : Nat) => V.int (m : Nat)))) ⟨same_upd nKp, upd_same⟩ (fun i H' _ h => .of (h.1 _ _ hq2)) ?_ ?_
    · rintro i y H3 H3' hi ⟨S3, hK⟩ ⟨rfl, hy⟩
      rw [List.getElem?_map] at hy
      obtain ⟨m, hm, rfl⟩ := Option.map_eq_some_iff.mp hy
      have tk : ns2.take (i + 1) = ns2.take i ++ [m] := by rw [List.take_add_one, hm]; rfl
      have ll := List.length_filter_le (fun m => decide (m ∈ ns1)) (ns2.take i)
      rw [List.length_take] at ll
      refine ⟨rfl, _, rfl, _, rfl, q1, _, rfl, .inl (.of (S3 _ _ hq12)), rfl, flat_nats ns1, _, rfl, ?_⟩
      rw [tk, List.filter_append, List.map_append]
      refine iteB (inV_nats m ns1) (fun hin => ?_) fun hin => ?_
      · refine ⟨_, rfl, _, hK, by rw [List.length_map]; omega, upd_far nKp S3, ?_⟩
        rw [show ([m].filter fun m => decide (m ∈ ns1)) = [m] from by rw [List.filter_cons, if_pos hin]; rfl]
        exact upd_same
      · rw [show ([m].filter fun m => decide (m ∈ ns1)) = [] from by rw [List.filter_cons, if_neg (by rw [hin]; decide)]; rfl, List.map_nil, List.append_nil]
        exact ⟨S3, hK⟩
    · rintro H3 ⟨S3, hK⟩
      rw [List.length_map, List.take_length] at hK
      generalize eus : (ns2.filter fun m => decide (m ∈ ns1)) = us at hK
      have rise : us.Pairwise (· < ·) := by rw [← eus]; exact pw2.filter _
      have ndu : us.Nodup := rise.imp fun h => Nat.ne_of_lt h
      have mem : ∀ m, m ∈ us ↔ R.Useful m := fun m => by
        rw [← eus, List.mem_filter, decide_eq_true_iff, mem1, mem2, rcN_F, rcN_R]
        rfl
      have ul : us.length ≤ 12 := by rw [← eus]; exact Nat.le_trans (List.length_filter_le _ _) n2
      have S := S.trans S3
      clear S3 hq12 hq2 nKp n2 n2lt eus mem1 mem2 pw1 pw2
      intro D1 nD1
      have nD1H := S.free nD1
      have SD1 := same_upd (o := .dK []) nD1
      have hD1 : upd H3 D1 (.dK []) D1 = some (.dK (entW (atS R.st (us.take 0)))) := upd_same
      have KD1 : Kp ≠ D1 := ne_of_none hK nD1
      have hK1 := SD1 _ _ hK
      have S := S.trans SD1
      generalize upd H3 D1 (.dK []) = H4 at hD1 hK1 S ⊢
      clear hK SD1 nD1
      intro D2 nD2
      have nD2H := S.free nD2
      have SD2 := same_upd (o := .dK []) nD2
      have hD2 : upd H4 D2 (.dK []) D2 = some (.dK (entW (atS R.en (us.take 0)))) := upd_same
      have KD2 : Kp ≠ D2 := ne_of_none hK1 nD2
      have D12 : D1 ≠ D2 := ne_of_none hD1 nD2
      have hK2 := SD2 _ _ hK1
      have hD12 := SD2 _ _ hD1
      have S := S.trans SD2
      generalize upd H4 D2 (.dK []) = H5 at hD12 hD2 hK2 S ⊢
      clear hK1 SD2 nD2 hD1
      refine ⟨_, rfl, Kp, rfl, ⟨_, .of hK2⟩, ?_⟩
      refine for_it walk_list (fun i σ H' => ∃ u3 : Option V, σ = [some (.ref p), some (.ref q1), some (.ref Kp), u3, some (.ref D1), some (.ref D2), none, none] ∧ Same H H' ∧ H' Kp = some (.lst (us.map fun (m : Nat) => V.int (m : Nat))) ∧ H' D1 = some (.dK (entW (atS R.st (us.take i)))) ∧ H' D2 = some (.dK (entW (atS R.en (us.take i)))))
        ⟨_, rfl, S, hK2, hD12, hD2⟩ (fun _ _ _ _ h => by obtain ⟨_, _, _, h, _⟩ := h; exact .of h) ?_ ?_
      · rintro i y σ H6 H6' hi ⟨u3, rfl, S6, hK6, hA, hB⟩ ⟨rfl, hy⟩
        rw [List.getElem?_map] at hy
        obtain ⟨m, hm, rfl⟩ := Option.map_eq_some_iff.mp hy
        have la := atS_len okR.st (us.take i)
        have lb := atS_len okR.en (us.take i)
        rw [List.length_take] at la lb
        refine ⟨_, rfl, _, rfl, .inr (.inl ⟨p, _, 1, .ref a0, rfl, rfl, .of (S6 _ _ h1), atI_nat (j := 1) rfl, a0, _, rfl, DGet.k (k := (.inl (m : Int) : Key)) (S6 _ _ h2), _, rfl, ?_⟩)⟩
        by_cases hm2 : m ∈ R.st.map (·.1)
        rotate_left
        rw [entW_out hm2]
        refine iteF ?_
        have hK7 := hK6
        have hA7 : H6' D1 = some (.dK (entW (atS R.st (us.take (i + 1))))) := by rw [atS_next R.st hm, filter_none hm2, List.append_nil]; exact hA
        have hB7 := hB
        have S7 := S6
        generalize H6' = H7 at hK7 hA7 hB7 S7 ⊢
        rotate_left
        obtain ⟨x, hx, e⟩ := List.mem_map.mp hm2
        have hx : (m, x.2) ∈ R.st := by rw [← e]; exact hx
        have dg := DGet.k (k := (.inl (m : Int) : Key)) (S6 _ _ h2)
        rw [entW_get okR.st hx] at dg ⊢
        refine iteT ⟨_, rfl, .inr (.inl ⟨p, _, 1, .ref a0, rfl, rfl, .of (S6 _ _ h1), atI_nat (j := 1) rfl, _, rfl, a0, _, rfl, dg, _, rfl, _, rfl, D1, _, rfl, DPut.k (k := (.inl (m : Int) : Key)) hA (by unfold entW; rw [List.length_map]; omega), ?_⟩)⟩
        rw [atS_put okR.st ndu hm hx]
        have hK7 : upd H6' D1 (.dK (entW (atS R.st (us.take (i + 1))))) Kp = some (.lst (us.map fun (m : Nat) => V.int (m : Nat))) := by rw [upd_ne KD1]; exact hK6
        have hA7 : upd H6' D1 (.dK (entW (atS R.st (us.take (i + 1))))) D1 = some (.dK (entW (atS R.st (us.take (i + 1))))) := upd_same
        have hB7 : upd H6' D1 (.dK (entW (atS R.st (us.take (i + 1))))) D2 = some (.dK (entW (atS R.en (us.take i)))) := by rw [upd_ne D12.symm]; exact hB
        have S7 : Same H (upd H6' D1 (.dK (entW (atS R.st (us.take (i + 1)))))) := upd_far nD1H S6
        generalize upd H6' D1 (.dK (entW (atS R.st (us.take (i + 1))))) = H7 at hK7 hA7 hB7 S7 ⊢
        all_goals
          refine ⟨_, rfl, _, rfl, .inr (.inl ⟨p, _, 3, .ref b0, rfl, rfl, .of (S7 _ _ h1), atI_nat (j := 3) rfl, b0, _, rfl, DGet.k (k := (.inl (m : Int) : Key)) (S7 _ _ h3), _, rfl, ?_⟩)⟩
          by_cases hm3 : m ∈ R.en.map (·.1)
          · obtain ⟨y, hy, e2⟩ := List.mem_map.mp hm3
            have hy : (m, y.2) ∈ R.en := by rw [← e2]; exact hy
            have dg := DGet.k (k := (.inl (m : Int) : Key)) (S7 _ _ h3)
            rw [entW_get okR.en hy] at dg ⊢
            refine iteT ⟨_, rfl, .inr (.inl ⟨p, _, 3, .ref b0, rfl, rfl, .of (S7 _ _ h1), atI_nat (j := 3) rfl, _, rfl, b0, _, rfl, dg, _, rfl, _, rfl, D2, _, rfl, DPut.k (k := (.inl (m : Int) : Key)) hB7 (by unfold entW; rw [List.length_map]; omega), ?_⟩)⟩
            rw [atS_put okR.en ndu hm hy]
            exact ⟨_, rfl, upd_far nD2H S7, by rw [upd_ne KD2]; exact hK7, by rw [upd_ne D12]; exact hA7, upd_same⟩
          · rw [entW_out hm3]
            refine iteF ⟨_, rfl, S7, hK7, hA7, ?_⟩
            rw [atS_next R.en hm, filter_none hm3, List.append_nil]
            exact hB7
      · rintro σ H6 ⟨u3, rfl, S6, hK6, hA, hB⟩
        rw [List.length_map, List.take_length] at hA hB
        refine ⟨_, rfl, .inr (.inl ⟨p, _, 2, .ref t, rfl, rfl, .of (S6 _ _ h1), atI_nat (j := 2) rfl, t, rfl, ⟨_, .of (S6 _ _ h4)⟩, fun Me nMe => ?_⟩)⟩
        refine lc_it walk_tup (fun j H' => Same H6 H' ∧ H' Me = some (.lst (((ks.take j).filter fun q => decide (q.2.a ∈ us) && decide (q.2.b ∈ us)).map fun q => V.ref q.1))) ⟨same_upd nMe, upd_same⟩ (fun i H' _ h => .of (h.1 _ _ (S6 _ _ h4))) ?_ ?_
        · rintro j y H7 H7' hj ⟨S7, hMe⟩ ⟨rfl, hy⟩
          rw [List.getElem?_map] at hy
          obtain ⟨q, hq, rfl⟩ := Option.map_eq_some_iff.mp hy
          have pt := S7 _ _ (S6 _ _ (h6 q (List.mem_of_getElem? hq)))
          have hK7 := S7 _ _ hK6
          have tk : ks.take (j + 1) = ks.take j ++ [q] := by rw [List.take_add_one, hq]; rfl
          have hl : ((ks.take j).filter fun q => decide (q.2.a ∈ us) && decide (q.2.b ∈ us)).length ≤ 63 := by
            have h3 := List.length_filter_le (fun q : Addr × Edg => decide (q.2.a ∈ us) && decide (q.2.b ∈ us)) (ks.take j)
            rw [List.length_take] at h3
            omega
          rw [tk, List.filter_append, List.map_append]
          refine ⟨rfl, _, rfl, .inr (.inl ⟨q.1, _, 0, _, rfl, rfl, .of pt, atI_nat (j := 0) rfl, _, rfl, Kp, _, rfl, .inl (.of hK7), rfl, flat_nats us, _, rfl, ?_⟩)⟩
          refine iteB (inV_nats q.2.a us) (fun h1 => ?_) fun h1 => ?_
          · refine ⟨_, rfl, .inr (.inl ⟨q.1, _, 3, _, rfl, rfl, .of pt, atI_nat (j := 3) rfl, _, rfl, Kp, _, rfl, .inl (.of hK7), rfl, flat_nats us, _, rfl, ?_⟩)⟩
            refine iteB (inV_nats q.2.b us) (fun h2 => ?_) fun h2 => ?_
            · refine ⟨_, rfl, _, hMe, by rw [List.length_map]; omega, upd_far nMe S7, ?_⟩
              rw [upd_same, show [q].filter (fun q : Addr × Edg => decide (q.2.a ∈ us) && decide (q.2.b ∈ us)) = [q] by rw [List.filter_cons, h1, h2]; rfl]
              rfl
            · refine ⟨S7, ?_⟩
              rw [show [q].filter (fun q : Addr × Edg => decide (q.2.a ∈ us) && decide (q.2.b ∈ us)) = [] by rw [List.filter_cons, h1, h2]; rfl, List.map_nil, List.append_nil]
              exact hMe
          · refine ⟨S7, ?_⟩
            rw [show [q].filter (fun q : Addr × Edg => decide (q.2.a ∈ us) && decide (q.2.b ∈ us)) = [] by rw [List.filter_cons, h1]; rfl, List.map_nil, List.append_nil]
            exact hMe
        · rintro H7 ⟨S7, hMe⟩
          rw [List.length_map, List.take_length] at hMe
          have S67 := S6.trans S7
          have hA7 := S7 _ _ hA
          have hB7 := S7 _ _ hB
          clear S6 S7 hK6 hA hB
          generalize ekE : (ks.filter fun q => decide (q.2.a ∈ us) && decide (q.2.b ∈ us)) = kE at hMe
          have kEk : ∀ q ∈ kE, q ∈ ks := fun q hq => by rw [← ekE] at hq; exact (List.mem_filter.mp hq).1
          have kEl : kE.length ≤ 40 := by
            have := List.length_filter_le (fun q : Addr × Edg => decide (q.2.a ∈ us) && decide (q.2.b ∈ us)) ks
            rw [ekE] at this
            omega
          refine ⟨_, rfl, .inr (.inl ⟨p, _, 0, .str (sgTxt R.sg), rfl, rfl, .of (S67 _ _ h1), atI_nat (j := 0) rfl, ?_⟩)⟩
          refine ⟨_, rfl, _, rfl, Me, kE.map fun q => (q.1, q.2.row), rfl, by rw [List.map_map]; exact .of hMe, fun x hx => ?_, by rw [List.length_map]; omega, fun qs L nqs sub all ndL => ?_⟩
          · obtain ⟨q, hq, rfl⟩ := List.mem_map.mp hx
            exact S67 _ _ (h6 q (kEk q hq))
          obtain ⟨L0, rfl, sub0⟩ := sub_map (fun q : Addr × Edg => (q.1, q.2.row)) L kE sub
          have SB := same_upd (o := SetKO P w qs (L0.map fun q => (q.1, q.2.row))) nqs
          have lL : L0.length ≤ 40 := by
            have := ndL.length_le_of_subset (l₂ := (kE.map fun q => (q.1, q.2.row)).map (·.2)) fun x hx => by
              obtain ⟨q, hq, rfl⟩ := List.mem_map.mp hx
              exact List.mem_map.mpr ⟨q, sub q hq, rfl⟩
            rw [List.length_map, List.length_map, List.length_map, List.length_map] at this
            omega
          refine ⟨qs, L0.map fun q => (q.1, q.2.row), rfl, upd_same, fun x hx => ?_, ?_, by rw [List.length_map]; omega, fun L' q pmL nq => ?_⟩
          · obtain ⟨q, hq, rfl⟩ := List.mem_map.mp hx
            exact ⟨SB _ _ (S67 _ _ (h6 q (kEk q (sub0 q hq)))), fun z => by cases z⟩
          · refine KForm.alike ?_
            have := row_form (L0.map (·.2))
            rw [List.map_map] at this
            rw [List.map_map]
            exact this
          have SC := same_upd (o := .lst ((byKey L').map fun q => V.ref q.1)) nq
          obtain ⟨L1, pm1, e1⟩ := perm_map (fun q : Addr × Edg => (q.1, q.2.row)) ((byKey_perm L').trans pmL) L0 rfl
          have er : ((byKey L').map fun q => V.ref q.1) = L1.map fun q => V.ref q.1 := by
            rw [e1, List.map_map]
            rfl
          rw [er] at SC ⊢
          have hqC : upd (upd H7 qs (SetKO P w qs (L0.map fun q => (q.1, q.2.row)))) q (.lst (L1.map fun q => V.ref q.1)) q = some (.lst (L1.map fun q => V.ref q.1)) := upd_same
          have S3 := S67.trans (SB.trans SC)
          have hAC := SC _ _ (SB _ _ hA7)
          have hBC := SC _ _ (SB _ _ hB7)
          have sub1 : ∀ q ∈ L1, q ∈ kE := fun q hq => sub0 q (pm1.mem_iff.mp hq)
          have rows1 : (L1.map fun q => q.2.row).Perm (L0.map fun q => q.2.row) := pm1.map _
          have kept : Kept R us (L1.map (·.2)) := kept_of2 rise mem h5 (by rw [ekE]; exact sub1) (fun q hq => by
            rw [ekE] at hq
            have := all (q.1, q.2.row) (List.mem_map.mpr ⟨q, hq, rfl⟩)
            rw [List.map_map] at this
            exact rows1.mem_iff.mpr this) (by
            rw [List.map_map] at ndL
            exact rows1.nodup_iff.mpr ndL) (by
            have := byKey_sorted L'
            rw [e1, List.map_map] at this
            exact this)
          have lL1 : L1.length ≤ 40 := by rw [pm1.length_eq]; exact lL
          generalize upd (upd H7 qs (SetKO P w qs (L0.map fun q => (q.1, q.2.row)))) q (.lst (L1.map fun q => V.ref q.1)) = HC at hqC S3 hAC hBC ⊢
          refine ⟨q, _, rfl, .inl ⟨.of hqC, fun te nte => ?_⟩⟩
          have ST := same_upd (o := .tup (L1.map fun q => V.ref q.1)) nte
          have hte : upd HC te (.tup (L1.map fun q => V.ref q.1)) te = some (.tup (L1.map fun q => V.ref q.1)) := upd_same
          have S4 := S3.trans ST
          have hAD := ST _ _ hAC
          have hBD := ST _ _ hBC
          generalize upd HC te (.tup (L1.map fun q => V.ref q.1)) = HD at hte S4 hAD hBD ⊢
          refine ⟨_, rfl, by show 4 ≤ _; omega, fun r nr => ?_⟩
          have SR := same_upd (o := .tup [.str (sgTxt R.sg), .ref D1, .ref te, .ref D2]) nr
          exact k r _ us (L1.map (·.2)) (S4.trans SR) (S4.free nr) kept ⟨D1, te, D2, upd_same, SR _ _ hAD, SR _ _ hBD, L1, SR _ _ hte, rfl, fun q hq => SR _ _ (S4 _ _ (h6 q (kEk q (sub1 q hq))))⟩
end
end K0
set_option maxRecDepth 100000
set_option maxHeartbeats 1000000
namespace K0
open PySem L2 FM He
section
variable {P : Program} {w : World} {K : PySem.W.Frag} {mg : Str → Option Value} {base : Heap}
theorem ok_is_state_of {f : Addr} {fd : FuncData} (F : FnP K "is_state_of" s_is_state_of f fd) (T : TP K mg) : FnOk P w K mg base CX0 2 f fd ["states", "value"] (fun vs H Q _ => ∃ (t : Addr) (us : List Nat) (m : Nat), vs = [.ref t, .int (m : Nat)] ∧ SqT K H t (us.map fun m => V.int (m : Nat)) ∧ m ∈ us ∧ Q (.bl true) H) := by
  obtain ⟨d_is_integer, F_is_integer⟩ := T.f_is_integer
  have G_is_integer := ok_is_integer (P := P) (w := w) (base := base) F_is_integer T
  have b_is_integer : Binds K d_is_integer ["value"] [] := F_is_integer.bindsN fun _ _ _ _ _ _ us hl => match us, hl with | [_], _ => rfl
  refine F.ok sc_is_state_of (fun vs H Q E h => ?_) (fun cdv A outer s H vs Q E hr h => ?_)
  · obtain ⟨t, us, m, rfl, _⟩ := h
    rfl
  · obtain ⟨t, us, m, rfl, ht, hm, k⟩ := h
    have nd := sc_is_state_of.nd
    refine ⟨_, PSs.nox (pss_one (ps_ret (pe_and (pe_call G_is_integer (hr.mono (by decide)) rfl T.g_is_integer F_is_integer.kp b_is_integer .nil pass0 (pa_cons (pv 1) pa_nil)) (pe_one (pe_cmpR op_in_seq (pv 1) (pv 0) (by rfl)))))), ?_⟩
    refine ⟨_, rfl, (m : Int), rfl, _, rfl, iteT ?_⟩
    refine ⟨_, rfl, _, rfl, t, _, rfl, .inr ht, rfl, ?_, ?_⟩
    · rw [List.all_map, List.all_eq_true]
      exact fun _ _ => rfl
    · have e : inV (.int (m : Nat)) (us.map fun m => V.int (m : Nat)) = true := by
        unfold inV
        rw [List.any_map, List.any_eq_true]
        exact ⟨m, hm, by simp [eqV]⟩
      simp only [Bool.false_eq_true, if_false]
      rw [e]
      exact k
end
end K0
set_option maxRecDepth 100000
set_option maxHeartbeats 2000000
namespace FM
open PySem PySem.Spec PyProof.Rows L2
end FM
set_option maxRecDepth 100000
set_option maxHeartbeats 2000000
namespace FM
open PySem PySem.Spec PyProof.Rows L2
end FM
set_option maxRecDepth 100000
set_option maxHeartbeats 1000000
namespace K0
open PySem L2 FM He
end K0
set_option maxRecDepth 100000
set_option maxHeartbeats 1000000
namespace FM
open PySem L2
end FM
namespace K0
open PySem L2 FM He
end K0
set_option maxRecDepth 100000
set_option maxHeartbeats 1000000
namespace FM
open PySem L2
end FM
namespace K0
open PySem L2 FM He
/-- a tuple and one more -/
theorem catA_one {K : PySem.W.Frag} {H : Hp} {p q : Addr} {xs : List V} {v : V} {Q : VK} (h1 : SqT K H p xs) (h2 : SqT K H q [v]) (few : xs.length + 1 ≤ sizeLine) (k : ∀ t H', Same H H' → SqT K H' t (xs ++ [v]) → Q (.ref t) H') : rCatA K (.ref p) (.ref q) H Q := by
  refine ⟨p, q, xs, [v], rfl, rfl, h1, h2, few, fun e => ?_, fun _ e => (by cases e), fun _ _ t nt => ?_⟩
  · subst e
    exact k q H (Same.refl H) h2
  · exact k t _ (same_upd nt) (.of upd_same)
section
variable {P : Program} {w : World} {K : PySem.W.Frag} {mg : Str → Option Value} {base : Heap}
/-- the new rewriter at y, made of R -/
def NewRw (K : PySem.W.Frag) (H : Hp) (R : RwP) (Q : VK) : Prop := ∀ y H' us ed, Same H H' → H y = none → Kept R us ed → RwAt K H' y R us ed → Q (.ref y) H'
theorem NewRw.same {H H' : Hp} {R : RwP} {Q : VK} (n : NewRw K H R Q) (S : Same H H') : NewRw K H' R Q := fun y H2 us ed S2 ny kp a => n y H2 us ed (S.trans S2) (S.free ny) kp a
end
end K0
set_option maxRecDepth 100000
set_option maxHeartbeats 1000000
namespace K0
open PySem L2 FM He
theorem kept_len {R : RwP} {us : List Nat} {ed : List Edg} (k : Kept R us ed) : ed.length ≤ R.ed.length := k.nd.length_le_of_subset fun e he => ((k.eds e).mp he).1
end K0
set_option maxRecDepth 100000
set_option maxHeartbeats 1000000
namespace FM
open PySem L2
def Edg.ren (g : Nat → Nat) (e : Edg) : Edg := ⟨g e.a, e.c, e.u, g e.b⟩
theorem entW_nd {st : List (Nat × Str)} (ok : TblOk st) : ((entW st).map (·.1)).Nodup := by
  rw [K0.entW_keys]
  unfold List.Nodup
  rw [List.pairwise_map]
  have := ok.nd
  exact this.imp fun ne e => ne (by have e := Sum.inl.inj e; omega)
def renS (g : Nat → Nat) (st : List (Nat × Str)) : List (Nat × Str) := st.map fun p => (g p.1, p.2)
end FM
namespace K0
open PySem L2 FM He
def RwP.ren (g : Nat → Nat) (R : RwP) : RwP := ⟨R.sg, renS g R.st, R.ed.map (Edg.ren g), renS g R.en⟩
theorem renS_ok {g : Nat → Nat} {st : List (Nat × Str)} (ok : TblOk st) {us : List Nat} (sub : ∀ p ∈ st, p.1 ∈ us) (ndg : (us.map g).Nodup) (lt : ∀ m ∈ us, g m < 12) : TblOk (renS g st) := by
  have inj : ∀ x ∈ us, ∀ y ∈ us, g x = g y → x = y := fun x hx y hy e => by
    obtain ⟨i, hi, ei⟩ := List.mem_iff_getElem.mp hx
    obtain ⟨j, hj, ej⟩ := List.mem_iff_getElem.mp hy
    have : i = j := by
      have h1 : (us.map g)[i]'(by rw [List.length_map]; exact hi) = (us.map g)[j]'(by rw [List.length_map]; exact hj) := by
        rw [List.getElem_map, List.getElem_map, ei, ej]
        exact e
      exact (List.getElem_inj ndg).mp h1
    subst this
    rw [← ei, ← ej]
  refine ⟨?_, fun p hp => ?_, fun p hp => ?_⟩
  · unfold renS
    rw [List.map_map]
    have nd := ok.nd
    unfold List.Nodup at nd ⊢
    rw [List.pairwise_map] at nd ⊢
    exact nd.imp_of_mem fun {p q} hp hq ne e => ne (inj _ (sub p hp) _ (sub q hq) e)
  · obtain ⟨q, hq, rfl⟩ := List.mem_map.mp hp
    exact lt _ (sub q hq)
  · obtain ⟨q, hq, rfl⟩ := List.mem_map.mp hp
    exact ok.word q hq
/-- R's states are all in us -/
structure RIn (R : RwP) (us : List Nat) : Prop where
  st : ∀ p ∈ R.st, p.1 ∈ us
  en : ∀ p ∈ R.en, p.1 ∈ us
  ed : ∀ e ∈ R.ed, e.a ∈ us ∧ e.b ∈ us
theorem ren_ok {R : RwP} (ok : R.Ok) {us : List Nat} (sub : RIn R us) {g : Nat → Nat} (ndg : (us.map g).Nodup) (lt : ∀ m ∈ us, g m < 12) : (RwP.ren g R).Ok := by
  refine ⟨ok.sg, renS_ok ok.st sub.st ndg lt, fun e he => ?_, ?_, renS_ok ok.en sub.en ndg lt⟩
  · obtain ⟨x, hx, rfl⟩ := List.mem_map.mp he
    have := ok.ed x hx
    obtain ⟨h1, h2⟩ := sub.ed x hx
    exact ⟨lt _ h1, lt _ h2, this.c, this.u, this.len⟩
  · show (R.ed.map (Edg.ren g)).length ≤ 63
    rw [List.length_map]
    exact ok.few
end K0
set_option maxRecDepth 100000
set_option maxHeartbeats 4000000
namespace K0
open PySem L2 FM He
theorem mergeK_nd : ∀ (more kvs : List (Key × V)), ((kvs ++ more).map (·.1)).Nodup → mergeK kvs more = kvs ++ more
  | [], kvs, _ => by simp [mergeK]
  | p :: more, kvs, nd => by
    have e : mergeK kvs (p :: more) = mergeK (putK kvs p.1 p.2) more := rfl
    have out : p.1 ∉ kvs.map (·.1) := fun z => by
      rw [List.map_append, List.nodup_append] at nd
      exact nd.2.2 _ z _ (List.mem_map.mpr ⟨p, List.mem_cons_self, rfl⟩) rfl
    have e2 : putK kvs p.1 p.2 = kvs ++ [p] := putK_new _ (valV_out out)
    rw [e, e2, mergeK_nd more (kvs ++ [p]) (by rw [List.append_assoc]; exact nd), List.append_assoc]
    rfl
end K0
set_option maxRecDepth 100000
set_option maxHeartbeats 1000000
namespace K0
open PySem L2 FM He
/-- a list of pairs, key and value -/
def PrL (H : Hp) (D : Addr) (kvs : List (Key × V)) : Prop := ∃ zs : List (Addr × (Key × V)), H D = some (.lst (zs.map fun z => V.ref z.1)) ∧ zs.map (·.2) = kvs ∧ ∀ z ∈ zs, H z.1 = some (.tup [kV z.2.1, z.2.2])
theorem PrL.same {H H' : Hp} {D : Addr} {kvs : List (Key × V)} (h : PrL H D kvs) (S : Same H H') : PrL H' D kvs := by
  obtain ⟨zs, e1, e2, e3⟩ := h
  exact ⟨zs, S _ _ e1, e2, fun p hp => S _ _ (e3 p hp)⟩
theorem PrL.unlock {H : Hp} {D a : Addr} {od : Obj} {o o2 : HO} {kvs : List (Key × V)} (h : PrL H D kvs) (ha : H a = some (.frz od o)) : PrL (upd H a o2) D kvs := by
  obtain ⟨zs, e1, e2, e3⟩ := h
  exact ⟨zs, by rw [upd_ne fun z => by rw [z, ha] at e1; cases e1]; exact e1, e2, fun z hz => by rw [upd_ne fun q => by have := e3 z hz; rw [q, ha] at this; cases this]; exact e3 z hz⟩
theorem PrL.nil {H : Hp} {D : Addr} : PrL (upd H D (.lst [])) D [] := ⟨[], upd_same, rfl, fun z hz => by cases hz⟩
theorem PrL.push {H : Hp} {D q : Addr} {zs : List (Addr × (Key × V))} {kvs : List (Key × V)} {k : Key} {v : V} (h1 : H D = some (.lst (zs.map fun z => V.ref z.1))) (h2 : zs.map (·.2) = kvs) (h3 : ∀ z ∈ zs, H z.1 = some (.tup [kV z.2.1, z.2.2])) (hq : H q = some (.tup [kV k, v])) :
    PrL (upd H D (.lst ((zs.map fun z => V.ref z.1) ++ [.ref q]))) D (kvs ++ [(k, v)]) := by
  have T : ∀ b xs, H b = some (.tup xs) → upd H D (.lst ((zs.map fun p => V.ref p.1) ++ [.ref q])) b = some (.tup xs) := fun b xs z => by
    rw [upd_ne fun e => by rw [e, h1] at z; cases z]
    exact z
  refine ⟨zs ++ [(q, (k, v))], ?_, ?_, fun z hz => ?_⟩
  · rw [upd_same, List.map_append] <;> rfl
  · rw [List.map_append, h2] <;> rfl
  · rcases List.mem_append.mp hz with h | h
    · exact T _ _ (h3 z h)
    · rw [List.mem_singleton.mp h]
      exact T _ _ hq
theorem PrL.pairs {K : PySem.W.Frag} {H : Hp} {D : Addr} {kvs : List (Key × V)} (h : PrL H D kvs) : ∃ ts : List Addr, SqL K H D (ts.map V.ref) ∧ Paired (fun p kv => SqT K H p [kV kv.1, kv.2]) ts kvs := by
  obtain ⟨zs, e1, e2, e3⟩ := h
  refine ⟨zs.map (·.1), .of (by rw [e1, List.map_map]; rfl), ?_⟩
  subst e2
  clear e1
  induction zs with
  | nil => exact .nil
  | cons z zs ih => exact .cons (.of (e3 z List.mem_cons_self)) (ih fun p hp => e3 p (List.mem_cons_of_mem _ hp))
theorem merge_nd {kvs : List (Key × V)} (nd : (kvs.map (·.1)).Nodup) : mergeK [] kvs = kvs := by
  rw [mergeK_nd _ _ (by rw [List.nil_append]; exact nd), List.nil_append]
end K0
set_option maxRecDepth 100000
set_option maxHeartbeats 1000000
namespace K0
open PySem L2 FM He
theorem ents_len {st : List (Nat × Str)} (ok : TblOk st) : st.length ≤ 12 := by
  have := (tbl_keys ok).1
  rwa [List.length_map] at this
/-- all states are below a number -/
structure Bel (n : Nat) (R : RwP) : Prop where
  ed : ∀ e ∈ R.ed, e.a < n ∧ e.b < n
  st : ∀ p ∈ R.st, p.1 < n
  en : ∀ p ∈ R.en, p.1 < n
theorem pick_list {K : PySem.W.Frag} {b q : Addr} {xs : List V} {H : Hp} {Q : VK} {E : XK} (bag : BagAt b H) (hq : H q = some (.lst xs)) (h0 : 0 < xs.length) (h1 : xs.length < 1000000) (k : ∀ y H', Keep (J b) H H' → BagAt b H' → H' q = some (.lst xs) → y ∈ xs → Q y H') (ne : q ≠ b) : spPick K [.ref b, .ref q] H Q E := by
  obtain ⟨g, s, c, hb⟩ := bag
  refine ⟨b, g, s, c, .ref q, xs, rfl, hb, .inl ⟨q, rfl, .inl (.of hq)⟩, fun g' c' => .inl ⟨q, rfl, .inl (.of (by rw [upd_ne ne]; exact hq))⟩, h0, by omega, fun y g' c' hy => ?_⟩
  obtain ⟨k1, bag1⟩ := thrown (b := b) (H := H) g' s c'
  exact k y _ k1 bag1 (by rw [upd_ne ne]; exact hq) hy
theorem pick_cond {K : PySem.W.Frag} {b q : Addr} {xs : List V} {H : Hp} (bag : BagAt b H) (hq : H q = some (.lst xs)) (ne : q ≠ b) (h0 : 0 < xs.length) (h1 : xs.length < 1000000) : ∃ g s c : Int, H b = some (bagO g s c) ∧ ItemsOf K H (.ref q) xs ∧ (∀ g' c', ItemsOf K (upd H b (bagO g' s c')) (.ref q) xs) ∧ 0 < xs.length ∧ xs.length < 1073741824 ∧
    ∀ g' c', Keep (J b) H (upd H b (bagO g' s c')) ∧ BagAt b (upd H b (bagO g' s c')) ∧ (upd H b (bagO g' s c')) q = some (.lst xs) := by
  obtain ⟨g, s, c, hb⟩ := bag
  exact ⟨g, s, c, hb, .inl ⟨q, rfl, .inl (.of hq)⟩, fun g' c' => .inl ⟨q, rfl, .inl (.of (by rw [upd_ne ne]; exact hq))⟩, h0, by omega, fun g' c' => ⟨(thrown (b := b) (H := H) g' s c').1, (thrown (b := b) (H := H) g' s c').2, by rw [upd_ne ne]; exact hq⟩⟩
theorem pick_text {K : PySem.W.Frag} {b : Addr} {z : Str} {H : Hp} {Q : VK} {E : XK} (bag : BagAt b H) (h0 : 0 < z.length) (h1 : z.length ≤ 1000) (k : ∀ d H', Keep (J b) H H' → BagAt b H' → d ∈ z.cps.toList → Q (.str ⟨#[d]⟩) H') : spPick K [.ref b, .str z] H Q E := by
  obtain ⟨g, s, c, hb⟩ := bag
  have big : (100000 : Nat) ≤ sizeLine := by decide
  have it : ∀ H', ItemsOf K H' (.str z) (z.cps.toList.map fun c => V.str ⟨#[c]⟩) := fun H' => .inr ⟨z, rfl, by omega, rfl⟩
  have l : (z.cps.toList.map fun c => V.str ⟨#[c]⟩).length = z.length := by rw [List.length_map]; simp [Str.length]
  refine ⟨b, g, s, c, .str z, _, rfl, hb, it _, fun g' c' => it _, by rw [l]; exact h0, by rw [l]; omega, fun y g' c' hy => ?_⟩
  obtain ⟨d, hd, rfl⟩ := List.mem_map.mp hy
  obtain ⟨k1, bag1⟩ := thrown (b := b) (H := H) g' s c'
  exact k d _ k1 bag1 hd
theorem upd_id {H : Hp} {d : Addr} {o : HO} (h : H d = some o) : upd H d o = H := funext fun b => by
  by_cases e : b = d
  · rw [e, upd_same, h]
  · rw [upd_ne e]
theorem entW_or {st : List (Nat × Str)} (ok : TblOk st) (m : Nat) : (valV (entW st) (.inl (m : Int)) = none ∧ ∀ p ∈ st, p.1 ≠ m) ∨ ∃ u, (m, u) ∈ st ∧ valV (entW st) (.inl (m : Int)) = some (.str u) := by
  by_cases h : ∃ u, (m, u) ∈ st
  · obtain ⟨u, hu⟩ := h
    exact .inr ⟨u, hu, entW_get ok hu⟩
  · refine .inl ⟨?_, fun p hp e => h ⟨p.2, by rw [← e]; exact hp⟩⟩
    refine valV_out fun z => h ?_
    rw [entW_keys] at z
    obtain ⟨m', hm, e⟩ := List.mem_map.mp z
    obtain ⟨p, hp, rfl⟩ := List.mem_map.mp hm
    have e := Sum.inl.inj e
    have e2 : p.1 = m := by omega
    exact ⟨p.2, by rw [← e2]; exact hp⟩
theorem if_put {i j k : Nat} {tv : L2.TE} {r : L2.TS} {D : Ends} {σ : L2.St} {H : Hp} {d : Addr} {m n : Nat} {st : List (Nat × Str)} (hi : σ[i]? = some (some (.int (m : Nat)))) (hj : σ[j]? = some (some (.ref d))) (hk : σ[k]? = some (some (.int (n : Nat)))) (hd : H d = some (.dK (entW st))) (ok : TblOk st) (hn : n < 12)
    (h1 : ∀ u, (m, u) ∈ st → DGet H d (.int (m : Nat)) (some (.str u)) → ∃ u', (Let u' ∧ u'.length ≤ 8) ∧ ∀ Q : VK, Q (.str u') H → tv σ H Q)
    (kont : ∀ st', TblOk st' → (∀ p ∈ st', p ∈ st ∨ p.1 = n) → r D σ (upd H d (.dK (entW st')))) : tSeq (tIfS (tB (tDIn (tVar i) (tVar j))) (sDPut (tVar j) (tVar k) tv) tNext) r D σ H := by
  have big : (100000 : Nat) ≤ sizeLine := by decide
  have g := DGet.k (k := (.inl (m : Int) : Key)) hd
  rcases entW_or ok m with ⟨e, _⟩ | ⟨u, hu, e⟩
  · rw [e] at g
    refine ⟨_, hi, _, hj, d, _, rfl, g, _, rfl, ?_⟩
    have := kont st ok (fun p hp => .inl hp)
    rw [upd_id hd] at this
    exact this
  · rw [e] at g
    obtain ⟨u', hu', w⟩ := h1 u hu g
    refine ⟨_, hi, _, hj, d, _, rfl, g, _, rfl, ?_⟩
    refine w _ ⟨_, hj, _, hk, d, _, rfl, DPut.k (k := (.inl (n : Int) : Key)) hd (by have := ents_len ok; unfold entW; rw [List.length_map]; omega), ?_⟩
    rw [putS_ent]
    exact kont _ (TblOk.put ok hn hu') (fun p hp => (putS_mem hp).imp id fun e => by rw [e])
theorem repS_let {d n : Nat} (h : 97 ≤ d ∧ d ≤ 122) : Let (repS ⟨#[d]⟩ n) := fun c hc => by
  have hc : c ∈ (repS ⟨#[d]⟩ n).cps.toList := hc
  rw [repS_cps] at hc
  obtain ⟨l, hl, hc⟩ := List.mem_flatten.mp hc
  obtain ⟨_, rfl⟩ := List.mem_replicate.mp hl
  have : c = d := by simpa using hc
  rw [this]
  exact h
/-- all states moved by k -/
def RwP.mv (k : Nat) (R : RwP) : RwP := RwP.ren (· + k) R
theorem mv_ok {R : RwP} (ok : R.Ok) {N k : Nat} (lim : Bel N R) (le : N + k ≤ 12) : (RwP.mv k R).Ok :=
  ren_ok ok (us := List.range N) ⟨fun p hp => List.mem_range.mpr (lim.st p hp), fun p hp => List.mem_range.mpr (lim.en p hp), fun e he => ⟨List.mem_range.mpr (lim.ed e he).1, List.mem_range.mpr (lim.ed e he).2⟩⟩
    (by
      unfold List.Nodup
      rw [List.pairwise_map]
      exact List.nodup_range.imp fun ne e => ne (Nat.add_right_cancel e))
    (fun m hm => by
      have := List.mem_range.mp hm
      show m + k < 12
      omega)
/-- two of them, side by side -/
def RwP.join (A B : RwP) : RwP := ⟨A.sg, A.st ++ B.st, A.ed ++ B.ed, A.en ++ B.en⟩
theorem tbl_join {a b : List (Nat × Str)} (ha : TblOk a) (hb : TblOk b) (dis : ∀ p ∈ a, ∀ q ∈ b, p.1 ≠ q.1) : TblOk (a ++ b) := by
  refine ⟨?_, fun p hp => (List.mem_append.mp hp).elim (ha.few p) (hb.few p), fun p hp => (List.mem_append.mp hp).elim (ha.word p) (hb.word p)⟩
  rw [List.map_append]
  refine List.nodup_append.mpr ⟨ha.nd, hb.nd, fun x hx y hy e => ?_⟩
  obtain ⟨p, hp, rfl⟩ := List.mem_map.mp hx
  obtain ⟨q, hq, rfl⟩ := List.mem_map.mp hy
  exact dis p hp q hq e
theorem join_ok {A B : RwP} (ha : A.Ok) (hb : B.Ok) (sg : A.sg = B.sg) (ds : ∀ p ∈ A.st, ∀ q ∈ B.st, p.1 ≠ q.1) (de : ∀ p ∈ A.en, ∀ q ∈ B.en, p.1 ≠ q.1) (few : A.ed.length + B.ed.length ≤ 63) : (RwP.join A B).Ok := by
  refine ⟨ha.sg, tbl_join ha.st hb.st ds, fun e he => ?_, by show (A.ed ++ B.ed).length ≤ 63; rw [List.length_append]; exact few, tbl_join ha.en hb.en de⟩
  rcases List.mem_append.mp he with h | h
  · exact ha.ed e h
  · have := hb.ed e h
    rw [← sg] at this
    exact this
theorem entW_app (a b : List (Nat × Str)) : entW (a ++ b) = entW a ++ entW b := by unfold entW; rw [List.map_append]
theorem merge_ent {st : List (Nat × Str)} (ok : TblOk st) : mergeK [] (entW st) = entW st := by
  rw [mergeK_nd _ _ (by rw [List.nil_append]; exact entW_nd ok), List.nil_append]
theorem pairs_up {K : PySem.W.Frag} {H H' : Hp} (S : Same H H') {ts : List Addr} {kvs : List (Key × V)} (h : Paired (fun (t : Addr) (q : Key × V) => H t = some (.tup [kV q.1, q.2])) ts kvs) : Paired (fun p kv => SqT K H' p [kV kv.1, kv.2]) ts kvs := by
  induction h with
  | nil => exact .nil
  | cons h _ ih => exact .cons (.of (S _ _ h)) ih
theorem paired_cat {α β : Type} {F : α → β → Prop} {xs xs' : List α} {ys ys' : List β} (h : Paired F xs ys) (h' : Paired F xs' ys') : Paired F (xs ++ xs') (ys ++ ys') := by
  induction h with
  | nil => exact h'
  | cons h _ ih => exact .cons h ih
theorem catA_eds {K : PySem.W.Frag} {H : Hp} {t1 t2 : Addr} {A B : List Edg} {Q : VK} (h1 : EdAt H t1 A) (h2 : EdAt H t2 B) (few : A.length + B.length ≤ 200) (k : ∀ t H', Same H H' → EdAt H' t (A ++ B) → Q (.ref t) H') : rCatA K (.ref t1) (.ref t2) H Q := by
  have big : (100000 : Nat) ≤ sizeLine := by decide
  obtain ⟨ks, a1, a2, a3⟩ := id h1
  obtain ⟨ls, b1, b2, b3⟩ := id h2
  have l1 : ks.length = A.length := by rw [← a2, List.length_map]
  have l2 : ls.length = B.length := by rw [← b2, List.length_map]
  refine ⟨t1, t2, _, _, rfl, rfl, .of a1, .of b1, by rw [List.length_map, List.length_map]; omega, fun e => ?_, fun _ e => ?_, fun _ _ t nt => ?_⟩
  · have z : ks = [] := by simpa using e
    rw [z] at a2
    rw [← a2] at k
    exact k t2 H (Same.refl H) h2
  · have z : ls = [] := by simpa using e
    rw [z] at b2
    rw [← b2, List.map_nil, List.append_nil] at k
    exact k t1 H (Same.refl H) h1
  · have S := same_upd (o := .tup ((ks.map fun p => V.ref p.1) ++ (ls.map fun p => V.ref p.1))) nt
    refine k t _ S ⟨ks ++ ls, by rw [upd_same, List.map_append], by rw [List.map_append, a2, b2], fun p hp => ?_⟩
    rcases List.mem_append.mp hp with h | h
    · exact S _ _ (a3 p h)
    · exact S _ _ (b3 p h)
/-- some of its edges, in another order -/
structure RwP.Part (A B : RwP) : Prop where
  sg : A.sg = B.sg
  st : A.st = B.st
  en : A.en = B.en
  ed : ∀ e ∈ A.ed, e ∈ B.ed
  few : A.ed.length ≤ B.ed.length
theorem part_ok {A B : RwP} (p : RwP.Part A B) (ok : B.Ok) : A.Ok :=
  ⟨by rw [p.sg]; exact ok.sg, by rw [p.st]; exact ok.st, fun e he => by rw [p.sg]; exact ok.ed e (p.ed e he), Nat.le_trans p.few ok.few, by rw [p.en]; exact ok.en⟩
end K0
set_option maxRecDepth 100000
set_option maxHeartbeats 1000000
namespace K0
open PySem L2 FM He
def tyN : PyData → String
  | .none => "NoneType"
  | .bool _ => "bool"
  | .int _ => "int"
  | .str _ => "str"
  | .list _ => "list"
  | .tuple _ => "tuple"
  | .dict _ => "dict"
theorem ty_lst {K : PySem.W.Frag} {H : Hp} {a : Addr} {xs : List V} (h : SqL K H a xs) : TyX K H (.ref a) (.type "list") := by
  rcases h with h | ⟨o, its, n, h1, h2, _⟩
  · rcases h with h | ⟨od, h⟩
    · exact .base (.lst h)
    · exact .base (.frz h)
  · exact .kList h1 h2
theorem dp_ty {K : PySem.W.Frag} {H : Hp} {v : V} {d : PyData} (h : Dp K H v d) : TyX K H v (.type (tyN d)) := by
  cases h with
  | non => exact .base .non
  | bl b => exact .base (.bl b)
  | int i => exact .base (.int i)
  | str x => exact .base (.str x)
  | lst h _ => exact ty_lst h
  | tup h _ => exact ty_tup h
def isInt : PyData → Bool
  | .int _ => true
  | _ => false
def isTup : PyData → Bool
  | .tuple _ => true
  | _ => false
def isTupN (n : Nat) : PyData → Bool
  | .tuple ds => ds.length == n
  | _ => false
theorem kTup (d : PyData) : kitB (tyN d) "tuple" = some (isTup d) := by
  cases d with
  | none => show kitB "NoneType" "tuple" = some false; decide +kernel
  | bool _ => show kitB "bool" "tuple" = some false; decide +kernel
  | int _ => show kitB "int" "tuple" = some false; decide +kernel
  | str _ => show kitB "str" "tuple" = some false; decide +kernel
  | list _ => show kitB "list" "tuple" = some false; decide +kernel
  | tuple _ => show kitB "tuple" "tuple" = some true; decide +kernel
  | dict _ => show kitB "dict" "tuple" = some false; decide +kernel
def isIntB : PyData → Bool
  | .int _ => true
  | .bool _ => true
  | _ => false
def isBool : PyData → Bool
  | .bool _ => true
  | _ => false
theorem kInt (d : PyData) : kitB (tyN d) "int" = some (isIntB d) := by
  cases d with
  | none => show kitB "NoneType" "int" = some false; decide +kernel
  | bool _ => show kitB "bool" "int" = some true; decide +kernel
  | int _ => show kitB "int" "int" = some true; decide +kernel
  | str _ => show kitB "str" "int" = some false; decide +kernel
  | list _ => show kitB "list" "int" = some false; decide +kernel
  | tuple _ => show kitB "tuple" "int" = some false; decide +kernel
  | dict _ => show kitB "dict" "int" = some false; decide +kernel
theorem kBool (d : PyData) : kitB (tyN d) "bool" = some (isBool d) := by
  cases d with
  | none => show kitB "NoneType" "bool" = some false; decide +kernel
  | bool _ => show kitB "bool" "bool" = some true; decide +kernel
  | int _ => show kitB "int" "bool" = some false; decide +kernel
  | str _ => show kitB "str" "bool" = some false; decide +kernel
  | list _ => show kitB "list" "bool" = some false; decide +kernel
  | tuple _ => show kitB "tuple" "bool" = some false; decide +kernel
  | dict _ => show kitB "dict" "bool" = some false; decide +kernel
theorem isInt_of {d : PyData} (h : isInt d = true) : ∃ i, d = .int i := by
  cases d <;> first | exact ⟨_, rfl⟩ | exact absurd h Bool.false_ne_true
theorem isTup_of {d : PyData} (h : isTup d = true) : ∃ ds, d = .tuple ds := by
  cases d <;> first | exact ⟨_, rfl⟩ | exact absurd h Bool.false_ne_true
theorem dp_int {K : PySem.W.Frag} {H : Hp} {v : V} {i : Int} (h : Dp K H v (.int i)) : v = .int i := by cases h; rfl
theorem dp_str {K : PySem.W.Frag} {H : Hp} {v : V} {z : Str} (h : Dp K H v (.str z)) : v = .str z := by cases h; rfl
theorem dp_tup {K : PySem.W.Frag} {H : Hp} {v : V} {ds : List PyData} (h : Dp K H v (.tuple ds)) : ∃ t xs, v = .ref t ∧ SqT K H t xs ∧ DpAll K H xs ds := by cases h with | tup h k => exact ⟨_, _, rfl, h, k⟩
theorem dpAll_len {K : PySem.W.Frag} {H : Hp} : ∀ {xs : List V} {ds : List PyData}, DpAll K H xs ds → xs.length = ds.length
  | _, _, .nil => rfl
  | _, _, .cons _ h => by rw [List.length_cons, List.length_cons, dpAll_len h]
theorem dpAll_get {K : PySem.W.Frag} {H : Hp} : ∀ {xs : List V} {ds : List PyData}, DpAll K H xs ds → ∀ {i : Nat} {x : V}, xs[i]? = some x → ∃ d, ds[i]? = some d ∧ Dp K H x d
  | _, _, .nil, i, x, h => by cases h
  | _, _, .cons r t, 0, x, h => by
    have e := Option.some.inj h
    subst e
    exact ⟨_, rfl, r⟩
  | _, _, .cons r t, i + 1, x, h => dpAll_get t h
theorem dpAll_at {K : PySem.W.Frag} {H : Hp} : ∀ {xs : List V} {ds : List PyData}, DpAll K H xs ds → ∀ {i : Nat} {d : PyData}, ds[i]? = some d → ∃ x, xs[i]? = some x ∧ Dp K H x d
  | _, _, .nil, i, x, h => by cases h
  | _, _, .cons r t, 0, x, h => by
    have e := Option.some.inj h
    subst e
    exact ⟨_, rfl, r⟩
  | _, _, .cons r t, i + 1, x, h => dpAll_at t h
mutual
theorem Dp.same {K : PySem.W.Frag} {H H' : Hp} (S : Same H H') : ∀ {v : V} {d : PyData}, Dp K H v d → Dp K H' v d
  | _, _, .non => .non
  | _, _, .bl b => .bl b
  | _, _, .int i => .int i
  | _, _, .str x => .str x
  | _, _, .lst h k => .lst (sqL_same S h) (DpAll.same S k)
  | _, _, .tup h k => .tup (sqT_same S h) (DpAll.same S k)
theorem DpAll.same {K : PySem.W.Frag} {H H' : Hp} (S : Same H H') : ∀ {xs : List V} {ds : List PyData}, DpAll K H xs ds → DpAll K H' xs ds
  | _, _, .nil => .nil
  | _, _, .cons h k => .cons (Dp.same S h) (DpAll.same S k)
end
/-- the data of an edge -/
def isE (e : Edg) : PyData → Bool
  | .tuple [.int a, .str c, .str u, .int b] => decide (a = (e.a : Int)) && decide (c = ⟨#[e.c]⟩) && decide (u = e.u) && decide (b = (e.b : Int))
  | _ => false
theorem isE_iff {e : Edg} {d : PyData} : isE e d = true ↔ d = keysD e.row := by
  constructor
  · intro h
    unfold isE at h
    split at h
    · simp only [Bool.and_eq_true, decide_eq_true_eq] at h
      obtain ⟨⟨⟨rfl, rfl⟩, rfl⟩, rfl⟩ := h
      rfl
    · exact absurd h Bool.false_ne_true
  · rintro rfl
    show (decide _ && decide _ && decide _ && decide _) = true
    simp
def findE (ed : List Edg) (d : PyData) : Option Edg := ed.find? fun e => isE e d
theorem findE_some {ed : List Edg} {d : PyData} {e : Edg} (h : findE ed d = some e) : e ∈ ed ∧ d = keysD e.row := ⟨List.mem_of_find?_eq_some h, isE_iff.mp (List.find?_some (p := fun e => isE e d) h)⟩
theorem row_inj {e f : Edg} (h : keysD e.row = keysD f.row) : e = f := by
  have h := isE_iff.mpr h
  have h2 : (decide ((e.a : Int) = (f.a : Int)) && decide ((⟨#[e.c]⟩ : Str) = ⟨#[f.c]⟩) && decide (e.u = f.u) && decide ((e.b : Int) = (f.b : Int))) = true := h
  simp only [Bool.and_eq_true, decide_eq_true_eq] at h2
  obtain ⟨⟨⟨h1, h2⟩, h3⟩, h4⟩ := h2
  obtain ⟨a, c, u, b⟩ := e
  obtain ⟨a', c', u', b'⟩ := f
  have h5 : c = c' := by simpa using congrArg (fun s : Str => s.cps.toList) h2
  simp only at h1 h3 h4
  rw [h5, h3, show a = a' by omega, show b = b' by omega]
theorem find_any (ed : List Edg) (d : PyData) : (ed.any fun e => isE e d) = (findE ed d).isSome := by
  unfold findE
  induction ed with
  | nil => rfl
  | cons e ed ih =>
    rw [List.any_cons, List.find?_cons]
    cases q : isE e d with
    | true => rfl
    | false => simpa using ih
theorem eqv_isE {e : Edg} {d0 d1 d2 d3 : PyData} (h0 : isInt d0 = true) (h3 : isInt d3 = true) : (keysD e.row).eqv (.tuple [d0, d1, d2, d3]) = isE e (.tuple [d0, d1, d2, d3]) := by
  obtain ⟨a, rfl⟩ := isInt_of h0
  obtain ⟨b, rfl⟩ := isInt_of h3
  have e4 : (keysD e.row).eqv (.tuple [.int a, d1, d2, .int b]) = (((e.a : Int) == a) && (PyData.eqv (.str ⟨#[e.c]⟩) d1 && (PyData.eqv (.str e.u) d2 && (((e.b : Int) == b) && true)))) := by
    show PyData.eqv (.tuple [.int (e.a : Int), .str ⟨#[e.c]⟩, .str e.u, .int (e.b : Int)]) _ = _
    rw [PyData.eqv, PyData.eqvAll, PyData.eqvAll, PyData.eqvAll, PyData.eqvAll, PyData.eqvAll, PyData.eqv, PyData.eqv]
  rw [e4]
  have no : ∀ x : Bool, (((e.a : Int) == a) && (false && x)) = false := fun x => by rw [Bool.false_and, Bool.and_false]
  have no2 : ∀ x y : Bool, (((e.a : Int) == a) && (x && (false && y))) = false := fun x y => by rw [Bool.false_and, Bool.and_false, Bool.and_false]
  cases d1 with
  | str c =>
    cases d2 with
    | str u =>
      rw [PyData.eqv, PyData.eqv]
      show (_ : Bool) = (decide (a = (e.a : Int)) && decide (c = ⟨#[e.c]⟩) && decide (u = e.u) && decide (b = (e.b : Int)))
      rw [Bool.eq_iff_iff]
      simp only [Bool.and_eq_true, beq_iff_eq, decide_eq_true_eq, and_true]
      constructor
      · rintro ⟨h1, h2, h3, h4⟩
        exact ⟨⟨⟨h1.symm, h2.symm⟩, h3.symm⟩, h4.symm⟩
      · rintro ⟨⟨⟨h1, h2⟩, h3⟩, h4⟩
        exact ⟨h1.symm, h2.symm, h3.symm, h4.symm⟩
    | none => rw [PyData.eqv.eq_def (.str e.u)]; exact no2 _ _
    | bool _ => rw [PyData.eqv.eq_def (.str e.u)]; exact no2 _ _
    | int _ => rw [PyData.eqv.eq_def (.str e.u)]; exact no2 _ _
    | list _ => rw [PyData.eqv.eq_def (.str e.u)]; exact no2 _ _
    | tuple _ => rw [PyData.eqv.eq_def (.str e.u)]; exact no2 _ _
    | dict _ => rw [PyData.eqv.eq_def (.str e.u)]; exact no2 _ _
  | none => rw [PyData.eqv.eq_def (.str ⟨#[e.c]⟩)]; exact no _
  | bool _ => rw [PyData.eqv.eq_def (.str ⟨#[e.c]⟩)]; exact no _
  | int _ => rw [PyData.eqv.eq_def (.str ⟨#[e.c]⟩)]; exact no _
  | list _ => rw [PyData.eqv.eq_def (.str ⟨#[e.c]⟩)]; exact no _
  | tuple _ => rw [PyData.eqv.eq_def (.str ⟨#[e.c]⟩)]; exact no _
  | dict _ => rw [PyData.eqv.eq_def (.str ⟨#[e.c]⟩)]; exact no _
theorem findE_none {ed : List Edg} {d : PyData} (h : ∀ e, isE e d = false) : findE ed d = none := List.find?_eq_none.mpr fun e _ => by rw [h e]; exact Bool.false_ne_true
theorem notE4 {d : PyData} (h : isTupN 4 d = false) (e : Edg) : isE e d = false := by
  cases q : isE e d with
  | false => rfl
  | true =>
    rw [isE_iff.mp q] at h
    exact absurd h (by show ((4 : Nat) == 4) ≠ false; decide)
/-- the data of a row of edges that goes on from a state -/
def rowB (ed : List Edg) : Nat → List PyData → Bool
  | _, [] => true
  | s, d :: ds => match findE ed d with
    | some e => e.a == s && rowB ed e.b ds
    | none => false
def stB (st : List (Nat × Str)) : PyData → Bool
  | .int i => st.any fun p => decide ((p.1 : Int) = i)
  | _ => false
/-- the data of a path -/
def trB (st : List (Nat × Str)) (ed : List Edg) : PyData → Bool
  | .tuple [.int i, .tuple ds] => stB st (.int i) && rowB ed i.toNat ds
  | _ => false
/-- a path: from s on, these edges -/
def Chn : Nat → List Edg → Prop
  | _, [] => True
  | s, e :: es => e.a = s ∧ Chn e.b es
def pathD (s : Nat) (es : List Edg) : PyData := .tuple [.int (s : Int), .tuple (es.map fun e => keysD e.row)]
theorem rowB_of {ed : List Edg} : ∀ {ds : List PyData} {s : Nat}, rowB ed s ds = true → ∃ es, ds = es.map (fun e => keysD e.row) ∧ Chn s es ∧ ∀ e ∈ es, e ∈ ed
  | [], s, _ => ⟨[], rfl, trivial, fun e h => by cases h⟩
  | d :: ds, s, h => by
    unfold rowB at h
    cases q : findE ed d with
    | none => rw [q] at h; exact absurd h Bool.false_ne_true
    | some e =>
      rw [q] at h
      rw [Bool.and_eq_true, beq_iff_eq] at h
      obtain ⟨he, rfl⟩ := findE_some q
      obtain ⟨es, rfl, c, m⟩ := rowB_of h.2
      exact ⟨e :: es, rfl, ⟨h.1, c⟩, fun x hx => by
        rcases List.mem_cons.mp hx with rfl | hx
        · exact he
        · exact m x hx⟩
theorem trB_of {st : List (Nat × Str)} {ed : List Edg} {d : PyData} (h : trB st ed d = true) : ∃ s u es, (s, u) ∈ st ∧ d = pathD s es ∧ Chn s es ∧ ∀ e ∈ es, e ∈ ed := by
  unfold trB at h
  split at h
  · rw [Bool.and_eq_true] at h
    obtain ⟨p, hp, e⟩ := List.any_eq_true.mp h.1
    have e := of_decide_eq_true e
    subst e
    obtain ⟨es, rfl, c, m⟩ := rowB_of h.2
    exact ⟨p.1, p.2, es, hp, rfl, by simpa using c, m⟩
  · exact absurd h Bool.false_ne_true
end K0
set_option maxRecDepth 100000
set_option maxHeartbeats 4000000
namespace K0
open PySem L2 FM He
theorem valV_st {st : List (Nat × Str)} (ok : TblOk st) (i : Int) : (valV (entW st) (.inl i)).isSome = stB st (.int i) := by
  show _ = st.any fun p => decide ((p.1 : Int) = i)
  by_cases h : ∃ p ∈ st, (p.1 : Int) = i
  · obtain ⟨p, hp, rfl⟩ := h
    rw [entW_get ok (m := p.1) (u := p.2) hp]
    exact (List.any_eq_true.mpr ⟨p, hp, decide_eq_true rfl⟩).symm
  · rw [valV_out fun z => h ?_]
    · have : (st.any fun p => decide ((p.1 : Int) = i)) = false := List.any_eq_false.mpr fun p hp e => h ⟨p, hp, of_decide_eq_true e⟩
      rw [this]
      rfl
    · rw [entW_keys] at z
      obtain ⟨m, hm, e⟩ := List.mem_map.mp z
      obtain ⟨p, hp, rfl⟩ := List.mem_map.mp hm
      exact ⟨p, hp, Sum.inl.inj e⟩
theorem isE_ints {e : Edg} {d0 d1 d2 d3 : PyData} (h : isE e (.tuple [d0, d1, d2, d3]) = true) : isInt d0 = true ∧ isInt d3 = true := by
  have h2 : PyData.tuple [d0, d1, d2, d3] = .tuple [.int (e.a : Int), .str ⟨#[e.c]⟩, .str e.u, .int (e.b : Int)] := isE_iff.mp h
  injection h2 with h2
  injection h2 with h0 h2
  injection h2 with h1 h2
  injection h2 with h2' h2
  injection h2 with h3 _
  rw [h0, h3]
  exact ⟨rfl, rfl⟩
theorem len4 {α : Type} {ds : List α} (h : ds.length = 4) : ∃ d0 d1 d2 d3, ds = [d0, d1, d2, d3] := by
  match ds, h with
  | [d0, d1, d2, d3], _ => exact ⟨d0, d1, d2, d3, rfl⟩
theorem dpAll4 {K : PySem.W.Frag} {H : Hp} {xs : List V} {d0 d1 d2 d3 : PyData} (h : DpAll K H xs [d0, d1, d2, d3]) : ∃ v0 v1 v2 v3, xs = [v0, v1, v2, v3] ∧ Dp K H v0 d0 ∧ Dp K H v3 d3 := by
  cases h with | cons p0 h => cases h with | cons p1 h => cases h with | cons p2 h => cases h with | cons p3 h => cases h with | nil => exact ⟨_, _, _, _, rfl, p0, p3⟩
theorem tupN_len {n : Nat} {ds : List PyData} : isTupN n (.tuple ds) = decide (ds.length = n) := by
  show (ds.length == n) = _
  rw [Bool.eq_iff_iff, beq_iff_eq, decide_eq_true_iff]
theorem decI (w k : Nat) : decide (V.int (w : Nat) = V.int (k : Nat)) = decide (w = k) := by
  rw [Bool.eq_iff_iff, decide_eq_true_iff, decide_eq_true_iff]
  refine ⟨fun z => ?_, fun z => by rw [z]⟩
  injection z with z
  omega
section
variable {P : Program} {w : World} {K : PySem.W.Frag} {mg : Str → Option Value} {base : Heap}
theorem ok_is_integerD {f : Addr} {fd : FuncData} (F : FnP K "is_integer" s_is_integer f fd) (T : TP K mg) : FnOk P w K mg base CX0 1 f fd ["value"] (fun vs H Q _ => ∃ (v : V) (d : PyData), vs = [v] ∧ Dp K H v d ∧ Q (.bl (isInt d)) H) := by
  refine F.ok sc_is_integer (fun vs H Q E h => ?_) (fun cdv A outer s H vs Q E hr h => ?_)
  · obtain ⟨v, d, rfl, _⟩ := h
    rfl
  · obtain ⟨v, d, rfl, hd, k⟩ := h
    have nd := sc_is_integer.nd
    refine ⟨_, PSs.nox (pss_one (ps_ret (pe_and (pe_callB call_isi (by rfl) T.b_isinstance (by decide +kernel) (pa_cons (pv 0) (pa_cons (pe_bltn (v := .ty "int") (by rfl) T.b_int (by decide +kernel) rfl) pa_nil))) (pe_one (pe_not (pe_callB call_isi (by rfl) T.b_isinstance (by decide +kernel) (pa_cons (pv 0) (pa_cons (pe_bltn (v := .ty "bool") (by rfl) T.b_bool (by decide +kernel) rfl) pa_nil)))))))), ?_⟩
    refine ⟨_, rfl, v, _, _, _, isIntB d, rfl, ClsV.ty _, dp_ty hd, kit_ty (kInt d), _, rfl, iteB (d := isIntB d) rfl (fun h => ?_) fun h => ?_⟩
    · refine ⟨_, rfl, v, _, _, _, isBool d, rfl, ClsV.ty _, dp_ty hd, kit_ty (kBool d), _, rfl, ?_⟩
      have : (!isBool d) = isInt d := by cases d <;> first | rfl | exact absurd h Bool.false_ne_true
      rw [this]
      exact k
    · have : isInt d = false := by cases d <;> first | rfl | exact absurd h.symm Bool.false_ne_true
      rw [this] at k
      exact k
theorem ok_is_tuple_ofD {f : Addr} {fd : FuncData} (F : FnP K "is_tuple_of" s_is_tuple_of f fd) (T : TP K mg) : FnOk P w K mg base CX0 1 f fd ["value", "many"] (fun vs H Q _ => ∃ (v : V) (d : PyData) (n : Nat), vs = [v, .int (n : Nat)] ∧ Dp K H v d ∧ Q (.bl (isTupN n d)) H) := by
  refine F.ok sc_is_tuple_of (fun vs H Q E h => ?_) (fun cdv A outer s H vs Q E hr h => ?_)
  · obtain ⟨v, d, n, rfl, _⟩ := h
    rfl
  · obtain ⟨v, d, n, rfl, hd, k⟩ := h
    have nd := sc_is_tuple_of.nd
    refine ⟨_, PSs.nox (pss_one (ps_ret (pe_and (pe_callB call_isi (by rfl) T.b_isinstance (by decide +kernel) (pa_cons (pv 0) (pa_cons (pe_bltn (v := .ty "tuple") (by rfl) T.b_tuple (by decide +kernel) rfl) pa_nil))) (pe_one (pe_cmpR op_eq (pe_callB call_len (by rfl) T.b_len (by decide +kernel) (pa_cons (pv 0) pa_nil)) (pv 1) (nomark _)))))), ?_⟩
    refine ⟨_, rfl, v, _, _, _, isTup d, rfl, ClsV.ty _, dp_ty hd, kit_ty (kTup d), _, rfl, iteB (d := isTup d) rfl (fun h => ?_) fun h => ?_⟩
    · obtain ⟨ds, rfl⟩ := isTup_of h
      obtain ⟨t, xs, rfl, ht, da⟩ := dp_tup hd
      refine ⟨_, rfl, _, xs.length, rfl, .inr ⟨xs, ht, rfl⟩, _, rfl, rfl, ?_⟩
      rw [tupN_len, ← dpAll_len da, ← decI] at k
      exact k
    · have : isTupN n d = false := by cases d <;> first | rfl | exact absurd h.symm Bool.false_ne_true
      rw [this] at k
      exact k
theorem ok_is_state_ofD {f : Addr} {fd : FuncData} (F : FnP K "is_state_of" s_is_state_of f fd) (T : TP K mg) : FnOk P w K mg base CX0 2 f fd ["states", "value"] (fun vs H Q _ => ∃ (a : Addr) (v : V) (d : PyData) (st : List (Nat × Str)), vs = [.ref a, v] ∧ H a = some (.dK (entW st)) ∧ TblOk st ∧ Dp K H v d ∧ Q (.bl (stB st d)) H) := by
  obtain ⟨d_is_integer, F_is_integer⟩ := T.f_is_integer
  have G_is_integer := ok_is_integer (P := P) (w := w) (base := base) F_is_integer T
  have b_is_integer : Binds K d_is_integer ["value"] [] := F_is_integer.bindsN fun _ _ _ _ _ _ us hl => match us, hl with | [_], _ => rfl
  have G_is_integer := ok_is_integerD (P := P) (w := w) (base := base) F_is_integer T
  refine F.ok sc_is_state_of (fun vs H Q E h => ?_) (fun cdv A outer s H vs Q E hr h => ?_)
  · obtain ⟨a, v, d, st, rfl, _⟩ := h
    rfl
  · obtain ⟨a, v, d, st, rfl, ha, ok, hd, k⟩ := h
    have nd := sc_is_state_of.nd
    have hu64 := hr.units
    have hu1 := Nat.lt_of_le_of_lt (Nat.add_le_add_left (by decide : 1 ≤ 64) _) hu64
    refine ⟨_, PSs.nox (pss_one (ps_ret (pe_and (pe_call G_is_integer (hr.mono (by decide)) rfl T.g_is_integer F_is_integer.kp b_is_integer .nil pass0 (pa_cons (pv 1) pa_nil)) (pe_one (pe_cmp (pc_din hu1 (pv 1) (pv 0)) rfl))))), ?_⟩
    refine ⟨_, rfl, v, d, rfl, hd, _, rfl, iteB (d := isInt d) rfl (fun h => ?_) fun h => ?_⟩
    · obtain ⟨i, rfl⟩ := isInt_of h
      obtain rfl := dp_int hd
      refine ⟨_, rfl, _, rfl, a, _, rfl, DGet.k (k := (.inl i : Key)) ha, ?_⟩
      rw [valV_st ok]
      exact k
    · have : stB st d = false := by cases d <;> first | rfl | exact absurd h.symm Bool.false_ne_true
      rw [this] at k
      exact k
theorem ok_is_edge_ofD {f : Addr} {fd : FuncData} (F : FnP K "is_edge_of" s_is_edge_of f fd) (T : TP K mg) : FnOk P w K mg base CX0 2 f fd ["edges", "value"] (fun vs H Q _ => ∃ (t : Addr) (v : V) (sg : List Nat) (ed : List Edg) (d : PyData), vs = [.ref t, v] ∧ SgOk sg ∧ (∀ e ∈ ed, EdgOk sg e) ∧ EdAt H t ed ∧ Dp K H v d ∧ SeqAt.shaped d = true ∧ Q (.bl (findE ed d).isSome) H) := by
  obtain ⟨d_is_tuple_of, F_is_tuple_of⟩ := T.f_is_tuple_of
  have G_is_tuple_of := ok_is_tuple_of (P := P) (w := w) (base := base) F_is_tuple_of T
  have b_is_tuple_of : Binds K d_is_tuple_of ["value", "many"] [] := F_is_tuple_of.bindsN fun _ _ _ _ _ _ us hl => match us, hl with | [_, _], _ => rfl
  obtain ⟨d_is_integer, F_is_integer⟩ := T.f_is_integer
  have G_is_integer := ok_is_integer (P := P) (w := w) (base := base) F_is_integer T
  have b_is_integer : Binds K d_is_integer ["value"] [] := F_is_integer.bindsN fun _ _ _ _ _ _ us hl => match us, hl with | [_], _ => rfl
  have G_is_integer := ok_is_integerD (P := P) (w := w) (base := base) F_is_integer T
  have G_is_tuple_of := ok_is_tuple_ofD (P := P) (w := w) (base := base) F_is_tuple_of T
  refine F.ok sc_is_edge_of (fun vs H Q E h => ?_) (fun cdv A outer s H vs Q E hr h => ?_)
  · obtain ⟨t, v, sg, ed, d, rfl, _⟩ := h
    rfl
  · obtain ⟨t, v, sg, ed, d, rfl, g, oks, ⟨ks, a1, a2, a3⟩, hd, sd, k⟩ := h
    have nd := sc_is_edge_of.nd
    have hu64 := hr.units
    have hu65 : (A.deeper (PyProof.Rows.envOfC "is_edge_of" (defScope s_is_edge_of) s.heap.objs.size f cdv)).units + 65 < cLine := by
      have := hr.un
      omega
    refine ⟨_, PSs.nox (pss_cons (ps_if (PW.pt (pw_or (pt_not (pt_val (pe_call G_is_tuple_of (hr.mono (by decide)) rfl T.g_is_tuple_of F_is_tuple_of.kp b_is_tuple_of .nil pass0 (pa_cons (pv 1) (pa_cons pe_int pa_nil))))) (pw_or (pt_not (pt_val (pe_call G_is_integer (hr.mono (by decide)) rfl T.g_is_integer F_is_integer.kp b_is_integer .nil pass0 (pa_cons (pe_ix ix_seq (pv 1) pe_int (fun _ _ => rfl)) pa_nil)))) (pw_or1 (pt_not (pt_val (pe_call G_is_integer (hr.mono (by decide)) rfl T.g_is_integer F_is_integer.kp b_is_integer .nil pass0 (pa_cons (pe_ix ix_seq (pv 1) pe_int (fun _ _ => rfl)) pa_nil)))))))) (pss_one (ps_ret pe_bl)) pss_nil)
      (pss_one (ps_ret (pe_cmpR (op_inTup hu65 : OpR _ _ (rInTup K)) (pv 1) (pv 0) (by rfl))))), ?_⟩
    have bad : (∀ e, isE e d = false) → Q (.bl false) H := fun h => by
      rw [findE_none h] at k
      exact k
    refine ⟨_, rfl, v, d, 4, rfl, hd, _, rfl, iteB (d := !isTupN 4 d) rfl (fun h => iteT (bad fun e => notE4 (by simpa using h) e)) fun h => ?_⟩
    have h : isTupN 4 d = true := by simpa using h
    obtain ⟨ds, rfl⟩ : ∃ ds, d = .tuple ds := by cases d <;> first | exact ⟨_, rfl⟩ | exact absurd h Bool.false_ne_true
    obtain ⟨t', xs, rfl, ht, da⟩ := dp_tup hd
    have l4 : ds.length = 4 := by rw [tupN_len] at h; exact of_decide_eq_true h
    obtain ⟨d0, d1, d2, d3, rfl⟩ := len4 l4
    obtain ⟨v0, v1, v2, v3, rfl, p0, p3⟩ := dpAll4 da
    refine ⟨_, rfl, .inr (.inl ⟨t', _, 0, _, rfl, rfl, ht, rfl, v0, d0, rfl, p0, _, rfl, iteB (d := !isInt d0) rfl (fun h0 => iteT ?_) fun h0 => ?_⟩)⟩
    · refine bad fun e => ?_
      cases q : isE e (.tuple [d0, d1, d2, d3]) with
      | false => rfl
      | true => rw [(isE_ints q).1] at h0; exact absurd h0 Bool.false_ne_true
    refine ⟨_, rfl, .inr (.inl ⟨t', _, 3, _, rfl, rfl, ht, rfl, v3, d3, rfl, p3, _, rfl, iteB (d := !isInt d3) rfl (fun h3 => ?_) fun h3 => ?_⟩)⟩
    · refine bad fun e => ?_
      cases q : isE e (.tuple [d0, d1, d2, d3]) with
      | false => rfl
      | true => rw [(isE_ints q).2] at h3; exact absurd h3 Bool.false_ne_true
    have h0 : isInt d0 = true := by simpa using h0
    have h3 : isInt d3 = true := by simpa using h3
    refine ⟨_, rfl, _, rfl, _, _, hd, .tup (.of a1) (dpAll_rows a3), sd, ?_, ?_⟩
    · have e1 : (ks.map fun p => keysD p.2.row) = ed.map fun e => keysD e.row := by rw [← a2, List.map_map]; rfl
      rw [e1]
      exact shaped_rows g ed oks
    · have : ((ks.map fun p => keysD p.2.row).any fun z => z.eqv (.tuple [d0, d1, d2, d3])) = (findE ed (.tuple [d0, d1, d2, d3])).isSome := by
        rw [← find_any, ← a2, List.any_map, List.any_map]
        exact congrArg (fun f => List.any ks f) (funext fun p => eqv_isE h0 h3)
      rw [this]
      exact k
end
end K0
set_option maxRecDepth 100000
set_option maxHeartbeats 4000000
namespace K0
open PySem L2 FM He
theorem depth_mem : ∀ {ds : List PyData} {d : PyData}, d ∈ ds → d.depth ≤ PyData.depthAll ds
  | x :: ds, d, h => by
    rw [PyData.depthAll]
    rcases List.mem_cons.mp h with rfl | h
    · omega
    · have := depth_mem h
      omega
theorem lay_mem : ∀ {ds : List PyData} {d : PyData}, d ∈ ds → PyData.canLayAll0 ds = true → PyData.canLay0 d = true
  | x :: ds, d, h, l => by
    rw [PyData.canLayAll0, Bool.and_eq_true] at l
    rcases List.mem_cons.mp h with rfl | h
    · exact l.1
    · exact lay_mem h l.2
theorem shaped_mem {ds : List PyData} {d : PyData} (h : d ∈ ds) (s : SeqAt.shaped (.tuple ds) = true) : SeqAt.shaped d = true := by
  unfold SeqAt.shaped at s ⊢
  rw [Bool.and_eq_true] at s ⊢
  refine ⟨lay_mem h (by rw [PyData.canLay0] at s; exact s.1), decide_eq_true ?_⟩
  have h1 := of_decide_eq_true s.2
  have h2 := depth_mem h
  rw [PyData.depth] at h1
  omega
theorem len2 {α : Type} {ds : List α} (h : ds.length = 2) : ∃ d0 d1, ds = [d0, d1] := by
  match ds, h with
  | [d0, d1], _ => exact ⟨d0, d1, rfl⟩
theorem dpAll2 {K : PySem.W.Frag} {H : Hp} {xs : List V} {d0 d1 : PyData} (h : DpAll K H xs [d0, d1]) : ∃ v0 v1, xs = [v0, v1] ∧ Dp K H v0 d0 ∧ Dp K H v1 d1 := by
  cases h with | cons p0 h => cases h with | cons p1 h => cases h with | nil => exact ⟨_, _, rfl, p0, p1⟩
theorem dp_row1 {K : PySem.W.Frag} {H : Hp} {v : V} {e : Edg} (h : Dp K H v (keysD e.row)) : ∃ t, v = .ref t ∧ SqT K H t (e.row.map kV) := by
  obtain ⟨t, xs, rfl, ht, da⟩ := dp_tup (ds := [.int (e.a : Int), .str ⟨#[e.c]⟩, .str e.u, .int (e.b : Int)]) h
  refine ⟨t, rfl, ?_⟩
  cases da with | cons p0 da => cases da with | cons p1 da => cases da with | cons p2 da => cases da with | cons p3 da => cases da with | nil =>
    cases p0
    cases p1
    cases p2
    cases p3
    exact ht
theorem trB_no2 {st : List (Nat × Str)} {ed : List Edg} {d : PyData} (h : isTupN 2 d = false) : trB st ed d = false := by
  cases q : trB st ed d with
  | false => rfl
  | true =>
    obtain ⟨s, u, es, _, rfl, _⟩ := trB_of q
    exact absurd h (by show ((2 : Nat) == 2) ≠ false; decide)
theorem trB_not {st : List (Nat × Str)} {ed : List Edg} {d0 d1 : PyData} (h : isTup d1 = false) : trB st ed (.tuple [d0, d1]) = false := by
  cases q : trB st ed (.tuple [d0, d1]) with
  | false => rfl
  | true =>
    obtain ⟨s, u, es, _, e, _⟩ := trB_of q
    unfold pathD at e
    injection e with e
    injection e with e0 e
    injection e with e1 _
    rw [e1] at h
    exact absurd h Bool.noConfusion
theorem stB_nat {st : List (Nat × Str)} {d : PyData} (h : stB st d = true) : ∃ s : Nat, d = .int (s : Int) ∧ ∃ u, (s, u) ∈ st := by
  cases d with
  | int i =>
    obtain ⟨p, hp, e⟩ := List.any_eq_true.mp h
    have e := of_decide_eq_true e
    exact ⟨p.1, by rw [e], p.2, hp⟩
  | _ => exact absurd h Bool.false_ne_true
theorem trB_st {st : List (Nat × Str)} {ed : List Edg} {d0 : PyData} {ds : List PyData} (h : stB st d0 = false) : trB st ed (.tuple [d0, .tuple ds]) = false := by
  cases d0 with
  | int i =>
    show (stB st (.int i) && _) = false
    rw [h, Bool.false_and]
  | _ => rfl
theorem trB_int {st : List (Nat × Str)} {ed : List Edg} {s : Nat} {ds : List PyData} (h : stB st (.int (s : Int)) = true) : trB st ed (.tuple [.int (s : Int), .tuple ds]) = rowB ed s ds := by
  show (stB st (.int (s : Int)) && rowB ed ((s : Int)).toNat ds) = _
  rw [h, Bool.true_and, Int.toNat_natCast]
theorem rowB_some {ed : List Edg} {s : Nat} {d : PyData} {ds : List PyData} {e : Edg} (q : findE ed d = some e) : rowB ed s (d :: ds) = (e.a == s && rowB ed e.b ds) := by
  show (match findE ed d with | some e => e.a == s && rowB ed e.b ds | none => false) = _
  rw [q]
theorem rowB_no {ed : List Edg} {s : Nat} {d : PyData} {ds : List PyData} (q : findE ed d = none) : rowB ed s (d :: ds) = false := by
  show (match findE ed d with | some e => e.a == s && rowB ed e.b ds | none => false) = _
  rw [q]
section
variable {P : Program} {w : World} {K : PySem.W.Frag} {mg : Str → Option Value} {base : Heap}
def spTrl (K : PySem.W.Frag) : Sp := fun vs H Q _ => ∃ (x : Addr) (v : V) (R : RwP) (us : List Nat) (ed : List Edg) (d : PyData), vs = [.ref x, v] ∧ R.Ok ∧ Kept R us ed ∧ RwAt K H x R us ed ∧ Dp K H v d ∧ SeqAt.shaped d = true ∧ ∀ H', Same H H' → Q (.bl (trB (atS R.st us) ed d)) H'
theorem ok_is_trail {f : Addr} {fd : FuncData} (F : FnP K "is_trail" s_is_trail f fd) (T : TP K mg) : FnOk P w K mg base CX0 4 f fd ["rewriter", "value"] (spTrl K) := by
  obtain ⟨d_is_state_of, F_is_state_of⟩ := T.f_is_state_of
  have G_is_state_of := ok_is_state_of (P := P) (w := w) (base := base) F_is_state_of T
  have b_is_state_of : Binds K d_is_state_of ["states", "value"] [] := F_is_state_of.bindsN fun _ _ _ _ _ _ us hl => match us, hl with | [_, _], _ => rfl
  obtain ⟨d_is_tuple_of, F_is_tuple_of⟩ := T.f_is_tuple_of
  have G_is_tuple_of := ok_is_tuple_of (P := P) (w := w) (base := base) F_is_tuple_of T
  have b_is_tuple_of : Binds K d_is_tuple_of ["value", "many"] [] := F_is_tuple_of.bindsN fun _ _ _ _ _ _ us hl => match us, hl with | [_, _], _ => rfl
  obtain ⟨d_is_edge_of, F_is_edge_of⟩ := T.f_is_edge_of
  have G_is_edge_of := ok_is_edge_of (P := P) (w := w) (base := base) F_is_edge_of T
  have b_is_edge_of : Binds K d_is_edge_of ["edges", "value"] [] := F_is_edge_of.bindsN fun _ _ _ _ _ _ us hl => match us, hl with | [_, _], _ => rfl
  obtain ⟨p_edges, f_edges, d_edges, pp_edges, FP_edges⟩ := T.p_edges
  have GP_edges := ok_p_edges (P := P) (w := w) (base := base) FP_edges T
  have bP_edges : Binds K d_edges ["self"] [] := FP_edges.bindsN fun _ _ _ _ _ _ us hl => match us, hl with | [_], _ => rfl
  obtain ⟨p_starts, f_starts, d_starts, pp_starts, FP_starts⟩ := T.p_starts
  have GP_starts := ok_p_starts (P := P) (w := w) (base := base) FP_starts T
  have bP_starts : Binds K d_starts ["self"] [] := FP_starts.bindsN fun _ _ _ _ _ _ us hl => match us, hl with | [_], _ => rfl
  have G_is_tuple_of := ok_is_tuple_ofD (P := P) (w := w) (base := base) F_is_tuple_of T
  have G_is_state_of := ok_is_state_ofD (P := P) (w := w) (base := base) F_is_state_of T
  have G_is_edge_of := ok_is_edge_ofD (P := P) (w := w) (base := base) F_is_edge_of T
  refine F.ok sc_is_trail (fun vs H Q E h => ?_) (fun cdv A outer s H vs Q E hr h => ?_)
  · obtain ⟨x, v, R, us, ed, d, rfl, _⟩ := h
    rfl
  · obtain ⟨x, v, R, us, ed, d, rfl, ok, kept, M, hd, sd, kont⟩ := h
    have nd := sc_is_trail.nd
    have hu64 := hr.units
    have ndu : us.Nodup := kept.rise.imp fun h => Nat.ne_of_lt h
    have okS := atS_ok ok.st ndu
    have oks : ∀ e ∈ ed, EdgOk R.sg e := fun e he => ok.ed e ((kept.eds e).mp he).1
    refine ⟨_, PSs.nox (pss_cons (ps_if (PW.pt (pw_or (pt_not (pt_val (pe_call G_is_tuple_of (hr.mono (by decide)) rfl T.g_is_tuple_of F_is_tuple_of.kp b_is_tuple_of .nil pass0 (pa_cons (pv 1) (pa_cons pe_int pa_nil))))) (pw_or1 (pt_not (pt_val (pe_callB call_isi (by rfl) T.b_isinstance (by decide +kernel) (pa_cons (pe_ix ix_seq (pv 1) pe_int (fun _ _ => rfl)) (pa_cons (pe_bltn (v := .ty "tuple") (by rfl) T.b_tuple (by decide +kernel) rfl) pa_nil)))))))) (pss_one (ps_ret pe_bl)) pss_nil)
      (pss_cons (ps_asg (pv 1) (pg_tup (by rfl) (pgs_cons (pg_name (i := 2) nd rfl (.inl rfl)) (pgs_cons (pg_name (i := 3) nd rfl (.inl rfl)) pgs_nil))))
      (pss_cons (ps_if (pt_not (pt_val (pe_call G_is_state_of (hr.mono (by decide)) rfl T.g_is_state_of F_is_state_of.kp b_is_state_of .nil pass0 (pa_cons (pe_prop (pv 0) T.cl pp_starts GP_starts (hr.mono (by decide)) bP_starts .nil pass0 rfl) (pa_cons (pv 2) pa_nil))))) (pss_one (ps_ret pe_bl)) pss_nil)
      (pss_cons (ps_set (i := 4) nd rfl (.inl rfl) (pe_prop (pv 0) T.cl pp_edges GP_edges (hr.mono (by decide)) bP_edges .nil pass0 rfl))
      (pss_cons (ps_for PassesOwn.never rfl (pi_tup (pv 3)) (pg_name (i := 5) nd rfl (.inl rfl)) (pss_cons (ps_if (PW.pt (pw_or (pt_not (pt_val (pe_call G_is_edge_of (hr.mono (by decide)) rfl T.g_is_edge_of F_is_edge_of.kp b_is_edge_of .nil pass0 (pa_cons (pv 4) (pa_cons (pv 5) pa_nil))))) (pw_or1 (pt_cmpR op_ne (pe_ix ix_seq (pv 5) pe_int (fun _ _ => rfl)) (pv 2) (nomark _))))) (pss_one (ps_ret pe_bl)) pss_nil)
      (pss_one (ps_set (i := 2) nd rfl (.inl rfl) (pe_ix ix_seq (pv 5) pe_int (fun _ _ => rfl))))))
      (pss_one (ps_ret pe_bl))))))), ?_⟩
    have bad : trB (atS R.st us) ed d = false → ∀ H', Same H H' → Q (.bl false) H' := fun h => by rw [h] at kont; exact kont
    refine ⟨_, rfl, v, d, 2, rfl, hd, _, rfl, iteB (d := !isTupN 2 d) rfl (fun h => iteT (bad (trB_no2 (by simpa using h)) H (.refl _))) fun h => ?_⟩
    have h : isTupN 2 d = true := by simpa using h
    obtain ⟨ds2, rfl⟩ : ∃ ds, d = .tuple ds := by cases d <;> first | exact ⟨_, rfl⟩ | exact absurd h Bool.false_ne_true
    obtain ⟨t', xs2, rfl, ht, da⟩ := dp_tup hd
    obtain ⟨d0, d1, rfl⟩ := len2 (by rw [tupN_len] at h; exact of_decide_eq_true h)
    obtain ⟨v0, v1, rfl, p0, p1⟩ := dpAll2 da
    refine ⟨_, rfl, .inr (.inl ⟨t', _, 1, _, rfl, rfl, ht, rfl, v1, _, _, _, isTup d1, rfl, ClsV.ty _, dp_ty p1, kit_ty (kTup d1), _, rfl, iteB (d := !isTup d1) rfl (fun h1 => ?_) fun h1 => ?_⟩)⟩
    · exact bad (trB_not (by simpa using h1)) H (.refl _)
    obtain ⟨ds, rfl⟩ := isTup_of (d := d1) (by simpa using h1)
    obtain ⟨r, xs, rfl, hr1, da1⟩ := dp_tup p1
    refine ⟨_, rfl, t', _, rfl, ht, rfl, _, _, rfl, _, _, rfl, rfl, ?_⟩
    obtain ⟨dx, _, _, _, _, hx, _⟩ := id M
    refine ⟨_, rfl, x, dx, _, rfl, hx, x, R, us, ed, rfl, M, fun a na => ?_⟩
    have S1 := same_upd (o := .dK (entW (atS R.st us))) na
    refine ⟨_, rfl, a, v0, d0, atS R.st us, rfl, upd_same, okS, Dp.same S1 p0, _, rfl, iteB (d := !stB (atS R.st us) d0) rfl (fun hs => ?_) fun hs => ?_⟩
    · exact bad (trB_st (by simpa using hs)) _ S1
    have hs : stB (atS R.st us) d0 = true := by simpa using hs
    obtain ⟨s0, rfl, _⟩ := stB_nat hs
    obtain rfl := dp_int p0
    rw [trB_int hs] at kont bad
    generalize upd H a (.dK (entW (atS R.st us))) = H1 at S1 ⊢
    have M1 := M.same S1
    obtain ⟨dx1, _, _, _, _, hx1, _⟩ := id M1
    refine ⟨_, rfl, x, dx1, _, rfl, hx1, x, R, us, ed, rfl, M1, fun te hte => ?_⟩
    have hr1 := sqT_same S1 hr1
    have da1 := DpAll.same S1 da1
    refine ⟨_, rfl, r, rfl, ⟨_, hr1⟩, ?_⟩
    refine for_it walk_tup (fun i σ H' => ∃ (s : Nat) (u5 : Option V), σ = [some (.ref x), some (.ref t'), some (.int (s : Nat)), some (.ref r), some (.ref te), u5] ∧ H' = H1 ∧ rowB ed s (ds.drop i) = rowB ed s0 ds)
      ⟨s0, _, rfl, rfl, rfl⟩ (fun _ _ _ _ h => by obtain ⟨_, _, _, rfl, _⟩ := h; exact hr1) ?_ ?_
    · rintro i y σ H2 H2' hi ⟨s, u5, rfl, rfl, er⟩ ⟨rfl, hy⟩
      obtain ⟨dy, hdy, py⟩ := dpAll_get da1 hy
      have mdy := List.mem_of_getElem? hdy
      have shy : SeqAt.shaped dy = true := shaped_mem mdy (shaped_mem (d := .tuple ds) (by simp) sd)
      have edr : ds.drop i = dy :: ds.drop (i + 1) := by
        obtain ⟨hl, e⟩ := List.getElem?_eq_some_iff.mp hdy
        rw [List.drop_eq_getElem_cons hl, e]
      rw [edr] at er
      refine ⟨_, rfl, _, rfl, te, y, R.sg, ed, dy, rfl, ok.sg, oks, hte, py, shy, _, rfl, iteB (d := !(findE ed dy).isSome) rfl (fun h => iteT ?_) fun h => ?_⟩
      · refine bad ?_ _ S1
        rw [← er]
        cases q : findE ed dy with
        | none => exact rowB_no q
        | some e => rw [q] at h; exact absurd h Bool.false_ne_true
      cases q : findE ed dy with
      | none => rw [q] at h; exact absurd h (by decide)
      | some e =>
        obtain ⟨he, rfl⟩ := findE_some q
        obtain ⟨ty, rfl, hty⟩ := dp_row1 py
        rw [rowB_some q] at er
        have ev : (!decide (V.int (e.a : Nat) = V.int (s : Nat))) = !(e.a == s) := by
          rw [decI]
          rfl
        refine ⟨_, rfl, .inr (.inl ⟨ty, _, 0, _, rfl, rfl, hty, rfl, _, rfl, rfl, _, rfl, iteB ev (fun hn => ?_) fun hn => ?_⟩)⟩
        · refine bad ?_ _ S1
          rw [← er, show (e.a == s) = false by simpa using hn, Bool.false_and]
        · refine ⟨_, rfl, .inr (.inl ⟨ty, _, 3, _, rfl, rfl, hty, rfl, ?_⟩)⟩
          refine ⟨e.b, _, rfl, rfl, ?_⟩
          rw [← er, show (e.a == s) = true by simpa using hn, Bool.true_and]
    · rintro σ H2 ⟨s, u5, rfl, rfl, er⟩
      have : rowB ed s0 ds = true := by
        rw [← er, dpAll_len da1, List.drop_length]
        rfl
      rw [this] at kont
      exact kont _ S1
end
end K0
set_option maxRecDepth 100000
set_option maxHeartbeats 4000000
namespace K0
open PySem L2 FM He
def wholeB : PyData → Bool
  | .int i => decide (0 ≤ i)
  | _ => false
theorem isE_whole {e : Edg} {d0 d1 d2 d3 : PyData} (h : isE e (.tuple [d0, d1, d2, d3]) = true) : wholeB d0 = true ∧ wholeB d3 = true := by
  have h2 : PyData.tuple [d0, d1, d2, d3] = .tuple [.int (e.a : Int), .str ⟨#[e.c]⟩, .str e.u, .int (e.b : Int)] := isE_iff.mp h
  injection h2 with h2
  injection h2 with h0 h2
  injection h2 with h1 h2
  injection h2 with h2' h2
  injection h2 with h3 _
  rw [h0, h3]
  exact ⟨decide_eq_true (Int.natCast_nonneg e.a), decide_eq_true (Int.natCast_nonneg e.b)⟩
theorem whole_nat {d : PyData} (h : wholeB d = true) : ∃ n : Nat, d = .int (n : Int) := by
  cases d with
  | int i =>
    have h := of_decide_eq_true (show decide (0 ≤ i) = true from h)
    exact ⟨i.toNat, by rw [Int.toNat_of_nonneg h]⟩
  | _ => exact absurd h Bool.false_ne_true
theorem stB_whole {st : List (Nat × Str)} {d : PyData} (h : wholeB d = false) : stB st d = false := by
  cases q : stB st d with
  | false => rfl
  | true =>
    obtain ⟨s, rfl, _⟩ := stB_nat q
    exact absurd h (by show decide (0 ≤ (s : Int)) ≠ false; rw [decide_eq_true (Int.natCast_nonneg _)]; decide)
section
variable {P : Program} {w : World} {K : PySem.W.Frag} {mg : Str → Option Value} {base : Heap}
theorem ok_law_whole {f : Addr} {fd : FuncData} (F : FnP K "_law_whole" s__law_whole f fd) (T : TP K mg) : FnOk P w K mg base CX0 1 f fd ["_law_value"] (fun vs H Q _ => ∃ (v : V) (d : PyData), vs = [v] ∧ Dp K H v d ∧ Q (.bl (wholeB d)) H) := by
  refine F.ok sc__law_whole (fun vs H Q E h => ?_) (fun cdv A outer s H vs Q E hr h => ?_)
  · obtain ⟨v, d, rfl, _⟩ := h
    rfl
  · obtain ⟨v, d, rfl, hd, k⟩ := h
    have nd := sc__law_whole.nd
    refine ⟨_, PSs.nox (pss_one (ps_ret (pe_and (pe_callB call_isi (by rfl) T.b_isinstance (by decide +kernel) (pa_cons (pv 0) (pa_cons (pe_bltn (v := .ty "int") (by rfl) T.b_int (by decide +kernel) rfl) pa_nil))) (pe_and (pe_not (pe_callB call_isi (by rfl) T.b_isinstance (by decide +kernel) (pa_cons (pv 0) (pa_cons (pe_bltn (v := .ty "bool") (by rfl) T.b_bool (by decide +kernel) rfl) pa_nil)))) (pe_one (pe_cmpR op_ge (pv 0) pe_int (nomark _))))))), ?_⟩
    refine ⟨_, rfl, v, _, _, _, isIntB d, rfl, ClsV.ty _, dp_ty hd, kit_ty (kInt d), _, rfl, iteB (d := isIntB d) rfl (fun h => ?_) fun h => ?_⟩
    · refine ⟨_, rfl, v, _, _, _, isBool d, rfl, ClsV.ty _, dp_ty hd, kit_ty (kBool d), _, rfl, _, rfl, iteB (d := !isBool d) rfl (fun h2 => ?_) fun h2 => ?_⟩
      · obtain ⟨i, rfl⟩ : ∃ i, d = .int i := by cases d <;> first | exact ⟨_, rfl⟩ | exact absurd h Bool.false_ne_true | exact absurd h2 Bool.false_ne_true
        obtain rfl := dp_int hd
        exact ⟨_, rfl, _, _, rfl, rfl, k⟩
      · have : wholeB d = false := by cases d <;> first | rfl | exact absurd h2.symm Bool.false_ne_true
        rw [this] at k
        exact k
    · have : wholeB d = false := by cases d <;> first | rfl | exact absurd h.symm Bool.false_ne_true
      rw [this] at k
      exact k
def spLie (K : PySem.W.Frag) : Sp := fun vs H Q _ => ∃ (p : Addr) (v : V) (C : RwP) (d : PyData), vs = [.ref p, v] ∧ SgOk C.sg ∧ (∀ e ∈ C.ed, EdgOk C.sg e) ∧ PlnAt H p C ∧ Dp K H v d ∧ SeqAt.shaped d = true ∧ Q (.bl (findE C.ed d).isSome) H
theorem ok_law_is_edge {f : Addr} {fd : FuncData} (F : FnP K "_law_is_edge" s__law_is_edge f fd) (T : TP K mg) : FnOk P w K mg base CX0 2 f fd ["_law_plain", "_law_value"] (spLie K) := by
  obtain ⟨d__law_whole, F__law_whole⟩ := T.f__law_whole
  have G__law_whole := ok_law_whole (P := P) (w := w) (base := base) F__law_whole T
  have b__law_whole : Binds K d__law_whole ["_law_value"] [] := F__law_whole.bindsN fun _ _ _ _ _ _ us hl => match us, hl with | [_], _ => rfl
  refine F.ok sc__law_is_edge (fun vs H Q E h => ?_) (fun cdv A outer s H vs Q E hr h => ?_)
  · obtain ⟨p, v, C, d, rfl, _⟩ := h
    rfl
  · obtain ⟨p, v, C, d, rfl, g, oks, ⟨a0, t, b0, h1, h2, h3, ks, a1, a2, a3⟩, hd, sd, k⟩ := h
    have nd := sc__law_is_edge.nd
    have hu64 := hr.units
    have hu65 : (A.deeper (PyProof.Rows.envOfC "_law_is_edge" (defScope s__law_is_edge) s.heap.objs.size f cdv)).units + 65 < cLine := by
      have := hr.un
      omega
    refine ⟨_, PSs.nox (pss_cons (ps_if (PW.pt (pw_or (pt_not (pt_val (pe_callB call_isi (by rfl) T.b_isinstance (by decide +kernel) (pa_cons (pv 1) (pa_cons (pe_bltn (v := .ty "tuple") (by rfl) T.b_tuple (by decide +kernel) rfl) pa_nil))))) (pw_or1 (pt_cmpR op_ne (pe_callB call_len (by rfl) T.b_len (by decide +kernel) (pa_cons (pv 1) pa_nil)) pe_int (nomark _))))) (pss_one (ps_ret pe_bl)) pss_nil)
      (pss_one (ps_ret (pe_and (pe_call G__law_whole (hr.mono (by decide)) rfl T.g__law_whole F__law_whole.kp b__law_whole .nil pass0 (pa_cons (pe_ix ix_seq (pv 1) pe_int (fun _ _ => rfl)) pa_nil)) (pe_and (pe_call G__law_whole (hr.mono (by decide)) rfl T.g__law_whole F__law_whole.kp b__law_whole .nil pass0 (pa_cons (pe_ix ix_seq (pv 1) pe_int (fun _ _ => rfl)) pa_nil)) (pe_one (pe_cmpR (op_inTup hu65 : OpR _ _ (rInTup K)) (pv 1) (pe_ix ix_seq (pv 0) pe_int (fun _ _ => rfl)) (by rfl)))))))), ?_⟩
    have bad : (∀ e, isE e d = false) → Q (.bl false) H := fun h => by
      rw [findE_none h] at k
      exact k
    refine ⟨_, rfl, v, _, _, _, isTup d, rfl, ClsV.ty _, dp_ty hd, kit_ty (kTup d), _, rfl, iteB (d := !isTup d) rfl (fun h => iteT ?_) fun h => ?_⟩
    · refine bad fun e => notE4 ?_ e
      cases d <;> first | rfl | exact absurd h Bool.false_ne_true
    obtain ⟨ds, rfl⟩ := isTup_of (d := d) (by simpa using h)
    obtain ⟨t', xs, rfl, ht, da⟩ := dp_tup hd
    have ev : (!decide (V.int (xs.length : Nat) = V.int ((4 : Nat) : Int))) = !decide (xs.length = 4) := by rw [decI]
    refine ⟨_, rfl, _, xs.length, rfl, .inr ⟨xs, ht, rfl⟩, rfl, _, rfl, iteB ev (fun h4 => ?_) fun h4 => ?_⟩
    · refine bad fun e => notE4 ?_ e
      rw [tupN_len, ← dpAll_len da]
      simpa using h4
    have l4 : ds.length = 4 := by rw [← dpAll_len da]; simpa using h4
    obtain ⟨d0, d1, d2, d3, rfl⟩ := len4 l4
    obtain ⟨v0, v1, v2, v3, rfl, p0, p3⟩ := dpAll4 da
    refine ⟨_, rfl, .inr (.inl ⟨t', _, 0, _, rfl, rfl, ht, rfl, v0, d0, rfl, p0, _, rfl, iteB (d := wholeB d0) rfl (fun h0 => ?_) fun h0 => ?_⟩)⟩
    rotate_left
    · refine bad fun e => ?_
      cases q : isE e (.tuple [d0, d1, d2, d3]) with
      | false => rfl
      | true => rw [(isE_whole q).1] at h0; exact absurd h0.symm Bool.false_ne_true
    refine ⟨_, rfl, .inr (.inl ⟨t', _, 3, _, rfl, rfl, ht, rfl, v3, d3, rfl, p3, _, rfl, iteB (d := wholeB d3) rfl (fun h3 => ?_) fun h3 => ?_⟩)⟩
    rotate_left
    · refine bad fun e => ?_
      cases q : isE e (.tuple [d0, d1, d2, d3]) with
      | false => rfl
      | true => rw [(isE_whole q).2] at h3; exact absurd h3.symm Bool.false_ne_true
    refine ⟨_, rfl, _, rfl, .inr (.inl ⟨p, _, 2, _, rfl, rfl, .of h1, atI_nat (j := 2) rfl, _, _, hd, .tup (.of a1) (dpAll_rows a3), sd, ?_, ?_⟩)⟩
    · have e1 : (ks.map fun p => keysD p.2.row) = C.ed.map fun e => keysD e.row := by rw [← a2, List.map_map]; rfl
      rw [e1]
      exact shaped_rows g C.ed oks
    · have i0 : isInt d0 = true := by obtain ⟨n, rfl⟩ := whole_nat h0; rfl
      have i3 : isInt d3 = true := by obtain ⟨n, rfl⟩ := whole_nat h3; rfl
      have : ((ks.map fun p => keysD p.2.row).any fun z => z.eqv (.tuple [d0, d1, d2, d3])) = (findE C.ed (.tuple [d0, d1, d2, d3])).isSome := by
        rw [← find_any, ← a2, List.any_map, List.any_map]
        exact congrArg (fun f => List.any ks f) (funext fun p => eqv_isE i0 i3)
      rw [this]
      exact k
def spLip (K : PySem.W.Frag) : Sp := fun vs H Q _ => ∃ (p : Addr) (v : V) (C : RwP) (d : PyData), vs = [.ref p, v] ∧ SgOk C.sg ∧ (∀ e ∈ C.ed, EdgOk C.sg e) ∧ TblOk C.st ∧ PlnAt H p C ∧ Dp K H v d ∧ SeqAt.shaped d = true ∧ Q (.bl (trB C.st C.ed d)) H
theorem ok_law_is_path {f : Addr} {fd : FuncData} (F : FnP K "_law_is_path" s__law_is_path f fd) (T : TP K mg) : FnOk P w K mg base CX0 4 f fd ["_law_plain", "_law_value"] (spLip K) := by
  obtain ⟨d__law_whole, F__law_whole⟩ := T.f__law_whole
  have G__law_whole := ok_law_whole (P := P) (w := w) (base := base) F__law_whole T
  have b__law_whole : Binds K d__law_whole ["_law_value"] [] := F__law_whole.bindsN fun _ _ _ _ _ _ us hl => match us, hl with | [_], _ => rfl
  obtain ⟨d__law_is_edge, F__law_is_edge⟩ := T.f__law_is_edge
  have G__law_is_edge := ok_law_is_edge (P := P) (w := w) (base := base) F__law_is_edge T
  have b__law_is_edge : Binds K d__law_is_edge ["_law_plain", "_law_value"] [] := F__law_is_edge.bindsN fun _ _ _ _ _ _ us hl => match us, hl with | [_, _], _ => rfl
  refine F.ok sc__law_is_path (fun vs H Q E h => ?_) (fun cdv A outer s H vs Q E hr h => ?_)
  · obtain ⟨p, v, C, d, rfl, _⟩ := h
    rfl
  · obtain ⟨p, v, C, d, rfl, g, oks, okS, hp, hd, sd, kont⟩ := h
    obtain ⟨a0, t, b0, h1', h2, h3, h4⟩ := id hp
    have nd := sc__law_is_path.nd
    have hu64 := hr.units
    have hu1 := Nat.lt_of_le_of_lt (Nat.add_le_add_left (by decide : 1 ≤ 64) _) hu64
    refine ⟨_, PSs.nox (pss_cons (ps_if (PW.pt (pw_or (pt_not (pt_val (pe_callB call_isi (by rfl) T.b_isinstance (by decide +kernel) (pa_cons (pv 1) (pa_cons (pe_bltn (v := .ty "tuple") (by rfl) T.b_tuple (by decide +kernel) rfl) pa_nil))))) (pw_or (pt_cmpR op_ne (pe_callB call_len (by rfl) T.b_len (by decide +kernel) (pa_cons (pv 1) pa_nil)) pe_int (nomark _)) (pw_or1 (pt_not (pt_val (pe_callB call_isi (by rfl) T.b_isinstance (by decide +kernel) (pa_cons (pe_ix ix_seq (pv 1) pe_int (fun _ _ => rfl)) (pa_cons (pe_bltn (v := .ty "tuple") (by rfl) T.b_tuple (by decide +kernel) rfl) pa_nil))))))))) (pss_one (ps_ret pe_bl)) pss_nil)
      (pss_cons (ps_if (PW.pt (pw_or (pt_not (pt_val (pe_call G__law_whole (hr.mono (by decide)) rfl T.g__law_whole F__law_whole.kp b__law_whole .nil pass0 (pa_cons (pe_ix ix_seq (pv 1) pe_int (fun _ _ => rfl)) pa_nil)))) (pw_or1 (pt_cmp (pc_dnotin hu1 (pe_ix ix_seq (pv 1) pe_int (fun _ _ => rfl)) (pe_ix ix_seq (pv 0) pe_int (fun _ _ => rfl))) rfl)))) (pss_one (ps_ret pe_bl)) pss_nil)
      (pss_cons (ps_set (i := 2) nd rfl (.inl rfl) (pe_ix ix_seq (pv 1) pe_int (fun _ _ => rfl)))
      (pss_cons (ps_for PassesOwn.never rfl (pi_tup (pe_ix ix_seq (pv 1) pe_int (fun _ _ => rfl))) (pg_name (i := 3) nd rfl (.inl rfl)) (pss_cons (ps_if (PW.pt (pw_or (pt_not (pt_val (pe_call G__law_is_edge (hr.mono (by decide)) rfl T.g__law_is_edge F__law_is_edge.kp b__law_is_edge .nil pass0 (pa_cons (pv 0) (pa_cons (pv 3) pa_nil))))) (pw_or1 (pt_cmpR op_ne (pe_ix ix_seq (pv 3) pe_int (fun _ _ => rfl)) (pv 2) (nomark _))))) (pss_one (ps_ret pe_bl)) pss_nil)
      (pss_one (ps_set (i := 2) nd rfl (.inl rfl) (pe_ix ix_seq (pv 3) pe_int (fun _ _ => rfl))))))
      (pss_one (ps_ret pe_bl)))))), ?_⟩
    have bad : trB C.st C.ed d = false → Q (.bl false) H := fun h => by rw [h] at kont; exact kont
    refine ⟨_, rfl, v, _, _, _, isTup d, rfl, ClsV.ty _, dp_ty hd, kit_ty (kTup d), _, rfl, iteB (d := !isTup d) rfl (fun h => iteT (bad (trB_no2 ?_))) fun h => ?_⟩
    · cases d <;> first | rfl | exact absurd h Bool.false_ne_true
    obtain ⟨ds2, rfl⟩ := isTup_of (d := d) (by simpa using h)
    obtain ⟨t', xs2, rfl, ht, da⟩ := dp_tup hd
    have ev : (!decide (V.int (xs2.length : Nat) = V.int ((2 : Nat) : Int))) = !decide (xs2.length = 2) := by rw [decI]
    refine ⟨_, rfl, _, xs2.length, rfl, .inr ⟨xs2, ht, rfl⟩, rfl, _, rfl, iteB ev (fun hl => iteT (bad (trB_no2 ?_))) fun hl => ?_⟩
    · rw [tupN_len, ← dpAll_len da]
      simpa using hl
    obtain ⟨d0, d1, rfl⟩ := len2 (ds := ds2) (by rw [← dpAll_len da]; simpa using hl)
    obtain ⟨v0, v1, rfl, p0, p1⟩ := dpAll2 da
    refine ⟨_, rfl, .inr (.inl ⟨t', _, 1, _, rfl, rfl, ht, rfl, v1, _, _, _, isTup d1, rfl, ClsV.ty _, dp_ty p1, kit_ty (kTup d1), _, rfl, iteB (d := !isTup d1) rfl (fun h1 => ?_) fun h1 => ?_⟩)⟩
    · exact bad (trB_not (by simpa using h1))
    obtain ⟨ds, rfl⟩ := isTup_of (d := d1) (by simpa using h1)
    obtain ⟨r, xs, rfl, hr1, da1⟩ := dp_tup p1
    refine ⟨_, rfl, .inr (.inl ⟨t', _, 0, _, rfl, rfl, ht, rfl, v0, d0, rfl, p0, _, rfl, iteB (d := !wholeB d0) rfl (fun h0 => iteT ?_) fun h0 => ?_⟩)⟩
    · exact bad (trB_st (stB_whole (by simpa using h0)))
    obtain ⟨s0, rfl⟩ := whole_nat (d := d0) (by simpa using h0)
    obtain rfl := dp_int p0
    have gs := DGet.k (k := (.inl (s0 : Int) : Key)) h2
    refine ⟨_, rfl, .inr (.inl ⟨t', _, 0, _, rfl, rfl, ht, rfl, _, rfl, .inr (.inl ⟨p, _, 1, _, rfl, rfl, .of h1', atI_nat (j := 1) rfl, a0, _, rfl, gs, _, rfl, iteB (d := !stB C.st (.int (s0 : Int))) (by rw [valV_st okS]) (fun hs => ?_) fun hs => ?_⟩)⟩)⟩
    · exact bad (trB_st (by simpa using hs))
    have hs : stB C.st (.int (s0 : Int)) = true := by simpa using hs
    rw [trB_int hs] at kont bad
    refine ⟨_, rfl, .inr (.inl ⟨t', _, 0, _, rfl, rfl, ht, rfl, ?_⟩)⟩
    refine ⟨_, rfl, .inr (.inl ⟨t', _, 1, _, rfl, rfl, ht, rfl, r, rfl, ⟨_, hr1⟩, ?_⟩)⟩
    refine for_it walk_tup (fun i σ H' => ∃ (s : Nat) (u5 : Option V), σ = [some (.ref p), some (.ref t'), some (.int (s : Nat)), u5] ∧ H' = H ∧ rowB C.ed s (ds.drop i) = rowB C.ed s0 ds)
      ⟨s0, _, rfl, rfl, rfl⟩ (fun _ _ _ _ h => by obtain ⟨_, _, _, rfl, _⟩ := h; exact hr1) ?_ ?_
    · rintro i y σ H2 H2' hi ⟨s, u5, rfl, rfl, er⟩ ⟨rfl, hy⟩
      obtain ⟨dy, hdy, py⟩ := dpAll_get da1 hy
      have mdy := List.mem_of_getElem? hdy
      have shy : SeqAt.shaped dy = true := shaped_mem mdy (shaped_mem (d := .tuple ds) (by simp) sd)
      have edr : ds.drop i = dy :: ds.drop (i + 1) := by
        obtain ⟨hl, e⟩ := List.getElem?_eq_some_iff.mp hdy
        rw [List.drop_eq_getElem_cons hl, e]
      rw [edr] at er
      refine ⟨_, rfl, _, rfl, p, y, C, dy, rfl, g, oks, hp, py, shy, _, rfl, iteB (d := !(findE C.ed dy).isSome) rfl (fun h => iteT ?_) fun h => ?_⟩
      · refine bad ?_
        rw [← er]
        cases q : findE C.ed dy with
        | none => exact rowB_no q
        | some e => rw [q] at h; exact absurd h Bool.false_ne_true
      cases q : findE C.ed dy with
      | none => rw [q] at h; exact absurd h (by decide)
      | some e =>
        obtain ⟨he, rfl⟩ := findE_some q
        obtain ⟨ty, rfl, hty⟩ := dp_row1 py
        rw [rowB_some q] at er
        have ev : (!decide (V.int (e.a : Nat) = V.int (s : Nat))) = !(e.a == s) := by
          rw [decI]
          rfl
        refine ⟨_, rfl, .inr (.inl ⟨ty, _, 0, _, rfl, rfl, hty, rfl, _, rfl, rfl, _, rfl, iteB ev (fun hn => ?_) fun hn => ?_⟩)⟩
        · refine bad ?_
          rw [← er, show (e.a == s) = false by simpa using hn, Bool.false_and]
        · refine ⟨_, rfl, .inr (.inl ⟨ty, _, 3, _, rfl, rfl, hty, rfl, ?_⟩)⟩
          refine ⟨e.b, _, rfl, rfl, ?_⟩
          rw [← er, show (e.a == s) = true by simpa using hn, Bool.true_and]
    · rintro σ H2 ⟨s, u5, rfl, rfl, er⟩
      have : rowB C.ed s0 ds = true := by
        rw [← er, dpAll_len da1, List.drop_length]
        rfl
      rw [this] at kont
      exact kont
end
end K0
set_option maxRecDepth 100000
set_option maxHeartbeats 1000000
namespace FM
open PySem PySem.Spec PyProof.Rows L2
theorem lc_st {J : It} {n : Nat} {G : Hp → Prop} {Y : Nat → Hp → V → Hp → Prop} (w : Walk J n G Y) {g : TG} {tt : TT} {te : TE} {vs : List Nat} {σ σ' : L2.St} (e : σ = σ') {H1 : Hp} {D : Addr} {Qd : Hp → Prop} (Pv : Nat → Hp → Prop) (h0 : Pv 0 (upd H1 D (.lst []))) (hG : ∀ i H, i ≤ n → Pv i H → G H)
    (hs : ∀ i x H H', i < n → Pv i H → Y i H x H' → g x (wipe σ' vs) H' fun σ2 H2 => wipe σ2 vs = wipe σ' vs ∧ tt σ2 H2 fun b H3 =>
      if b = true then te σ2 H3 fun y H4 => ∃ acc, H4 D = some (.lst acc) ∧ acc.length < sizeLine ∧ Pv (i + 1) (upd H4 D (.lst (acc ++ [y]))) else Pv (i + 1) H3) (hd : ∀ H, Pv n H → Qd H) :
    ∃ W : Nat → Nat → Hp → Prop, (∃ m, W 0 m (upd H1 D (.lst []))) ∧ ∀ i m H, W i m H →
      (J.stop i H ∧ Qd H) ∨ (J.go i H ∧ ∃ Nx : Hp → Prop, (∀ H', Nx H' → ∃ m', m' < m ∧ W (i + 1) m' H') ∧ ∀ x H', J.yld i H x H' → g x (wipe σ vs) H' fun σ2 H2 => wipe σ2 vs = wipe σ vs ∧ tt σ2 H2 fun b H3 =>
        if b = true then te σ2 H3 fun y H4 => ∃ acc, H4 D = some (.lst acc) ∧ acc.length < sizeLine ∧ Nx (upd H4 D (.lst (acc ++ [y]))) else Nx H3) := by
  subst e
  exact lc_it w Pv h0 hG hs hd
end FM
set_option maxRecDepth 100000
set_option maxHeartbeats 4000000
namespace K0
open PySem L2 FM He
theorem sum_few {k : Nat} : ∀ {ws : List Str}, (∀ z ∈ ws, z.length ≤ k) → (ws.map (·.length)).sum ≤ k * ws.length
  | [], _ => Nat.zero_le _
  | z :: ws, h => by
    have h1 := h z List.mem_cons_self
    have h2 := sum_few (ws := ws) fun y hy => h y (List.mem_cons_of_mem _ hy)
    rw [List.map_cons, List.sum_cons, List.length_cons, Nat.mul_succ]
    omega
/-- what a path reads, what its edges write -/
def cT (es : List Edg) : Str := Txt.join "" (es.map fun e => (⟨#[e.c]⟩ : Str))
def uT (es : List Edg) : Str := Txt.join "" (es.map fun e => e.u)
def lastS (s : Nat) (es : List Edg) : Nat := match es.getLast? with
  | some e => e.b
  | none => s
def endW (en : List (Nat × Str)) (m : Nat) : Str := match valV (entW en) (.inl (m : Int)) with
  | some (.str z) => z
  | _ => ""
theorem join_len : ∀ ws : List Str, (Str.join "" ws).length = (ws.map (·.length)).sum
  | [] => rfl
  | [z] => by
    show z.length = z.length + 0
    omega
  | z :: y :: zs => by
    have e : Str.join "" (z :: y :: zs) = z ++ "" ++ Str.join "" (y :: zs) := rfl
    rw [e, PySem.Str.length_append, PySem.Str.length_append, join_len (y :: zs), List.map_cons (l := y :: zs), List.sum_cons]
    show z.length + 0 + _ = _
    omega
theorem uT_len {es : List Edg} (l : es.length ≤ 200) (h : ∀ e ∈ es, e.u.length ≤ 8) : (uT es).length ≤ 1600 := by
  unfold uT
  have e : Txt.join "" (es.map fun e => e.u) = Str.join "" (es.map fun e => e.u) := by simpa using (PyProof.Rows.join_closes (sep := "") (sep' := "") (ys := es.map fun e => e.u) rfl)
  rw [e, join_len]
  refine Nat.le_trans (sum_few (k := 8) fun z hz => ?_) (by rw [List.length_map]; omega)
  obtain ⟨e, he, rfl⟩ := List.mem_map.mp hz
  exact h e he
theorem path_parts {K : PySem.W.Frag} {H : Hp} {v : V} {s : Nat} {es : List Edg} (h : Dp K H v (pathD s es)) : ∃ t r xs, v = .ref t ∧ SqT K H t [.int (s : Nat), .ref r] ∧ SqT K H r xs ∧ DpAll K H xs (es.map fun e => keysD e.row) := by
  obtain ⟨t, xs2, rfl, ht, da⟩ := dp_tup (ds := [.int (s : Int), .tuple (es.map fun e => keysD e.row)]) h
  obtain ⟨v0, v1, rfl, p0, p1⟩ := dpAll2 da
  obtain rfl := dp_int p0
  obtain ⟨r, xs, rfl, hr, da1⟩ := dp_tup p1
  exact ⟨t, r, xs, rfl, ht, hr, da1⟩
section
variable {P : Program} {w : World} {K : PySem.W.Frag} {mg : Str → Option Value} {base : Heap}
def spTxo (K : PySem.W.Frag) : Sp := fun vs H Q _ => ∃ (r : Addr) (xs : List V) (es : List Edg), vs = [.ref r] ∧ SqT K H r xs ∧ DpAll K H xs (es.map fun e => keysD e.row) ∧ es.length ≤ 200 ∧ ∀ H', Same H H' → Q (.str (cT es)) H'
theorem ok_text_of {f : Addr} {fd : FuncData} (F : FnP K "text_of" s_text_of f fd) (T : TP K mg) : FnOk P w K mg base CX0 1 f fd ["edges"] (spTxo K) := by
  refine F.ok sc_text_of (fun vs H Q E h => ?_) (fun cdv A outer s H vs Q E hr h => ?_)
  · obtain ⟨r, xs, es, rfl, _⟩ := h
    rfl
  · obtain ⟨r, xs, es, rfl, hr1, da, l200, kont⟩ := h
    have nd := sc_text_of.nd
    have big : (100000 : Nat) ≤ sizeLine := by decide
    refine ⟨_, PSs.nox (pss_one (ps_ret (pe_join pe_str (pe_lc (own := [("edge", 1)]) rfl nd (pi_tup (pv 0)) (blkOk_by (own := [("edge", 1)]) (N := ["edges", "edge"]) (sc := defScope s_text_of) (by decide +kernel)) (fun _ _ _ _ _ => (pg_name (i := 1) nd rfl (.inl rfl))) (fun _ _ _ _ _ => pts_nil) (fun _ _ _ _ _ => (pe_ix (ix_seq : IxR _ (rIx K)) (pv 1) pe_int (fun _ _ => rfl))))))), ?_⟩
    refine ⟨⟨_, rfl⟩, _, rfl, r, rfl, ⟨_, hr1⟩, fun D nD => ?_⟩
    refine lc_st (σ' := [some (.ref r), none]) walk_tup rfl (fun i H' => Same H H' ∧ H' D = some (.lst (((es.take i).map fun e => (⟨#[e.c]⟩ : Str)).map V.str))) ⟨same_upd nD, upd_same⟩ (fun i H' _ h => sqT_same h.1 hr1) ?_ ?_
    · rintro i y H' HG hi ⟨S, hD⟩ ⟨rfl, hy⟩
      obtain ⟨dy, hdy, py⟩ := dpAll_get da hy
      rw [List.getElem?_map] at hdy
      obtain ⟨e, he, rfl⟩ := Option.map_eq_some_iff.mp hdy
      obtain ⟨ty, rfl, hty⟩ := dp_row1 (Dp.same S py)
      refine ⟨rfl, _, rfl, .inr (.inl ⟨ty, _, 1, _, rfl, rfl, hty, rfl, ?_⟩)⟩
      refine ⟨_, hD, by rw [List.length_map, List.length_map, List.length_take]; omega, upd_far nD S, ?_⟩
      rw [upd_same, List.take_add_one, he, List.map_append, List.map_append]
      rfl
    rintro HF ⟨SF, hDF⟩
    rw [dpAll_len da, List.length_map, List.take_length] at hDF
    refine ⟨"", D, es.map fun e => (⟨#[e.c]⟩ : Str), rfl, rfl, .inl (SqL.of hDF), ?_, ?_⟩
    · rw [List.length_map]
      have e0 : ("" : Str).length = 0 := rfl
      rw [e0, Nat.mul_zero, Nat.add_zero]
      exact Nat.le_trans (sum_few (k := 8) fun z hz => by
        obtain ⟨e, he, rfl⟩ := List.mem_map.mp hz
        exact (by show 1 ≤ 8; decide)) (by rw [List.length_map]; omega)
    exact kont _ SF
def spLrb (K : PySem.W.Frag) : Sp := fun vs H Q _ => ∃ (v : V) (s : Nat) (es : List Edg), vs = [v] ∧ Dp K H v (pathD s es) ∧ es.length ≤ 200 ∧ ∀ H', Same H H' → Q (.str (cT es)) H'
theorem ok_law_read_by {f : Addr} {fd : FuncData} (F : FnP K "_law_read_by" s__law_read_by f fd) (T : TP K mg) : FnOk P w K mg base CX0 1 f fd ["_law_path"] (spLrb K) := by
  refine F.ok sc__law_read_by (fun vs H Q E h => ?_) (fun cdv A outer s H vs Q E hr h => ?_)
  · obtain ⟨v, s, es, rfl, _⟩ := h
    rfl
  · obtain ⟨v, s, es, rfl, hd, l200, kont⟩ := h
    obtain ⟨t, r, xs, rfl, ht, hr1, da⟩ := path_parts hd
    have nd := sc__law_read_by.nd
    have big : (100000 : Nat) ≤ sizeLine := by decide
    refine ⟨_, PSs.nox (pss_one (ps_ret (pe_join pe_str (pe_lc (own := [("_law_edge", 1)]) rfl nd (pi_tup (pe_ix ix_seq (pv 0) pe_int (fun _ _ => rfl))) (blkOk_by (own := [("_law_edge", 1)]) (N := ["_law_path", "_law_edge"]) (sc := defScope s__law_read_by) (by decide +kernel)) (fun _ _ _ _ _ => (pg_name (i := 1) nd rfl (.inl rfl))) (fun _ _ _ _ _ => pts_nil) (fun _ _ _ _ _ => (pe_ix (ix_seq : IxR _ (rIx K)) (pv 1) pe_int (fun _ _ => rfl))))))), ?_⟩
    refine ⟨⟨_, rfl⟩, _, rfl, .inr (.inl ⟨t, _, 1, _, rfl, rfl, ht, rfl, r, rfl, ⟨_, hr1⟩, fun D nD => ?_⟩)⟩
    refine lc_st (σ' := [some (.ref t), none]) walk_tup rfl (fun i H' => Same H H' ∧ H' D = some (.lst (((es.take i).map fun e => (⟨#[e.c]⟩ : Str)).map V.str))) ⟨same_upd nD, upd_same⟩ (fun i H' _ h => sqT_same h.1 hr1) ?_ ?_
    · rintro i y H' HG hi ⟨S, hD⟩ ⟨rfl, hy⟩
      obtain ⟨dy, hdy, py⟩ := dpAll_get da hy
      rw [List.getElem?_map] at hdy
      obtain ⟨e, he, rfl⟩ := Option.map_eq_some_iff.mp hdy
      obtain ⟨ty, rfl, hty⟩ := dp_row1 (Dp.same S py)
      refine ⟨rfl, _, rfl, .inr (.inl ⟨ty, _, 1, _, rfl, rfl, hty, rfl, ?_⟩)⟩
      refine ⟨_, hD, by rw [List.length_map, List.length_map, List.length_take]; omega, upd_far nD S, ?_⟩
      rw [upd_same, List.take_add_one, he, List.map_append, List.map_append]
      rfl
    rintro HF ⟨SF, hDF⟩
    rw [dpAll_len da, List.length_map, List.take_length] at hDF
    refine ⟨"", D, es.map fun e => (⟨#[e.c]⟩ : Str), rfl, rfl, .inl (SqL.of hDF), ?_, ?_⟩
    · rw [List.length_map]
      have e0 : ("" : Str).length = 0 := rfl
      rw [e0, Nat.mul_zero, Nat.add_zero]
      exact Nat.le_trans (sum_few (k := 8) fun z hz => by
        obtain ⟨e, he, rfl⟩ := List.mem_map.mp hz
        exact (by show 1 ≤ 8; decide)) (by rw [List.length_map]; omega)
    exact kont _ SF
def spWbe (K : PySem.W.Frag) : Sp := fun vs H Q _ => ∃ (x : Addr) (v : V) (R : RwP) (us : List Nat) (ed : List Edg) (s : Nat) (u : Str) (es : List Edg), vs = [.ref x, v] ∧ R.Ok ∧ Kept R us ed ∧ RwAt K H x R us ed ∧ Dp K H v (pathD s es) ∧ (s, u) ∈ atS R.st us ∧ es.length ≤ 200 ∧ (∀ e ∈ es, e.u.length ≤ 8) ∧ ∀ H', Same H H' → Q (.str (u ++ uT es)) H'
theorem ok_written_before_end {f : Addr} {fd : FuncData} (F : FnP K "written_before_end" s_written_before_end f fd) (T : TP K mg) : FnOk P w K mg base CX0 3 f fd ["rewriter", "path"] (spWbe K) := by
  obtain ⟨p_starts, f_starts, d_starts, pp_starts, FP_starts⟩ := T.p_starts
  have GP_starts := ok_p_starts (P := P) (w := w) (base := base) FP_starts T
  have bP_starts : Binds K d_starts ["self"] [] := FP_starts.bindsN fun _ _ _ _ _ _ us hl => match us, hl with | [_], _ => rfl
  refine F.ok sc_written_before_end (fun vs H Q E h => ?_) (fun cdv A outer s H vs Q E hr h => ?_)
  · obtain ⟨x, v, R, us, ed, s, u, es, rfl, _⟩ := h
    rfl
  · obtain ⟨x, v, R, us, ed, s0, u, es, rfl, ok, kept, M, hd, hu, l200, u8, kont⟩ := h
    obtain ⟨t, r, xs, rfl, ht, hr1, da⟩ := path_parts hd
    have nd := sc_written_before_end.nd
    have hu64 := hr.units
    have hu1 := Nat.lt_of_le_of_lt (Nat.add_le_add_left (by decide : 1 ≤ 64) _) hu64
    have big : (100000 : Nat) ≤ sizeLine := by decide
    have ndu : us.Nodup := kept.rise.imp fun h => Nat.ne_of_lt h
    have okS := atS_ok ok.st ndu
    refine ⟨_, PSs.nox (pss_cons (ps_asg (pv 1) (pg_tup (by rfl) (pgs_cons (pg_name (i := 2) nd rfl (.inl rfl)) (pgs_cons (pg_name (i := 3) nd rfl (.inl rfl)) pgs_nil))))
      (pss_one (ps_ret (pe_op op_add_str (pe_dget hu1 (pe_prop (pv 0) T.cl pp_starts GP_starts (hr.mono (by decide)) bP_starts .nil pass0 rfl) (pv 2) (fun _ _ => rfl)) (pe_join pe_str (pe_lc (own := [("edge", 4)]) rfl nd (pi_tup (pv 3)) (blkOk_by (own := [("edge", 4)]) (N := ["rewriter", "path", "state", "edges", "edge"]) (sc := defScope s_written_before_end) (by decide +kernel)) (fun _ _ _ _ _ => (pg_name (i := 4) nd rfl (.inl rfl))) (fun _ _ _ _ _ => pts_nil) (fun _ _ _ _ _ => (pe_ix (ix_seq : IxR _ (rIx K)) (pv 4) pe_int (fun _ _ => rfl))))))))), ?_⟩
    refine ⟨_, rfl, t, _, rfl, ht, rfl, _, _, rfl, _, _, rfl, rfl, ?_⟩
    obtain ⟨dx, _, _, _, _, hx, _⟩ := id M
    refine ⟨_, rfl, x, dx, _, rfl, hx, x, R, us, ed, rfl, M, fun a na => ?_⟩
    have S1 := same_upd (o := .dK (entW (atS R.st us))) na
    have gv := DGet.k (k := (.inl (s0 : Int) : Key)) (upd_same (H := H) (a := a) (o := .dK (entW (atS R.st us))))
    rw [entW_get okS hu] at gv
    refine ⟨_, rfl, a, _, rfl, gv, ?_⟩
    have hr1 := sqT_same S1 hr1
    have da := DpAll.same S1 da
    generalize upd H a (.dK (entW (atS R.st us))) = H1 at S1 hr1 da ⊢
    refine ⟨⟨_, rfl⟩, _, rfl, r, rfl, ⟨_, hr1⟩, fun D nD => ?_⟩
    refine lc_st (σ' := [some (.ref x), some (.ref t), some (.int (s0 : Nat)), some (.ref r), none]) walk_tup rfl (fun i H' => Same H1 H' ∧ H' D = some (.lst (((es.take i).map fun e => e.u).map V.str))) ⟨same_upd nD, upd_same⟩ (fun i H' _ h => sqT_same h.1 hr1) ?_ ?_
    · rintro i y H' HG hi ⟨S, hD⟩ ⟨rfl, hy⟩
      obtain ⟨dy, hdy, py⟩ := dpAll_get da hy
      rw [List.getElem?_map] at hdy
      obtain ⟨e, he, rfl⟩ := Option.map_eq_some_iff.mp hdy
      obtain ⟨ty, rfl, hty⟩ := dp_row1 (Dp.same S py)
      refine ⟨rfl, _, rfl, .inr (.inl ⟨ty, _, 2, _, rfl, rfl, hty, rfl, ?_⟩)⟩
      refine ⟨_, hD, by rw [List.length_map, List.length_map, List.length_take]; omega, upd_far nD S, ?_⟩
      rw [upd_same, List.take_add_one, he, List.map_append, List.map_append]
      rfl
    rintro HF ⟨SF, hDF⟩
    rw [dpAll_len da, List.length_map, List.take_length] at hDF
    refine ⟨"", D, es.map fun e => e.u, rfl, rfl, .inl (SqL.of hDF), ?_, ?_⟩
    · rw [List.length_map]
      have e0 : ("" : Str).length = 0 := rfl
      rw [e0, Nat.mul_zero, Nat.add_zero]
      exact Nat.le_trans (sum_few (k := 8) fun z hz => by
        obtain ⟨e, he, rfl⟩ := List.mem_map.mp hz
        exact u8 e he) (by rw [List.length_map]; omega)
    have ul : u.length ≤ 8 := (okS.word _ hu).2
    refine ⟨u, uT es, rfl, rfl, ?_, kont _ (S1.trans SF)⟩
    have := uT_len (es := es) l200 u8
    omega
end
end K0
set_option maxRecDepth 100000
set_option maxHeartbeats 4000000
namespace K0
open PySem L2 FM He
theorem last_get {es : List Edg} {e : Edg} (h : es.getLast? = some e) : es[es.length - 1]? = some e := by
  rw [← h, List.getLast?_eq_getElem?]
theorem atI_last {α : Type} {xs : List α} (ne : xs ≠ []) : atI xs (-1) = xs[xs.length - 1]? := by
  have l : 0 < xs.length := List.length_pos_iff.mpr ne
  unfold atI ixN
  have h0 : ¬ (0 : Int) ≤ -1 := by decide
  rw [if_neg h0]
  have h1 : -(xs.length : Int) ≤ -1 := by omega
  simp only [h1, if_true, Option.bind_some]
  congr 1
  omega
theorem lastS_none {s : Nat} {es : List Edg} (h : es = []) : lastS s es = s := by rw [h]; rfl
theorem lastS_some {s : Nat} {es : List Edg} {e : Edg} (h : es.getLast? = some e) : lastS s es = e.b := by unfold lastS; rw [h]
section
variable {P : Program} {w : World} {K : PySem.W.Frag} {mg : Str → Option Value} {base : Heap}
def spLst (K : PySem.W.Frag) : Sp := fun vs H Q _ => ∃ (v : V) (s : Nat) (es : List Edg), vs = [v] ∧ Dp K H v (pathD s es) ∧ Q (.int (lastS s es : Nat)) H
theorem ok_last_state {f : Addr} {fd : FuncData} (F : FnP K "last_state" s_last_state f fd) (T : TP K mg) : FnOk P w K mg base CX0 1 f fd ["path"] (spLst K) := by
  refine F.ok sc_last_state (fun vs H Q E h => ?_) (fun cdv A outer s H vs Q E hr h => ?_)
  · obtain ⟨v, s, es, rfl, _⟩ := h
    rfl
  · obtain ⟨v, s0, es, rfl, hd, kont⟩ := h
    obtain ⟨t, r, xs, rfl, ht, hr1, da⟩ := path_parts hd
    have lx : xs.length = es.length := by rw [dpAll_len da, List.length_map]
    have nd := sc_last_state.nd
    refine ⟨_, PSs.nox (pss_cons (ps_asg (pv 0) (pg_tup (by rfl) (pgs_cons (pg_name (i := 1) nd rfl (.inl rfl)) (pgs_cons (pg_name (i := 2) nd rfl (.inl rfl)) pgs_nil))))
      (pss_one (ps_ret (pe_ifExp (pt_truth (pv 2) (by intro _; rfl)) (pe_ix ix_seq (pe_ix ix_seq (pv 2) (pe_un un_neg pe_int) (fun _ _ => rfl)) pe_int (fun _ _ => rfl)) (pv 1))))), ?_⟩
    refine ⟨_, rfl, t, _, rfl, ht, rfl, _, _, rfl, _, _, rfl, rfl, ?_⟩
    cases q : es.getLast? with
    | none =>
      have e0 : es = [] := List.getLast?_eq_none_iff.mp q
      have x0 : xs = [] := List.eq_nil_of_length_eq_zero (by rw [lx, e0]; rfl)
      refine ⟨_, rfl, false, .inr (.inl ⟨xs, hr1, by rw [x0]; rfl⟩), iteF ⟨_, rfl, ?_⟩⟩
      rw [lastS_none e0] at kont
      exact kont
    | some e =>
      have ne : xs ≠ [] := fun z => by
        rw [z] at lx
        have : es = [] := List.eq_nil_of_length_eq_zero lx.symm
        rw [this] at q
        cases q
      have el : (es.map fun e => keysD e.row)[xs.length - 1]? = some (keysD e.row) := by rw [List.getElem?_map, lx, last_get q]; rfl
      obtain ⟨y, hy, py⟩ := dpAll_at da el
      obtain ⟨ty, rfl, hty⟩ := dp_row1 py
      refine ⟨_, rfl, true, .inr (.inl ⟨xs, hr1, by cases xs with | nil => exact absurd rfl ne | cons _ _ => rfl⟩), iteT ?_⟩
      refine ⟨_, rfl, _, rfl, .inr (.inl ⟨r, _, -1, _, rfl, rfl, hr1, (atI_last ne).trans hy, .inr (.inl ⟨ty, _, 3, _, rfl, rfl, hty, rfl, ?_⟩)⟩)⟩
      rw [lastS_some q] at kont
      exact kont
def spLra (K : PySem.W.Frag) : Sp := fun vs H Q _ => ∃ (v : V) (s : Nat) (es : List Edg), vs = [v, .int (es.length : Nat)] ∧ Dp K H v (pathD s es) ∧ Q (.int (lastS s es : Nat)) H
theorem ok_law_room_at {f : Addr} {fd : FuncData} (F : FnP K "_law_room_at" s__law_room_at f fd) (T : TP K mg) : FnOk P w K mg base CX0 1 f fd ["_law_path", "_law_size"] (spLra K) := by
  refine F.ok sc__law_room_at (fun vs H Q E h => ?_) (fun cdv A outer s H vs Q E hr h => ?_)
  · obtain ⟨v, s, es, rfl, _⟩ := h
    rfl
  · obtain ⟨v, s0, es, rfl, hd, kont⟩ := h
    obtain ⟨t, r, xs, rfl, ht, hr1, da⟩ := path_parts hd
    have lx : xs.length = es.length := by rw [dpAll_len da, List.length_map]
    have nd := sc__law_room_at.nd
    refine ⟨_, PSs.nox (pss_one (ps_ret (pe_ifExp (pt_cmpR op_eq (pv 1) pe_int (nomark _)) (pe_ix ix_seq (pv 0) pe_int (fun _ _ => rfl)) (pe_ix ix_seq (pe_ix ix_seq (pe_ix ix_seq (pv 0) pe_int (fun _ _ => rfl)) (pe_op op_sub (pv 1) pe_int) (fun _ _ => rfl)) pe_int (fun _ _ => rfl))))), ?_⟩
    cases q : es.getLast? with
    | none =>
      have e0 : es = [] := List.getLast?_eq_none_iff.mp q
      refine ⟨_, rfl, rfl, _, rfl, iteB (d := true) (Eq.trans (decI es.length 0) (by rw [e0]; rfl)) (fun _ => ?_) fun z => absurd z (by decide)⟩
      refine ⟨_, rfl, .inr (.inl ⟨t, _, 0, _, rfl, rfl, ht, rfl, ?_⟩)⟩
      rw [lastS_none e0] at kont
      exact kont
    | some e =>
      have l0 : es.length ≠ 0 := fun z => by
        rw [List.eq_nil_of_length_eq_zero z] at q
        cases q
      have el : (es.map fun e => keysD e.row)[es.length - 1]? = some (keysD e.row) := by rw [List.getElem?_map, last_get q]; rfl
      obtain ⟨y, hy, py⟩ := dpAll_at da el
      obtain ⟨ty, rfl, hty⟩ := dp_row1 py
      refine ⟨_, rfl, rfl, _, rfl, iteB (d := false) (Eq.trans (decI es.length 0) (decide_eq_false l0)) (fun z => absurd z (by decide)) fun _ => ?_⟩
      refine ⟨_, rfl, .inr (.inl ⟨t, _, 1, _, rfl, rfl, ht, rfl, _, rfl, _, _, rfl, rfl, .inr (.inl ⟨r, _, ((es.length : Nat) : Int) - 1, _, rfl, rfl, hr1, ?_, .inr (.inl ⟨ty, _, 3, _, rfl, rfl, hty, rfl, ?_⟩)⟩)⟩)⟩
      · rw [show ((es.length : Nat) : Int) - 1 = ((es.length - 1 : Nat) : Int) by omega]
        exact atI_nat hy
      rw [lastS_some q] at kont
      exact kont
def spLwr (K : PySem.W.Frag) : Sp := fun vs H Q _ => ∃ (p : Addr) (v : V) (C : RwP) (s : Nat) (u : Str) (es : List Edg), vs = [.ref p, v, .int (es.length : Nat)] ∧ PlnAt H p C ∧ TblOk C.st ∧ Dp K H v (pathD s es) ∧ (s, u) ∈ C.st ∧ es.length ≤ 200 ∧ (∀ e ∈ es, e.u.length ≤ 8) ∧ ∀ H', Same H H' → Q (.str (u ++ uT es)) H'
theorem ok_law_wrote {f : Addr} {fd : FuncData} (F : FnP K "_law_wrote" s__law_wrote f fd) (T : TP K mg) : FnOk P w K mg base CX0 1 f fd ["_law_plain", "_law_path", "_law_size"] (spLwr K) := by
  refine F.ok sc__law_wrote (fun vs H Q E h => ?_) (fun cdv A outer s H vs Q E hr h => ?_)
  · obtain ⟨p, v, C, s, u, es, rfl, _⟩ := h
    rfl
  · obtain ⟨p, v, C, s0, u, es, rfl, ⟨a0, t0, b0, h1, h2, h3, h4⟩, okS, hd, hu, l200, u8, kont⟩ := h
    obtain ⟨t, r, xs, rfl, ht, hr1, da⟩ := path_parts hd
    have lx : xs.length = es.length := by rw [dpAll_len da, List.length_map]
    have nd := sc__law_wrote.nd
    have hu64 := hr.units
    have hu1 := Nat.lt_of_le_of_lt (Nat.add_le_add_left (by decide : 1 ≤ 64) _) hu64
    have big : (100000 : Nat) ≤ sizeLine := by decide
    refine ⟨_, PSs.nox (pss_one (ps_ret (pe_op op_add_str (pe_dget hu1 (pe_ix ix_seq (pv 0) pe_int (fun _ _ => rfl)) (pe_ix ix_seq (pv 1) pe_int (fun _ _ => rfl)) (fun _ _ => rfl)) (pe_join pe_str (pe_lc (own := [("_law_edge", 3)]) rfl nd (pi_tup (pe_slice sl_tupA (pe_ix ix_seq (pv 1) pe_int (fun _ _ => rfl)) po_none (po_some (pv 2)))) (blkOk_by (own := [("_law_edge", 3)]) (N := ["_law_plain", "_law_path", "_law_size", "_law_edge"]) (sc := defScope s__law_wrote) (by decide +kernel)) (fun _ _ _ _ _ => (pg_name (i := 3) nd rfl (.inl rfl))) (fun _ _ _ _ _ => pts_nil) (fun _ _ _ _ _ => (pe_ix (ix_seq : IxR _ (rIx K)) (pv 3) pe_int (fun _ _ => rfl)))))))), ?_⟩
    have gv := DGet.k (k := (.inl (s0 : Int) : Key)) h2
    rw [entW_get okS hu] at gv
    refine ⟨_, rfl, .inr (.inl ⟨p, _, 1, _, rfl, rfl, .of h1, atI_nat (j := 1) rfl, _, rfl, .inr (.inl ⟨t, _, 0, _, rfl, rfl, ht, rfl, a0, _, rfl, gv, ?_⟩)⟩)⟩
    have whole : HT.sIx xs.length 0 none = 0 ∧ HT.sIx xs.length xs.length (some ((es.length : Nat) : Int)) = xs.length := by
      rw [HT.sIx_none, HT.sIx_nat, lx]
      exact ⟨rfl, Nat.min_self _⟩
    refine ⟨⟨_, rfl⟩, _, rfl, .inr (.inl ⟨t, _, 1, _, rfl, rfl, ht, rfl, _, rfl, _, rfl, ⟨r, xs, rfl, hr1, fun _ => ⟨r, rfl, ⟨_, hr1⟩, fun D nD => ?_⟩, fun n => absurd whole n⟩⟩)⟩
    refine lc_st (σ' := [some (.ref p), some (.ref t), some (.int (es.length : Nat)), none]) walk_tup rfl (fun i H' => Same H H' ∧ H' D = some (.lst (((es.take i).map fun e => e.u).map V.str))) ⟨same_upd nD, upd_same⟩ (fun i H' _ h => sqT_same h.1 hr1) ?_ ?_
    · rintro i y H' HG hi ⟨S, hD⟩ ⟨rfl, hy⟩
      obtain ⟨dy, hdy, py⟩ := dpAll_get da hy
      rw [List.getElem?_map] at hdy
      obtain ⟨e, he, rfl⟩ := Option.map_eq_some_iff.mp hdy
      obtain ⟨ty, rfl, hty⟩ := dp_row1 (Dp.same S py)
      refine ⟨rfl, _, rfl, .inr (.inl ⟨ty, _, 2, _, rfl, rfl, hty, rfl, ?_⟩)⟩
      refine ⟨_, hD, by rw [List.length_map, List.length_map, List.length_take]; omega, upd_far nD S, ?_⟩
      rw [upd_same, List.take_add_one, he, List.map_append, List.map_append]
      rfl
    rintro HF ⟨SF, hDF⟩
    rw [dpAll_len da, List.length_map, List.take_length] at hDF
    refine ⟨"", D, es.map fun e => e.u, rfl, rfl, .inl (SqL.of hDF), ?_, ?_⟩
    · rw [List.length_map]
      have e0 : ("" : Str).length = 0 := rfl
      rw [e0, Nat.mul_zero, Nat.add_zero]
      exact Nat.le_trans (sum_few (k := 8) fun z hz => by
        obtain ⟨e, he, rfl⟩ := List.mem_map.mp hz
        exact u8 e he) (by rw [List.length_map]; omega)
    have ul : u.length ≤ 8 := (okS.word _ hu).2
    refine ⟨u, uT es, rfl, rfl, ?_, kont _ SF⟩
    have := uT_len (es := es) l200 u8
    omega
end
end K0
set_option maxRecDepth 100000
set_option maxHeartbeats 1000000
namespace K0
open PySem L2 FM He
section
variable {P : Program} {w : World} {K : PySem.W.Frag} {mg : Str → Option Value} {base : Heap}
theorem ok_p_ends {f : Addr} {fd : FuncData} (F : FnM K "ends" "Rewriter.ends" s_Rewriter_ends f fd) (T : TP K mg) : FnOk P w K mg base CX0 1 f fd ["self"] (fun vs H Q _ => ∃ x R us ed, vs = [.ref x] ∧ RwAt K H x R us ed ∧ ∀ d, H d = none → Q (.ref d) (upd H d (.dK (entW (atS R.en us))))) := by
  refine F.ok sc_Rewriter_ends (fun vs H Q E h => ?_) (fun cdv A outer s H vs Q E hr h => ?_)
  · obtain ⟨x, R, us, ed, rfl, _⟩ := h
    rfl
  · obtain ⟨x, R, us, ed, rfl, ⟨dx, ts, ds, te, de, hx, h1, h2, h3, h4⟩, k⟩ := h
    have nd := sc_Rewriter_ends.nd
    refine ⟨_, PSs.nox (pss_one (ps_ret (pe_callTy call_dictD (by rfl) T.b_dict (by decide +kernel) (pa_cons (pe_fld (pv 0) rfl) pa_nil)))), ?_⟩
    exact ⟨_, rfl, x, _, dx, _, _, rfl, hx, T.cl, T.n__ends, rfl, de, _, rfl, .inl h4, k⟩
end
end K0
set_option maxRecDepth 100000
set_option maxHeartbeats 4000000
namespace K0
open PySem L2 FM He
theorem endW_get {en : List (Nat × Str)} (ok : TblOk en) (m : Nat) : (valV (entW en) (.inl (m : Int))).getD (.str "") = .str (endW en m) ∧ (endW en m).length ≤ 8 := by
  unfold endW
  rcases entW_or ok m with ⟨e, _⟩ | ⟨u, hu, e⟩
  · rw [e]
    exact ⟨rfl, by decide⟩
  · rw [e]
    exact ⟨rfl, (ok.word _ hu).2⟩
section
variable {P : Program} {w : World} {K : PySem.W.Frag} {mg : Str → Option Value} {base : Heap}
def spPth (K : PySem.W.Frag) : Sp := spTrl K
theorem ok_is_path {f : Addr} {fd : FuncData} (F : FnP K "is_path" s_is_path f fd) (T : TP K mg) : FnOk P w K mg base CX0 5 f fd ["rewriter", "value"] (spPth K) := by
  obtain ⟨d_check_rewriter, F_check_rewriter⟩ := T.f_check_rewriter
  have G_check_rewriter := ok_check_rewriter (P := P) (w := w) (base := base) F_check_rewriter T
  have b_check_rewriter : Binds K d_check_rewriter ["value"] [] := F_check_rewriter.bindsN fun _ _ _ _ _ _ us hl => match us, hl with | [_], _ => rfl
  obtain ⟨d_is_trail, F_is_trail⟩ := T.f_is_trail
  have G_is_trail := ok_is_trail (P := P) (w := w) (base := base) F_is_trail T
  have b_is_trail : Binds K d_is_trail ["rewriter", "value"] [] := F_is_trail.bindsN fun _ _ _ _ _ _ us hl => match us, hl with | [_, _], _ => rfl
  refine F.ok sc_is_path (fun vs H Q E h => ?_) (fun cdv A outer s H vs Q E hr h => ?_)
  · obtain ⟨x, v, R, us, ed, d, rfl, _⟩ := h
    rfl
  · obtain ⟨x, v, R, us, ed, d, rfl, ok, kept, M, hd, sd, kont⟩ := h
    have nd := sc_is_path.nd
    refine ⟨_, PSs.nox (pss_cons (ps_expr (pe_call G_check_rewriter (hr.mono (by decide)) rfl T.g_check_rewriter F_check_rewriter.kp b_check_rewriter .nil pass0 (pa_cons (pv 0) pa_nil)))
      (pss_one (ps_ret (pe_call G_is_trail (hr.mono (by decide)) rfl T.g_is_trail F_is_trail.kp b_is_trail .nil pass0 (pa_cons (pv 0) (pa_cons (pv 1) pa_nil)))))), ?_⟩
    obtain ⟨dx, _, _, _, _, hx, _⟩ := id M
    exact ⟨_, rfl, x, dx, _, rfl, hx, _, rfl, _, rfl, x, v, R, us, ed, d, rfl, ok, kept, M, hd, sd, kont⟩
def spWby (K : PySem.W.Frag) : Sp := fun vs H Q _ => ∃ (x : Addr) (v : V) (R : RwP) (us : List Nat) (ed : List Edg) (s : Nat) (u : Str) (es : List Edg), vs = [.ref x, v] ∧ R.Ok ∧ Kept R us ed ∧ RwAt K H x R us ed ∧ Dp K H v (pathD s es) ∧ (s, u) ∈ atS R.st us ∧ es.length ≤ 200 ∧ (∀ e ∈ es, e.u.length ≤ 8) ∧ ∀ H', Same H H' → Q (.str (u ++ uT es ++ endW (atS R.en us) (lastS s es))) H'
theorem ok_written_by {f : Addr} {fd : FuncData} (F : FnP K "written_by" s_written_by f fd) (T : TP K mg) : FnOk P w K mg base CX0 4 f fd ["rewriter", "path"] (spWby K) := by
  obtain ⟨d_written_before_end, F_written_before_end⟩ := T.f_written_before_end
  have G_written_before_end := ok_written_before_end (P := P) (w := w) (base := base) F_written_before_end T
  have b_written_before_end : Binds K d_written_before_end ["rewriter", "path"] [] := F_written_before_end.bindsN fun _ _ _ _ _ _ us hl => match us, hl with | [_, _], _ => rfl
  obtain ⟨d_last_state, F_last_state⟩ := T.f_last_state
  have G_last_state := ok_last_state (P := P) (w := w) (base := base) F_last_state T
  have b_last_state : Binds K d_last_state ["path"] [] := F_last_state.bindsN fun _ _ _ _ _ _ us hl => match us, hl with | [_], _ => rfl
  obtain ⟨p_ends, f_ends, d_ends, pp_ends, FP_ends⟩ := T.p_ends
  have GP_ends := ok_p_ends (P := P) (w := w) (base := base) FP_ends T
  have bP_ends : Binds K d_ends ["self"] [] := FP_ends.bindsN fun _ _ _ _ _ _ us hl => match us, hl with | [_], _ => rfl
  refine F.ok sc_written_by (fun vs H Q E h => ?_) (fun cdv A outer s H vs Q E hr h => ?_)
  · obtain ⟨x, v, R, us, ed, s, u, es, rfl, _⟩ := h
    rfl
  · obtain ⟨x, v, R, us, ed, s0, u, es, rfl, ok, kept, M, hd, hu, l200, u8, kont⟩ := h
    have nd := sc_written_by.nd
    have hu64 := hr.units
    have hu1 := Nat.lt_of_le_of_lt (Nat.add_le_add_left (by decide : 1 ≤ 64) _) hu64
    have big : (100000 : Nat) ≤ sizeLine := by decide
    have ndu : us.Nodup := kept.rise.imp fun h => Nat.ne_of_lt h
    have okS := atS_ok ok.st ndu
    have okE := atS_ok ok.en ndu
    refine ⟨_, PSs.nox (pss_one (ps_ret (pe_op op_add_str (pe_call G_written_before_end (hr.mono (by decide)) rfl T.g_written_before_end F_written_before_end.kp b_written_before_end .nil pass0 (pa_cons (pv 0) (pa_cons (pv 1) pa_nil))) (pe_dget2 hu1 (pe_prop (pv 0) T.cl pp_ends GP_ends (hr.mono (by decide)) bP_ends .nil pass0 rfl) (pe_call G_last_state (hr.mono (by decide)) rfl T.g_last_state F_last_state.kp b_last_state .nil pass0 (pa_cons (pv 1) pa_nil)) pe_str ⟨rfl, rfl, rfl, rfl⟩)))), ?_⟩
    refine ⟨_, rfl, _, rfl, x, v, R, us, ed, s0, u, es, rfl, ok, kept, M, hd, hu, l200, u8, fun H1 S1 => ?_⟩
    have M1 := M.same S1
    have hd1 := Dp.same S1 hd
    obtain ⟨dx, _, _, _, _, hx, _⟩ := id M1
    refine ⟨_, rfl, x, dx, _, rfl, hx, x, R, us, ed, rfl, M1, fun a na => ⟨a, rfl, .inl ⟨_, .inl upd_same⟩, ?_⟩⟩
    have S2 := same_upd (o := .dK (entW (atS R.en us))) na
    refine ⟨_, rfl, v, s0, es, rfl, Dp.same S2 hd1, ?_⟩
    obtain ⟨e1, e2⟩ := endW_get okE (lastS s0 es)
    have ul : u.length ≤ 8 := (okS.word _ hu).2
    have l1 := uT_len (es := es) l200 u8
    refine ⟨_, DGet.k (k := (.inl (lastS s0 es : Int) : Key)) upd_same, ?_⟩
    rw [e1]
    refine ⟨u ++ uT es, endW (atS R.en us) (lastS s0 es), rfl, rfl, by rw [app_len]; omega, kont _ (S1.trans S2)⟩
end
end K0
set_option maxRecDepth 100000
set_option maxHeartbeats 1000000
namespace K0
open PySem L2 FM He
section
variable {P : Program} {w : World} {K : PySem.W.Frag} {mg : Str → Option Value} {base : Heap}
def spBlt (K : PySem.W.Frag) : Sp := fun vs H Q _ => ∃ (p : Addr) (R : RwP), vs = [.ref p] ∧ R.Ok ∧ PlnAt H p R ∧ ∀ x H' us ed, Same H H' → H x = none → Kept R us ed → RwAt K H' x R us ed → Q (.ref x) H'
theorem ok_law_built {f : Addr} {fd : FuncData} (F : FnP K "_law_built" s__law_built f fd) (T : TP K mg) : FnOk P w K mg base CX0 8 f fd ["_law_plain"] (spBlt K) := by
  obtain ⟨f_init, d_init, MkR, F_init⟩ := T.i_init
  have G_init := ok_init (P := P) (w := w) (base := base) F_init T
  have b_init : Binds K d_init ["self", "letters", "starts", "edges", "ends"] [] := F_init.bindsN fun _ _ _ _ _ _ us hl => match us, hl with | [_, _, _, _, _], _ => rfl
  refine F.ok sc__law_built (fun vs H Q E h => ?_) (fun cdv A outer s H vs Q E hr h => ?_)
  · obtain ⟨p, R, rfl, _⟩ := h
    rfl
  · obtain ⟨p, R, rfl, okR, hp, k⟩ := h
    have nd := sc__law_built.nd
    refine ⟨_, PSs.nox (pss_one (ps_ret (pe_make MkR G_init (hr.mono (by decide)) (by rfl) T.g_Rewriter b_init .nil pass0 (pa_cons (pe_ix ix_seq (pv 0) pe_int (fun _ _ => rfl)) (pa_cons (pe_ix ix_seq (pv 0) pe_int (fun _ _ => rfl)) (pa_cons (pe_ix ix_seq (pv 0) pe_int (fun _ _ => rfl)) (pa_cons (pe_ix ix_seq (pv 0) pe_int (fun _ _ => rfl)) pa_nil))))))), ?_⟩
    obtain ⟨a0, t, b0, h1, h2, h3, ks, h4, h5, h6⟩ := id hp
    refine ⟨_, rfl, .inr (.inl ⟨p, _, 0, _, rfl, rfl, .of h1, atI_nat (j := 0) rfl, ?_⟩)⟩
    refine ⟨_, rfl, .inr (.inl ⟨p, _, 1, _, rfl, rfl, .of h1, atI_nat (j := 1) rfl, ?_⟩)⟩
    refine ⟨_, rfl, .inr (.inl ⟨p, _, 2, _, rfl, rfl, .of h1, atI_nat (j := 2) rfl, ?_⟩)⟩
    refine ⟨_, rfl, .inr (.inl ⟨p, _, 3, _, rfl, rfl, .of h1, atI_nat (j := 3) rfl, ?_⟩)⟩
    intro x dx nx ndx ne
    have nx2 : upd H dx (.own x) x = none := by rw [upd_ne ne.symm]; exact nx
    have S1 := (same_upd (o := .own x) ndx).trans (same_upd (o := .ins (CR K) dx []) nx2)
    refine ⟨x, a0, t, b0, dx, R, ks, rfl, okR, upd_same, S1 _ _ h2, S1 _ _ h3, .of (S1 _ _ h4), h5, fun q hq => S1 _ _ (h6 q hq), fun H' us ed fr kept rw_ => ?_⟩
    refine ⟨rfl, k x H' us ed (fun b o hb => fr b o (fun z => by rw [z, nx] at hb; cases hb) (S1 _ _ hb)) nx kept rw_⟩
end
end K0
set_option maxRecDepth 100000
set_option maxHeartbeats 2000000
namespace FM
instance : DecidableEq Edg := fun e f => decidable_of_iff (e.a = f.a ∧ e.c = f.c ∧ e.u = f.u ∧ e.b = f.b) ⟨fun ⟨h1, h2, h3, h4⟩ => by
  cases e
  cases f
  cases h1
  cases h2
  cases h3
  cases h4
  rfl, fun h => by
  subst h
  exact ⟨rfl, rfl, rfl, rfl⟩⟩
end FM
namespace K0
open PySem L2 FM He
section
variable {α : Type} [DecidableEq α]
inductive RcG (nx : α → List α) (bs : List α) : α → Prop
  | base {m : α} : m ∈ bs → RcG nx bs m
  | step {m x : α} : RcG nx bs m → x ∈ nx m → RcG nx bs x
def grow (nx : α → List α) : Nat → List α → List α → List α
  | 0, seen, _ => seen
  | _ + 1, seen, [] => seen
  | n + 1, seen, x :: fr => grow nx n ((nx x).filter (fun y => !decide (y ∈ seen)) ++ seen) (fr ++ (nx x).filter fun y => !decide (y ∈ seen))
theorem grow_sound {nx : α → List α} {bs : List α} : ∀ (n : Nat) (seen fr : List α), (∀ m ∈ seen, RcG nx bs m) → (∀ m ∈ fr, RcG nx bs m) → ∀ m ∈ grow nx n seen fr, RcG nx bs m
  | 0, seen, _, h, _ => h
  | _ + 1, seen, [], h, _ => h
  | n + 1, seen, x :: fr, h, k => by
    have nw : ∀ m ∈ (nx x).filter (fun y => !decide (y ∈ seen)), RcG nx bs m := fun m hm => .step (k x List.mem_cons_self) (List.mem_filter.mp hm).1
    refine grow_sound n _ _ (fun m hm => ?_) fun m hm => ?_
    · rcases List.mem_append.mp hm with hm | hm
      · exact nw m hm
      · exact h m hm
    · rcases List.mem_append.mp hm with hm | hm
      · exact k m (List.mem_cons_of_mem _ hm)
      · exact nw m hm
def shut (nx : α → List α) (bs xs : List α) : Prop := (∀ m ∈ bs, m ∈ xs) ∧ ∀ m ∈ xs, ∀ y ∈ nx m, y ∈ xs
instance {nx : α → List α} {bs xs : List α} : Decidable (shut nx bs xs) := inferInstanceAs (Decidable (_ ∧ _))
def rg (nx : α → List α) (bs : List α) : List α := grow nx 60 bs bs
theorem rg_iff {nx : α → List α} {bs : List α} (h : shut nx bs (rg nx bs)) {m : α} : m ∈ rg nx bs ↔ RcG nx bs m := by
  refine ⟨grow_sound 60 bs bs (fun m hm => .base hm) (fun m hm => .base hm) m, fun r => ?_⟩
  induction r with
  | base hm => exact h.1 _ hm
  | step _ hx ih => exact h.2 _ ih _ hx
end
def nxM (ed : List Edg) (m : Nat) : List Nat := (ed.filter fun e => e.a == m).map (·.b)
def nxMB (ed : List Edg) (m : Nat) : List Nat := (ed.filter fun e => e.b == m).map (·.a)
theorem rch_G {ed : List Edg} {bs : List Nat} {m : Nat} : Rch (mvs ed) bs m ↔ RcG (nxM ed) bs m := by
  constructor
  · intro h
    induction h with
    | base h => exact .base h
    | step _ h ih =>
      obtain ⟨e, he, e2⟩ := List.mem_map.mp h
      simp only [List.cons.injEq, and_true] at e2
      exact ih.step (List.mem_map.mpr ⟨e, List.mem_filter.mpr ⟨he, by simp only [beq_iff_eq]; omega⟩, by omega⟩)
  · intro h
    induction h with
    | base h => exact .base h
    | step _ h ih =>
      obtain ⟨e, he, rfl⟩ := List.mem_map.mp h
      obtain ⟨hf, ha⟩ := List.mem_filter.mp he
      simp only [beq_iff_eq] at ha
      subst ha
      exact ih.step (List.mem_map.mpr ⟨e, hf, rfl⟩)
theorem rch_GB {ed : List Edg} {bs : List Nat} {m : Nat} : Rch (mvsB ed) bs m ↔ RcG (nxMB ed) bs m := by
  constructor
  · intro h
    induction h with
    | base h => exact .base h
    | step _ h ih =>
      obtain ⟨e, he, e2⟩ := List.mem_map.mp h
      simp only [List.cons.injEq, and_true] at e2
      exact ih.step (List.mem_map.mpr ⟨e, List.mem_filter.mpr ⟨he, by simp only [beq_iff_eq]; omega⟩, by omega⟩)
  · intro h
    induction h with
    | base h => exact .base h
    | step _ h ih =>
      obtain ⟨e, he, rfl⟩ := List.mem_map.mp h
      obtain ⟨hf, ha⟩ := List.mem_filter.mp he
      simp only [beq_iff_eq] at ha
      subst ha
      exact ih.step (List.mem_map.mpr ⟨e, hf, rfl⟩)
instance (l : List (List Key)) : Decidable (KSorted l) := inferInstanceAs (Decidable (List.Pairwise _ l))
structure Cas where
  R : RwP
  us : List Nat
  ed : List Edg
def wordB (z : Str) : Bool := (sg z).all (fun c => decide (97 ≤ c) && decide (c ≤ 122)) && decide (z.length ≤ 8)
theorem wordB_iff {z : Str} (h : wordB z = true) : Let z ∧ z.length ≤ 8 := by
  unfold wordB at h
  simp only [Bool.and_eq_true, List.all_eq_true, decide_eq_true_eq] at h
  exact ⟨h.1, h.2⟩
structure Cas.A (c : Cas) : Prop where
  s1 : c.R.sg.Pairwise (· < ·) ∧ c.R.sg ≠ [] ∧ c.R.sg.length ≤ 4 ∧ ∀ x ∈ c.R.sg, 97 ≤ x ∧ x ≤ 122
  s2 : (c.R.st.map (·.1)).Nodup ∧ ∀ p ∈ c.R.st, p.1 < 12 ∧ wordB p.2 = true
  s3 : (c.R.en.map (·.1)).Nodup ∧ ∀ p ∈ c.R.en, p.1 < 12 ∧ wordB p.2 = true
  s4 : c.R.ed.length ≤ 63 ∧ ∀ e ∈ c.R.ed, e.a < 12 ∧ e.b < 12 ∧ e.c ∈ c.R.sg ∧ wordB e.u = true
  k1 : c.us.Pairwise (· < ·) ∧ c.us.length ≤ 12
  k2 : shut (nxM c.R.ed) (c.R.st.map (·.1)) (rg (nxM c.R.ed) (c.R.st.map (·.1)))
  k3 : shut (nxMB c.R.ed) (c.R.en.map (·.1)) (rg (nxMB c.R.ed) (c.R.en.map (·.1)))
  k4 : (∀ m ∈ c.us, m ∈ rg (nxM c.R.ed) (c.R.st.map (·.1)) ∧ m ∈ rg (nxMB c.R.ed) (c.R.en.map (·.1))) ∧ ∀ m ∈ rg (nxM c.R.ed) (c.R.st.map (·.1)), m ∈ rg (nxMB c.R.ed) (c.R.en.map (·.1)) → m ∈ c.us
  k5 : KSorted (c.ed.map Edg.row)
  k6 : c.ed.Nodup ∧ (∀ e ∈ c.ed, e ∈ c.R.ed ∧ e.a ∈ c.us ∧ e.b ∈ c.us) ∧ ∀ e ∈ c.R.ed, e.a ∈ c.us → e.b ∈ c.us → e ∈ c.ed
section
variable {c : Cas} (h : c.A)
include h
theorem Cas.A.ok : c.R.Ok where
  sg := ⟨h.s1.1, h.s1.2.1, h.s1.2.2.1, h.s1.2.2.2⟩
  st := ⟨h.s2.1, fun p hp => (h.s2.2 p hp).1, fun p hp => wordB_iff (h.s2.2 p hp).2⟩
  en := ⟨h.s3.1, fun p hp => (h.s3.2 p hp).1, fun p hp => wordB_iff (h.s3.2 p hp).2⟩
  few := h.s4.1
  ed := fun e he => by
    obtain ⟨h1, h2, h3, h4⟩ := h.s4.2 e he
    exact ⟨h1, h2, h3, (wordB_iff h4).1, (wordB_iff h4).2⟩
theorem Cas.A.kept : Kept c.R c.us c.ed where
  rise := h.k1.1
  mem := fun m => by
    unfold RwP.Useful
    rw [rch_G, rch_GB, ← rg_iff h.k2, ← rg_iff h.k3]
    exact ⟨h.k4.1 m, fun ⟨a, b⟩ => h.k4.2 m a b⟩
  srt := h.k5
  nd := h.k6.1
  eds := fun e => ⟨h.k6.2.1 e, fun ⟨a, b, d⟩ => h.k6.2.2 e a b d⟩
end
/-- a display of states and words -/
def trW (st : List (Nat × Str)) : List (L2.TE × L2.TE) := st.map fun p => (tC (V.int (p.1 : Nat)), tC (V.str p.2))
theorem trW_run : ∀ (st : List (Nat × Str)) {σ : St} {H : Hp} {Q : List (V × V) → Hp → Prop}, Q (st.map fun p => (V.int (p.1 : Nat), V.str p.2)) H → tPairs (trW st) σ H Q
  | [], _, _, _, q => q
  | p :: r, σ, H, Q, q => trW_run r (σ := σ) (H := H) (Q := fun ps H3 => Q ((V.int (p.1 : Nat), V.str p.2) :: ps) H3) q
def RdS (σ : St) (t : L2.TE) (st : List (Nat × Str)) : Prop := ∀ H (Q : VK), (∀ p H', Same H H' → H' p = some (.dK (entW st)) → Q (.ref p) H') → t σ H Q
theorem rdS_disp {σ : St} {st : List (Nat × Str)} (hm : mergeK [] (entW st) = entW st) (l : st.length ≤ 15) : RdS σ (tDisp (trW st)) st := fun H Q q => by
  intro p np
  refine trW_run st ⟨upd_same, entW st, ?_, by unfold entW; rw [List.length_map]; exact l, ?_⟩
  · unfold entW
    rw [List.map_map]
    rfl
  · rw [hm, upd_upd]
    exact q p _ (same_upd np) upd_same
theorem rdS_new {σ : St} : RdS σ tDNewK [] := fun H Q q p np => q p _ (same_upd np) upd_same
/-- edges, as written -/
def taE : List Edg → L2.TA
  | [] => tNil
  | e :: r => tCons (tTup (tCons (tC (.int (e.a : Nat))) (tCons (tC (.str ⟨#[e.c]⟩)) (tCons (tC (.str e.u)) (tCons (tC (.int (e.b : Nat))) tNil))))) (taE r)
def EdsAt (H : Hp) (ks : List (Addr × Edg)) : Prop := ∀ p ∈ ks, H p.1 = some (.tup (p.2.row.map kV))
theorem EdsAt.same {H H' : Hp} {ks : List (Addr × Edg)} (h : EdsAt H ks) (S : Same H H') : EdsAt H' ks := fun p hp => S _ _ (h p hp)
theorem taE_run : ∀ (es : List Edg) {σ : St} {H : Hp} {Q : List V → Hp → Prop}, (∀ ks H', Same H H' → ks.map (·.2) = es → EdsAt H' ks → Q (ks.map fun p => V.ref p.1) H') → taE es σ H Q
  | [], σ, H, Q, q => q [] H (.refl _) rfl fun p hp => nomatch hp
  | e :: r, σ, H, Q, q => by
    have big : (4 : Nat) ≤ sizeLine := by decide
    refine ⟨big, fun l nl => ?_⟩
    refine taE_run r (σ := σ) fun ks H' S e1 hk => ?_
    refine q ((l, e) :: ks) H' ((same_upd nl).trans S) (by rw [List.map_cons, e1]) fun p hp => ?_
    rcases List.mem_cons.mp hp with rfl | hp
    · exact S _ _ upd_same
    · exact hk p hp
/-- the edges' tuple -/
def RdE (K : PySem.W.Frag) (σ : St) (H0 : Hp) (t : L2.TE) (es : List Edg) : Prop := ∀ H (Q : VK), Same H0 H → (∀ p ks H', Same H H' → SqT K H' p (ks.map fun q => V.ref q.1) → ks.map (·.2) = es → EdsAt H' ks → Q (.ref p) H') → t σ H Q
theorem rdE_tup {K : PySem.W.Frag} {σ : St} {H0 : Hp} {es : List Edg} (l : es.length ≤ 1000) : RdE K σ H0 (tTup (taE es)) es := fun H Q _ q => by
  refine taE_run es fun ks H' S e1 hk => ?_
  have l2 : ks.length = es.length := by
    have := congrArg List.length e1
    rwa [List.length_map] at this
  have big : (1000 : Nat) ≤ sizeLine := by decide
  refine ⟨by rw [List.length_map]; omega, fun p np => ?_⟩
  exact q p ks _ (S.trans (same_upd np)) (.of upd_same) e1 (hk.same (same_upd np))
/-- Rewriter(letters, starts, edges, ends) -/
theorem mk_run {K : PySem.W.Frag} {σ : St} {H : Hp} {Q : VK} {tS tE tN : L2.TE} {c : Cas} {s : Str} (hs : s = sgTxt c.R.sg) (hc : c.A) (hS : RdS σ tS c.R.st) (hE : RdE K σ H tE c.R.ed) (hN : RdS σ tN c.R.en)
    (q : ∀ x H', Same H H' → RwAt K H' x c.R c.us c.ed → Q (.ref x) H') : tMake (CR K) (spInit K) [] E0 (tCons (tC (.str s)) (tCons tS (tCons tE (tCons tN tNil)))) σ H Q := by
  subst hs
  refine hS H _ fun a H1 S1 ha => ?_
  refine hE H1 _ S1 fun t ks H2 S2 ht ek hk => ?_
  refine hN H2 _ fun b H3 S3 hb => ?_
  intro x dx nx ndx ne
  have nx2 : upd H3 dx (.own x) x = none := by rw [upd_ne ne.symm]; exact nx
  have S4 := (same_upd (o := .own x) ndx).trans (same_upd (o := .ins (CR K) dx []) nx2)
  refine ⟨x, a, t, b, dx, c.R, ks, rfl, hc.ok, upd_same, S4 _ _ (S3 _ _ (S2 _ _ ha)), S4 _ _ hb, sqT_same (S3.trans S4) ht, ek, fun p hp => S4 _ _ (S3 _ _ (hk p hp)), fun H' us ed fr kept rw_ => ⟨rfl, ?_⟩⟩
  obtain ⟨e1, e2⟩ := kept.one hc.kept
  subst e1 e2
  have S5 : Same H3 H' := fun b o hb => fr b o (fun z => by rw [z, nx] at hb; cases hb) (S4 _ _ hb)
  exact q x H' (S1.trans (S2.trans (S3.trans S5))) rw_
end K0
set_option maxRecDepth 100000
set_option maxHeartbeats 2000000
namespace K0
open PySem L2 FM He
def okP (R : RwP) : Prop := (R.sg.Pairwise (· < ·) ∧ R.sg ≠ [] ∧ R.sg.length ≤ 4 ∧ ∀ x ∈ R.sg, 97 ≤ x ∧ x ≤ 122) ∧ ((R.st.map (·.1)).Nodup ∧ ∀ p ∈ R.st, p.1 < 12 ∧ wordB p.2 = true) ∧ ((R.en.map (·.1)).Nodup ∧ ∀ p ∈ R.en, p.1 < 12 ∧ wordB p.2 = true) ∧ R.ed.length ≤ 40 ∧ ∀ e ∈ R.ed, e.a < 12 ∧ e.b < 12 ∧ e.c ∈ R.sg ∧ wordB e.u = true
instance (R : RwP) : Decidable (okP R) := by unfold okP; infer_instance
theorem okP_ok {R : RwP} (h : okP R) : R.Ok := by
  obtain ⟨s1, s2, s3, s4, s5⟩ := h
  exact ⟨⟨s1.1, s1.2.1, s1.2.2.1, s1.2.2.2⟩, ⟨s2.1, fun p hp => (s2.2 p hp).1, fun p hp => wordB_iff (s2.2 p hp).2⟩, fun e he => by
    obtain ⟨h1, h2, h3, h4⟩ := s5 e he
    exact ⟨h1, h2, h3, (wordB_iff h4).1, (wordB_iff h4).2⟩, by omega, ⟨s3.1, fun p hp => (s3.2 p hp).1, fun p hp => wordB_iff (s3.2 p hp).2⟩⟩
def RdT (σ : L2.St) (H0 : Hp) (t : L2.TE) (es : List Edg) : Prop := ∀ H (Q : VK), Same H0 H → (∀ p ks H', Same H H' → H' p = some (.tup (ks.map fun q => V.ref q.1)) → ks.map (·.2) = es → EdsAt H' ks → Q (.ref p) H') → t σ H Q
theorem RdT.same {σ : L2.St} {H0 H1 : Hp} {t : L2.TE} {es : List Edg} (h : RdT σ H0 t es) (S : Same H0 H1) : RdT σ H1 t es := fun H Q S1 q => h H Q (S.trans S1) q
theorem rdT_tup {σ : L2.St} {H0 : Hp} {es : List Edg} (l : es.length ≤ 1000) : RdT σ H0 (tTup (taE es)) es := fun H Q _ q => by
  refine taE_run es fun ks H' S e1 hk => ?_
  have l2 : ks.length = es.length := by rw [← e1, List.length_map]
  have big : (1000 : Nat) ≤ sizeLine := by decide
  refine ⟨by rw [List.length_map]; omega, fun p np => ?_⟩
  exact q p ks _ (S.trans (same_upd np)) upd_same e1 (hk.same (same_upd np))
theorem rdT_list {K : PySem.W.Frag} {σ : L2.St} {H0 : Hp} {es : List Edg} {El : Addr} {i : Nat} {ks : List (Addr × Edg)} (e5 : σ[i]? = some (some (.ref El))) (hE : H0 El = some (.lst (ks.map fun p => V.ref p.1))) (ek : ks.map (·.2) = es) (hk : EdsAt H0 ks) :
    RdT σ H0 (tCB (rTupOf K) (tCons (tVar i) tNil)) es := fun H Q S q =>
  ⟨_, e5, El, _, rfl, .inl ⟨.of (S _ _ hE), fun l nl => q l ks _ (same_upd nl) upd_same ek ((hk.same S).same (same_upd nl))⟩⟩
theorem rdT_var {σ : L2.St} {H0 : Hp} {es : List Edg} {i : Nat} {l : Addr} {ks : List (Addr × Edg)} (e5 : σ[i]? = some (some (.ref l))) (hE : H0 l = some (.tup (ks.map fun p => V.ref p.1))) (ek : ks.map (·.2) = es) (hk : EdsAt H0 ks) :
    RdT σ H0 (tVar i) es := fun H Q S q => ⟨_, e5, q l ks H (.refl _) (S _ _ hE) ek (hk.same S)⟩
theorem seq_edges {es : List Edg} {i : Nat} {rest : TS} {D : Ends} {σ : L2.St} {H : Hp} (l : es.length ≤ 1000)
    (q : ∀ El ks H', Same H H' → H El = none → H' El = some (.lst (ks.map fun p => V.ref p.1)) → ks.map (·.2) = es → EdsAt H' ks → rest D (σ.set i (some (.ref El))) H') : tSeq (tAsg (tLst (taE es)) (gName i)) rest D σ H := by
  refine taE_run es fun ks H' S e1 hk => ?_
  have l2 : ks.length = es.length := by rw [← e1, List.length_map]
  have big : (1000 : Nat) ≤ sizeLine := by decide
  refine ⟨by rw [List.length_map]; omega, fun p np => ?_⟩
  exact q p ks _ (S.trans (same_upd np)) (S.free np) upd_same e1 (hk.same (same_upd np))
/-- l = l + [edges] -/
theorem seq_edges2 {es : List Edg} {i : Nat} {rest : TS} {D : Ends} {σ : L2.St} {H : Hp} {El : Addr} {ks0 : List (Addr × Edg)} {es0 : List Edg} (l : es.length ≤ 1000) (l0 : es0.length ≤ 1000) (e5 : σ[i]? = some (some (.ref El))) (hE : H El = some (.lst (ks0.map fun p => V.ref p.1))) (ek : ks0.map (·.2) = es0) (hk0 : EdsAt H ks0)
    (q : ∀ El ks H', Same H H' → H' El = some (.lst (ks.map fun p => V.ref p.1)) → ks.map (·.2) = es0 ++ es → EdsAt H' ks → rest D (σ.set i (some (.ref El))) H') : tSeq (tAsg (tOp rCat (tVar i) (tLst (taE es))) (gName i)) rest D σ H := by
  refine ⟨_, e5, ?_⟩
  refine taE_run es fun ks H' S e1 hk => ?_
  have l2 : ks.length = es.length := by rw [← e1, List.length_map]
  have l3 : ks0.length = es0.length := by rw [← ek, List.length_map]
  have big : (100000 : Nat) ≤ sizeLine := by decide
  refine ⟨by rw [List.length_map]; omega, fun p np => ?_⟩
  have S2 := S.trans (same_upd (o := .lst (ks.map fun p => V.ref p.1)) np)
  refine ⟨El, p, _, _, rfl, rfl, S2 _ _ hE, upd_same, by rw [List.length_map, List.length_map]; omega, fun r nr => ?_⟩
  have S3 := S2.trans (same_upd (o := .lst ((ks0.map fun p => V.ref p.1) ++ (ks.map fun p => V.ref p.1))) nr)
  refine q r (ks0 ++ ks) _ S3 (by rw [upd_same, List.map_append]) (by rw [List.map_append, ek, e1]) fun z hz => ?_
  rcases List.mem_append.mp hz with hz | hz
  · exact S3 _ _ (hk0 z hz)
  · exact same_upd nr _ _ (same_upd np _ _ (hk z hz))
/-- a tuple of edges -/
theorem seq_edgT {es : List Edg} {i : Nat} {rest : TS} {D : Ends} {σ : L2.St} {H : Hp} (l : es.length ≤ 1000)
    (q : ∀ t ks H', Same H H' → H' t = some (.tup (ks.map fun p => V.ref p.1)) → ks.map (·.2) = es → EdsAt H' ks → rest D (σ.set i (some (.ref t))) H') : tSeq (tAsg (tTup (taE es)) (gName i)) rest D σ H :=
  rdT_tup (σ := σ) (H0 := H) l H (fun x H' => gName i x σ H' (rest D)) (.refl _) fun p ks H' S h e k => q p ks H' S h e k
/-- t = t + (edges) -/
theorem seq_edgT2 {K : PySem.W.Frag} {es : List Edg} {i : Nat} {rest : TS} {D : Ends} {σ : L2.St} {H : Hp} {t : Addr} {ks0 : List (Addr × Edg)} {es0 : List Edg} (l : es.length ≤ 1000) (l0 : es0.length ≤ 1000) (n1 : es ≠ []) (n0 : es0 ≠ []) (e5 : σ[i]? = some (some (.ref t))) (hE : H t = some (.tup (ks0.map fun p => V.ref p.1))) (ek : ks0.map (·.2) = es0) (hk0 : EdsAt H ks0)
    (q : ∀ t ks H', Same H H' → H' t = some (.tup (ks.map fun p => V.ref p.1)) → ks.map (·.2) = es0 ++ es → EdsAt H' ks → rest D (σ.set i (some (.ref t))) H') : tSeq (tAsg (tOp (rCatA K) (tVar i) (tTup (taE es))) (gName i)) rest D σ H := by
  refine ⟨_, e5, ?_⟩
  refine rdT_tup (H0 := H) l H _ (.refl _) fun p ks H' S h e1 hk => ?_
  have l2 : ks.length = es.length := by rw [← e1, List.length_map]
  have l3 : ks0.length = es0.length := by rw [← ek, List.length_map]
  have big : (100000 : Nat) ≤ sizeLine := by decide
  refine ⟨t, p, _, _, rfl, rfl, .of (S _ _ hE), .of h, by rw [List.length_map, List.length_map]; omega, fun z => ?_, fun _ z => ?_, fun _ _ r nr => ?_⟩
  · exact absurd (by rw [← ek, List.map_eq_nil_iff.mp z]; rfl) n0
  · exact absurd (by rw [← e1, List.map_eq_nil_iff.mp z]; rfl) n1
  · have S3 := S.trans (same_upd (o := .tup ((ks0.map fun p => V.ref p.1) ++ (ks.map fun p => V.ref p.1))) nr)
    refine q r (ks0 ++ ks) _ S3 (by rw [upd_same, List.map_append]) (by rw [List.map_append, ek, e1]) fun z hz => ?_
    rcases List.mem_append.mp hz with hz | hz
    · exact S3 _ _ (hk0 z hz)
    · exact same_upd nr _ _ (hk z hz)
/-- an expression that is a plain thing -/
def PlR (σ : L2.St) (H0 : Hp) (t : L2.TE) (R : RwP) : Prop := ∀ H (Q : VK), Same H0 H → (∀ p H', Same H H' → PlnAt H' p R → Q (.ref p) H') → t σ H Q
theorem pln_run {σ : L2.St} {H0 : Hp} {tS tE tN : L2.TE} {R : RwP} {s : Str} (hs : s = sgTxt R.sg) (hS : RdS σ tS R.st) (hE : RdT σ H0 tE R.ed) (hN : RdS σ tN R.en) : PlR σ H0 (tTup (tCons (tC (.str s)) (tCons tS (tCons tE (tCons tN tNil))))) R := fun H Q S0 q => by
  subst hs
  refine hS H _ fun a H1 S1 ha => ?_
  refine hE H1 _ (S0.trans S1) fun t ks H2 S2 ht ek hk => ?_
  refine hN H2 _ fun b H3 S3 hb => ?_
  refine ⟨by show 4 ≤ sizeLine; decide, fun p np => ?_⟩
  have S4 := S3.trans (same_upd (o := .tup [.str (sgTxt R.sg), .ref a, .ref t, .ref b]) np)
  exact q p _ (S1.trans (S2.trans S4)) ⟨a, t, b, upd_same, S4 _ _ (S2 _ _ ha), same_upd np _ _ hb, ks, S4 _ _ ht, ek, fun z hz => S4 _ _ (hk z hz)⟩
/-- a list of plain things -/
def PlL (H : Hp) (L : Addr) (cs : List RwP) : Prop := ∃ xs : List Addr, H L = some (.lst (xs.map V.ref)) ∧ Paired (fun x c => PlnAt H x c) xs cs
theorem pln_put {H : Hp} {L p : Addr} {xs : List V} {o : HO} {R : RwP} (hL : H L = some (.lst xs)) (h : PlnAt H p R) : PlnAt (upd H L o) p R := by
  obtain ⟨a, t, b, h1, h2, h3, ks, h4, h5, h6⟩ := h
  have ne : ∀ {x : Addr} {o : HO}, H x = some o → (∀ xs, o ≠ .lst xs) → x ≠ L := fun {x o} hx n e => by rw [e, hL] at hx; cases hx; exact n _ rfl
  exact ⟨a, t, b, by rw [upd_ne (ne h1 fun _ z => nomatch z)]; exact h1, by rw [upd_ne (ne h2 fun _ z => nomatch z)]; exact h2, by rw [upd_ne (ne h3 fun _ z => nomatch z)]; exact h3, ks, by rw [upd_ne (ne h4 fun _ z => nomatch z)]; exact h4, h5, fun q hq => by rw [upd_ne (ne (h6 q hq) fun _ z => nomatch z)]; exact h6 q hq⟩
theorem PlL.same {H H' : Hp} {L : Addr} {cs : List RwP} (h : PlL H L cs) (S : Same H H') : PlL H' L cs := by
  obtain ⟨xs, h1, h2⟩ := h
  exact ⟨xs, S _ _ h1, paired_mono (fun _ _ z => z.same S) h2⟩
theorem seq_p2 {t1 t2 : L2.TE} {rest : TS} {D : Ends} {σ : L2.St} {H : Hp} {c d : RwP} {i : Nat} (h1 : PlR σ H t1 c) (h2 : PlR σ H t2 d)
    (q : ∀ L H', Same H H' → H L = none → PlL H' L [c, d] → rest D (σ.set i (some (.ref L))) H') : tSeq (tAsg (tLst (tCons t1 (tCons t2 tNil))) (gName i)) rest D σ H := by
  refine h1 H _ (.refl _) fun x H1 S1 hx => ?_
  refine h2 H1 _ S1 fun y H2 S2 hy => ?_
  refine ⟨by show 2 ≤ sizeLine; decide, fun L nL => ?_⟩
  have S3 := same_upd (o := .lst [.ref x, .ref y]) nL
  exact q L _ (S1.trans (S2.trans S3)) (S1.free (S2.free nL)) ⟨[x, y], upd_same, .cons ((hx.same S2).same S3) (.cons (hy.same S3) .nil)⟩
theorem seq_pa {K : PySem.W.Frag} {te : L2.TE} {rest : TS} {D : Ends} {σ : L2.St} {H0 H : Hp} {L : Addr} {cs : List RwP} {c : RwP} {i : Nat} (e4 : σ[i]? = some (some (.ref L))) (S0 : Same H0 H) (nL : H0 L = none) (hL : PlL H L cs) (l : cs.length ≤ 100) (hm : PlR σ H te c)
    (q : ∀ H', Same H0 H' → PlL H' L (cs ++ [c]) → rest D σ H') : tSeq (tDrop (tBM K "list" rAppend (tVar i) (tCons te tNil))) rest D σ H := by
  obtain ⟨xs, hx, pr⟩ := id hL
  refine ⟨_, e4, .inl ⟨rfl, _, .of hx⟩, ?_⟩
  refine hm H _ (.refl _) fun x H1 S hx1 => ?_
  have big : (1000 : Nat) ≤ sizeLine := by decide
  have hL1 := S _ _ hx
  refine ⟨L, _, _, rfl, rfl, hL1, by rw [List.length_map, Paired.length pr]; omega, q _ (upd_far nL (S0.trans S)) ⟨xs ++ [x], by rw [upd_same, List.map_append]; rfl, ?_⟩⟩
  exact paired_cat (paired_mono (fun _ _ z => pln_put hL1 (z.same S)) pr) (.cons (pln_put hL1 hx1) .nil)
end K0
set_option maxRecDepth 100000
set_option maxHeartbeats 1000000
namespace K0
open PySem L2 FM He
def int3 : List PyData → Bool
  | [.int _, .int _, .int _] => true
  | _ => false
mutual
def nb : PyData → Bool
  | .none => true
  | .bool _ => true
  | .int _ => true
  | .str _ => true
  | .list ds => !int3 ds && nbs ds
  | .tuple ds => nbs ds
  | .dict _ => true
def nbs : List PyData → Bool
  | [] => true
  | d :: ds => nb d && nbs ds
end
theorem sqT_keep {K : PySem.W.Frag} {b a : Addr} {H H' : Hp} {xs : List V} (bag : BagAt b H) (k : Keep (J b) H H') (h : SqT K H a xs) : SqT K H' a xs := by
  obtain ⟨g, s, c, hb⟩ := bag
  rcases h with h | h
  · refine .inl ?_
    rcases h with h | ⟨od, h⟩
    · exact .inl (k _ _ (fun z => by rw [show a = b from z, hb] at h; cases h) h)
    · exact .inr ⟨od, k _ _ (fun z => by rw [show a = b from z, hb] at h; cases h) h⟩
  · exact .inr h
theorem dpAll_int3 {K : PySem.W.Frag} {H : Hp} {g s c : Int} {ds : List PyData} (h : DpAll K H [.int g, .int s, .int c] ds) : int3 ds = true := by
  cases h with | cons p0 h => cases h with | cons p1 h => cases h with | cons p2 h => cases h with | nil =>
    cases p0
    cases p1
    cases p2
    rfl
theorem sqL_keep {K : PySem.W.Frag} {b a : Addr} {H H' : Hp} {xs : List V} {ds : List PyData} (bag : BagAt b H) (k : Keep (J b) H H') (n : int3 ds = false) (h : SqL K H a xs) (da : DpAll K H xs ds) : SqL K H' a xs := by
  obtain ⟨g, s, c, hb⟩ := bag
  rcases h with h | h
  · refine .inl ?_
    rcases h with h | ⟨od, h⟩
    · refine .inl (k _ _ (fun z => ?_) h)
      rw [show a = b from z, hb] at h
      have e := HO.lst.inj (Option.some.inj h)
      rw [← e] at da
      rw [dpAll_int3 da] at n
      cases n
    · refine .inr ⟨od, k _ _ (fun z => ?_) h⟩
      rw [show a = b from z, hb] at h
      cases h
  · exact .inr h
mutual
theorem Dp.keepB {K : PySem.W.Frag} {b : Addr} {H H' : Hp} (bag : BagAt b H) (k : Keep (J b) H H') : ∀ {v : V} {d : PyData}, nb d = true → Dp K H v d → Dp K H' v d
  | _, .none, _, .non => .non
  | _, .bool _, _, .bl b => .bl b
  | _, .int _, _, .int i => .int i
  | _, .str _, _, .str x => .str x
  | _, .list ds, n, .lst h q => by
    rw [nb, Bool.and_eq_true] at n
    exact .lst (sqL_keep bag k (by simpa using n.1) h q) (DpAll.keepB bag k n.2 q)
  | _, .tuple ds, n, .tup h q => by
    rw [nb] at n
    exact .tup (sqT_keep bag k h) (DpAll.keepB bag k n q)
theorem DpAll.keepB {K : PySem.W.Frag} {b : Addr} {H H' : Hp} (bag : BagAt b H) (k : Keep (J b) H H') : ∀ {xs : List V} {ds : List PyData}, nbs ds = true → DpAll K H xs ds → DpAll K H' xs ds
  | _, [], _, .nil => .nil
  | _, d :: ds, n, .cons h q => by
    rw [nbs, Bool.and_eq_true] at n
    exact .cons (Dp.keepB bag k n.1 h) (DpAll.keepB bag k n.2 q)
end
theorem nb_row (e : Edg) : nb (keysD e.row) = true := by
  show nb (.tuple [.int (e.a : Int), .str ⟨#[e.c]⟩, .str e.u, .int (e.b : Int)]) = true
  simp [nb, nbs]
theorem nbs_rows : ∀ es : List Edg, nbs (es.map fun e => keysD e.row) = true
  | [] => by simp [nbs]
  | e :: es => by
    rw [List.map_cons, nbs, nb_row, nbs_rows es]
    rfl
theorem nb_path (s : Nat) (es : List Edg) : nb (pathD s es) = true := by
  unfold pathD
  rw [nb, nbs, nbs, nbs, nb, nb, nbs_rows]
  rfl
end K0
set_option maxRecDepth 100000
set_option maxHeartbeats 8000000
namespace K0
open PySem L2 FM He
theorem gN {i : Nat} {x : V} {σ : L2.St} {H : Hp} {Q : L2.St → Hp → Prop} (h : Q (σ.set i (some x)) H) : gName i x σ H Q := h
/-- behind a statement that says R of what it leaves -/
theorem seq_via {s r : TS} {D : Ends} {σ : L2.St} {H : Hp} (R : L2.St → Hp → Prop) (h : ∀ N : L2.St → Hp → Prop, (∀ σ' H', R σ' H' → N σ' H') → s { D with nx := N } σ H) (k : ∀ σ' H', R σ' H' → r D σ' H') : tSeq s r D σ H := h (r D) k
theorem EdL.app {H : Hp} {L M : Addr} {es fs : List Edg} (ne : L ≠ M) (h : EdL H L es) (g : EdL H M fs) : ∃ xs ys : List V, H L = some (.lst xs) ∧ H M = some (.lst ys) ∧ xs.length = es.length ∧ ys.length = fs.length ∧ EdL (upd H L (.lst (xs ++ ys))) L (es ++ fs) := by
  obtain ⟨ks, a1, a2, a3⟩ := h
  obtain ⟨ls, b1, b2, b3⟩ := g
  refine ⟨_, _, a1, b1, by rw [List.length_map, ← a2, List.length_map], by rw [List.length_map, ← b2, List.length_map], ks ++ ls, by rw [upd_same, List.map_append], by rw [List.map_append, a2, b2], fun z hz => ?_⟩
  have T : ∀ {c xs}, H c = some (.tup xs) → upd H L (.lst ((ks.map fun p => V.ref p.1) ++ (ls.map fun p => V.ref p.1))) c = some (.tup xs) := fun {c xs} q => by
    rw [upd_ne fun e => by rw [e, a1] at q; cases q]
    exact q
  rcases List.mem_append.mp hz with hz | hz
  · exact T (a3 z hz)
  · exact T (b3 z hz)
section
variable {P : Program} {w : World} {K : PySem.W.Frag} {mg : Str → Option Value} {base : Heap}
def spSpl (K : PySem.W.Frag) : Sp := fun vs H Q _ => ∃ (b p : Addr) (C : RwP) (N fr : Nat), vs = [.ref b, .ref p, .int (fr : Nat)] ∧ BagAt b H ∧ C.Ok ∧ C.ed.length ≤ 10 ∧ Lim N C ∧ N ≤ 12 ∧ fr < 12 ∧ C.ed ≠ [] ∧ PlnAt H p C ∧
  ∀ q H' A, Keep (J b) H H' → BagAt b H' → PlnAt H' q A → A.Ok → A.ed.length ≤ 40 → Q (.ref q) H'
theorem ok_law_split {f : Addr} {fd : FuncData} (F : FnP K "_law_split" s__law_split f fd) (T : TP K mg) : FnOk P w K mg base CX0 4 f fd ["_law_bag", "_law_plain", "_law_fresh"] (spSpl K) := by
  obtain ⟨d__law_pick, F__law_pick⟩ := T.f__law_pick
  have G__law_pick := ok_law_pick (P := P) (w := w) (base := base) F__law_pick T
  have b__law_pick : Binds K d__law_pick ["_law_bag", "_law_items"] [] := F__law_pick.bindsN fun _ _ _ _ _ _ us hl => match us, hl with | [_, _], _ => rfl
  refine F.ok sc__law_split (fun vs H Q E h => ?_) (fun cdv A outer s H vs Q E hr h => ?_)
  · obtain ⟨b, p, C, N, fr, rfl, _⟩ := h
    rfl
  · obtain ⟨b, p, C, N, fr, rfl, bag, ok, e40, lim, n12, f12, ne, hp, kont⟩ := h
    have nd := sc__law_split.nd
    have hu64 := hr.units
    have hu1 := Nat.lt_of_le_of_lt (Nat.add_le_add_left (by decide : 1 ≤ 64) _) hu64
    have big : (100000 : Nat) ≤ sizeLine := by decide
    refine ⟨_, PSs.nox (pss_cons (ps_set (i := 3) nd rfl (.inl rfl) (pe_callB (cr_sortedSet2 (w := w) rfl rfl) (by rfl) T.b_sorted (by decide +kernel) (pa_cons (pe_callTy (cr_setLsI2 (K := K) (w := w) rfl rfl rfl) (by rfl) T.b_set (by decide +kernel) (pa_cons (pe_op op_cat (pe_lc (own := [("_law_edge", 4)]) rfl nd (pi_tup (pe_ix ix_seq (pv 1) pe_int (fun _ _ => rfl))) (blkOk_by (own := [("_law_edge", 4)]) (N := ["_law_bag", "_law_plain", "_law_fresh", "_law_rooms", "_law_edge", "_law_room", "_law_edges", "_law_a", "_law_sign", "_law_word", "_law_b", "_law_begin_here", "_law_goals", "_law_goal", "_law_first", "_law_last"]) (sc := defScope s__law_split) (by decide +kernel)) (fun _ _ _ _ _ => (pg_name (i := 4) nd rfl (.inl rfl))) (fun _ _ _ _ _ => pts_nil) (fun _ _ _ _ _ => (pe_ix (ix_seq : IxR _ (rIx K)) (pv 4) pe_int (fun _ _ => rfl)))) (pe_callTy (call_listD rfl) (by rfl) T.b_list (by decide +kernel) (pa_cons (pe_ix ix_seq (pv 1) pe_int (fun _ _ => rfl)) pa_nil))) pa_nil)) pa_nil)))
      (pss_cons (ps_set (i := 5) nd rfl (.inl rfl) (pe_call G__law_pick (hr.mono (by decide)) rfl T.g__law_pick F__law_pick.kp b__law_pick .nil pass0 (pa_cons (pv 0) (pa_cons (pv 3) pa_nil))))
      (pss_cons (ps_set (i := 6) nd rfl (.inl rfl) (pe_lst pa_nil))
      (pss_cons (ps_for PassesOwn.never rfl (pi_tup (pe_ix ix_seq (pv 1) pe_int (fun _ _ => rfl))) (pg_tup (by rfl) (pgs_cons (pg_name (i := 7) nd rfl (.inl rfl)) (pgs_cons (pg_name (i := 8) nd rfl (.inr rfl)) (pgs_cons (pg_name (i := 9) nd rfl (.inr rfl)) (pgs_cons (pg_name (i := 10) nd rfl (.inl rfl)) pgs_nil))))) (pss_one (ps_for PassesOwn.never rfl (pi_list (pe_op op_cat (pe_lst (pa_cons (pv 7) pa_nil)) (pe_op op_rep (pe_lst (pa_cons (pv 2) pa_nil)) (pe_callTy call_intIB (by rfl) T.b_int (by decide +kernel) (pa_cons (pe_cmpR op_eq (pv 7) (pv 5) (nomark _)) pa_nil))))) (pg_name (i := 11) nd rfl (.inr rfl)) (pss_cons (ps_set (i := 12) nd rfl (.inl rfl) (pe_lst (pa_cons (pv 10) pa_nil)))
      (pss_cons (ps_if (pt_cmpR op_eq (pv 10) (pv 5) (nomark _)) (pss_one (ps_set (i := 12) nd rfl (.inl rfl) (pe_call G__law_pick (hr.mono (by decide)) rfl T.g__law_pick F__law_pick.kp b__law_pick .nil pass0 (pa_cons (pv 0) (pa_cons (pe_lst (pa_cons (pe_lst (pa_cons (pv 5) pa_nil)) (pa_cons (pe_lst (pa_cons (pv 2) pa_nil)) (pa_cons (pe_lst (pa_cons (pv 5) (pa_cons (pv 2) pa_nil))) pa_nil)))) pa_nil))))) pss_nil)
      (pss_one (ps_expr (pe_bm PySem.F.plainAttrs_list PySem.F.slot_list_extend PySem.F.type_list_extend mt_extend (pv 6) (pa_cons (pe_lc (own := [("_law_goal", 13)]) rfl nd (pi_list (pv 12)) (blkOk_by (own := [("_law_goal", 13)]) (N := ["_law_bag", "_law_plain", "_law_fresh", "_law_rooms", "_law_edge", "_law_room", "_law_edges", "_law_a", "_law_sign", "_law_word", "_law_b", "_law_begin_here", "_law_goals", "_law_goal", "_law_first", "_law_last"]) (sc := defScope s__law_split) (by decide +kernel)) (fun _ _ _ _ _ => (pg_name (i := 13) nd rfl (.inl rfl))) (fun _ _ _ _ _ => pts_nil) (fun _ _ _ _ _ => (pe_tup (pa_cons (pv 11) (pa_cons (pv 8) (pa_cons (pv 9) (pa_cons (pv 13) pa_nil))))))) pa_nil)))))))))
      (pss_cons (ps_par (i := 14) (j := 15) (by rfl) nd rfl rfl (by decide) rfl rfl (pa_cons (pe_callTy (call_dictP rfl) (by rfl) T.b_dict (by decide +kernel) (pa_cons (LiI.pe_listItems rfl (pe_ix ix_seq (pv 1) pe_int (fun _ _ => rfl)) (by rfl) T.b_list (by decide +kernel)) pa_nil)) (pa_cons (pe_callTy (call_dictP rfl) (by rfl) T.b_dict (by decide +kernel) (pa_cons (LiI.pe_listItems rfl (pe_ix ix_seq (pv 1) pe_int (fun _ _ => rfl)) (by rfl) T.b_list (by decide +kernel)) pa_nil)) pa_nil)) (by rfl))
      (pss_cons (ps_if (pt_cmp (pc_din hu1 (pv 5) (pv 14)) rfl) (pss_one (ps_dput hu1 (pv 14) (pv 2) (pe_dget hu1 (pv 14) (pv 5) (fun _ _ => rfl)) rfl)) pss_nil)
      (pss_cons (ps_if (pt_cmp (pc_din hu1 (pv 5) (pv 15)) rfl) (pss_one (ps_dput hu1 (pv 15) (pv 2) (pe_dget hu1 (pv 15) (pv 5) (fun _ _ => rfl)) rfl)) pss_nil)
      (pss_one (ps_ret (pe_tup (pa_cons (pe_ix ix_seq (pv 1) pe_int (fun _ _ => rfl)) (pa_cons (pv 14) (pa_cons (pe_callTy call_tuple_of (by rfl) T.b_tuple (by decide +kernel) (pa_cons (pe_callB (cr_sortK2 (K := K) (P := P) (w := w) rfl rfl rfl rfl hu64) (by rfl) T.b_sorted (by decide +kernel) (pa_cons (pe_callTy (cr_setOfK2 (K := K) (P := P) (w := w) rfl rfl rfl rfl hu64) (by rfl) T.b_set (by decide +kernel) (pa_cons (pv 6) pa_nil)) pa_nil)) pa_nil)) (pa_cons (pv 15) pa_nil)))))))))))))), ?_⟩
    obtain ⟨a0, t0, b0, h1, h2, h3, ks, h4, h5, h6⟩ := id hp
    have lS := ents_len ok.st
    have lE := ents_len ok.en
    have lk : ks.length = C.ed.length := by rw [← h5, List.length_map]
    -- the rooms
    refine ⟨_, rfl, .inr (.inl ⟨p, _, 2, _, rfl, rfl, .of h1, atI_nat (j := 2) rfl, t0, rfl, ⟨_, .of h4⟩, fun D nD => ?_⟩)⟩
    refine lc_st (σ' := [some (.ref b), some (.ref p), some (.int (fr : Nat)), none, none, none, none, none, none, none, none, none, none, none, none, none]) walk_tup rfl (fun i H' => Same H H' ∧ H' D = some (.lst (((ks.take i).map fun z => z.2.b).map fun (m : Nat) => V.int (m : Nat)))) ⟨same_upd nD, upd_same⟩ (fun i H' _ h => .of (h.1 _ _ h4)) ?_ ?_
    · rintro i y H' HG hi ⟨S, hD⟩ ⟨rfl, hy⟩
      rw [List.getElem?_map] at hy
      obtain ⟨z, hz, rfl⟩ := Option.map_eq_some_iff.mp hy
      have hk := S _ _ (h6 z (List.mem_of_getElem? hz))
      refine ⟨rfl, _, rfl, .inr (.inl ⟨z.1, _, 3, _, rfl, rfl, .of hk, atI_nat (j := 3) rfl, ?_⟩)⟩
      refine ⟨_, hD, by rw [List.length_map, List.length_map, List.length_take]; omega, upd_far nD S, ?_⟩
      rw [upd_same, List.take_add_one, hz, List.map_append, List.map_append]
      rfl
    rintro H2 ⟨S2, hD2⟩
    rw [List.length_map, List.take_length] at hD2
    refine ⟨_, rfl, .inr (.inl ⟨p, _, 1, .ref a0, rfl, rfl, .of (S2 _ _ h1), atI_nat (j := 1) rfl, a0, _, rfl, .inl (S2 _ _ h2), fun l2 nl2 => ?_⟩)⟩
    rw [entW_refs]
    have S3 := same_upd (o := .lst ((C.st.map (·.1)).map fun (m : Nat) => V.int (m : Nat))) nl2
    refine ⟨D, l2, _, _, rfl, rfl, S3 _ _ hD2, upd_same, by rw [List.length_map, List.length_map, List.length_map, List.length_map]; omega, fun L nL => ?_⟩
    rw [← List.map_append]
    have rlt : ∀ m ∈ (ks.map fun z => z.2.b) ++ C.st.map (·.1), m < N := fun m hm => by
      rcases List.mem_append.mp hm with h | h
      · obtain ⟨z, hz, rfl⟩ := List.mem_map.mp h
        exact (lim.ed z.2 (by rw [← h5]; exact List.mem_map.mpr ⟨z, hz, rfl⟩)).2
      · obtain ⟨z, hz, rfl⟩ := List.mem_map.mp h
        exact lim.st z hz
    have rle : ((ks.map fun z => z.2.b) ++ C.st.map (·.1)).length ≤ 52 := by rw [List.length_append, List.length_map, List.length_map]; omega
    have rne : ∃ m, m ∈ (ks.map fun z => z.2.b) ++ C.st.map (·.1) := by
      cases ks with
      | nil => exact absurd h5.symm ne
      | cons z _ => exact ⟨z.2.b, by simp⟩
    generalize (ks.map fun z => z.2.b) ++ C.st.map (·.1) = rs at rlt rle rne ⊢
    have S4 := S3.trans (same_upd (o := .lst (rs.map fun (m : Nat) => V.int (m : Nat))) nL)
    have hL : upd (upd H2 l2 (.lst ((C.st.map (·.1)).map fun (m : Nat) => V.int (m : Nat)))) L (.lst (rs.map fun (m : Nat) => V.int (m : Nat))) L = some (.lst (rs.map fun (m : Nat) => V.int (m : Nat))) := upd_same
    generalize upd (upd H2 l2 (.lst ((C.st.map (·.1)).map fun (m : Nat) => V.int (m : Nat)))) L (.lst (rs.map fun (m : Nat) => V.int (m : Nat))) = H4 at S4 hL ⊢
    refine ⟨L, rs.map fun (m : Nat) => (m : Int), rfl, by rw [List.map_map]; exact .of hL, by rw [List.length_map]; omega, fun s1 n1 ns1 nB => ?_⟩
    have n64 : n1 < 64 := by
      rw [List.length_map] at nB
      omega
    refine ⟨s1, _, n1, rfl, upd_same, n64, fun (ns : List Int) q pw mem2 nn nq => ?_⟩
    obtain ⟨ns, rfl, pw, mem2⟩ := rise_nats pw mem2
    have rin : ∀ m ∈ ns, m < N := fun m hm => rlt m ((mem2 m).mp hm)
    obtain ⟨m0, hm0⟩ := rne
    have nne : 0 < ns.length := List.length_pos_of_mem ((mem2 m0).mpr hm0)
    have nl : ns.length ≤ 12 := Nat.le_trans (rise_len pw rin) n12
    have SA := same_upd (o := SetO w s1 (fun j => decide (j ∈ rs.map fun (m : Nat) => (m : Int))) n1) ns1
    have S6 := (S2.trans S4).trans (SA.trans (same_upd (o := .lst ((ns.map fun (m : Nat) => (m : Int)).map V.int)) nq))
    have bag6 := bag.same S6
    have qb : q ≠ b := bag_ne ((bag.same (S2.trans S4)).same SA) nq
    obtain ⟨gb, sb, cb, hbb, i1, i2, l0, l1, kk⟩ := pick_cond (K := K) bag6 upd_same qb (by rw [List.length_map, List.length_map]; exact nne) (by rw [List.length_map, List.length_map]; omega)
    refine ⟨_, rfl, _, rfl, b, gb, sb, cb, .ref q, _, rfl, hbb, i1, i2, l0, l1, fun y g' c' hy => ?_⟩
    obtain ⟨k7, bag7, hq7⟩ := kk g' c'
    generalize upd (upd (upd H4 s1 (SetO w s1 (fun j => decide (j ∈ rs.map fun (m : Nat) => (m : Int))) n1)) q (.lst ((ns.map fun (m : Nat) => (m : Int)).map V.int))) b (bagO g' sb c') = H7 at k7 bag7 hq7 ⊢
    clear kk i1 i2 l0 l1 hbb
    obtain ⟨r', hr', rfl⟩ := List.mem_map.mp hy
    obtain ⟨r, hr, rfl⟩ := List.mem_map.mp hr'
    have rN := rin r hr
    have KH : Keep (J b) H H7 := (Keep.of S6).trans k7
    clear k7 hq7 hy hr' bag6 qb SA S6 nn nq nB ns1 n64 hL S4 rle rlt hD2 S2 S3 nL nl2 hm0
    have hp8 := hp.keep bag KH
    obtain ⟨a0', t0', b0', h1', h2', h3', ks', h4', h5', h6'⟩ := id hp8
    clear h1 h2 h3 h4 h5 h6 lk
    have lk : ks'.length = C.ed.length := by rw [← h5', List.length_map]
    refine ⟨by show 0 ≤ _; omega, fun L nL => ?_⟩
    have Lb : L ≠ b := bag_ne bag7 nL
    have SL := same_upd (o := .lst []) nL
    have hL : upd H7 L (.lst []) L = some (.lst (([] : List (Addr × Edg)).map fun p => V.ref p.1)) := upd_same
    have bag9 := bag7.same SL
    generalize upd H7 L (.lst []) = H9 at SL hL bag9 ⊢
    have h1' := SL _ _ h1'
    have h2' := SL _ _ h2'
    have h3' := SL _ _ h3'
    have h4' := SL _ _ h4'
    have h6' : ∀ z ∈ ks', H9 z.1 = some (.tup (z.2.row.map kV)) := fun z hz => SL _ _ (h6' z hz)
    have nJ : ∀ {a : Addr} {o : HO}, H9 a = some o → (∀ xs, o ≠ .lst xs) → ¬ J2 b L a := fun {a o} h n z => z.elim (fun e => by
      obtain ⟨_, _, _, hb⟩ := bag9
      rw [e, hb] at h
      cases h
      exact n _ rfl) fun e => by
      rw [e, hL] at h
      cases h
      exact n _ rfl
    have nT : ∀ {xs ys : List V}, (HO.tup xs) ≠ .lst ys := fun z => by cases z
    have num : ∀ c : Bool, ∃ n : Nat, n ≤ 1 ∧ (V.int (if c = true then 1 else 0) : V) = .int (n : Nat) := fun c => by
      cases c
      · exact ⟨0, by decide, rfl⟩
      · exact ⟨1, by decide, rfl⟩
    refine ⟨_, rfl, .inr (.inl ⟨p, _, 2, _, rfl, rfl, .of h1', atI_nat (j := 2) rfl, t0', rfl, ⟨_, .of h4'⟩, ?_⟩)⟩
    refine for_it walk_tup (fun i σ H' => ∃ (u7 u8 u9 ua ub uc : Option V) (es : List Edg), σ = [some (.ref b), some (.ref p), some (.int (fr : Nat)), some (.ref q), none, some (.int (r : Nat)), some (.ref L), u7, u8, u9, ua, ub, uc, none, none, none] ∧ Keep (J2 b L) H9 H' ∧ BagAt b H' ∧ EdL H' L es ∧ es.length ≤ 4 * i ∧ ∀ e ∈ es, EdgOk C.sg e)
      ⟨_, _, _, _, _, _, [], rfl, Keep.refl, bag9, ⟨[], hL, rfl, fun p hp => by cases hp⟩, Nat.le_refl _, fun e he => by cases he⟩ (fun _ _ _ _ h => by obtain ⟨_, _, _, _, _, _, _, _, h, _⟩ := h; exact .of (h _ _ (nJ h4' fun _ => nT) h4')) ?_ ?_
    · rintro i y σ HB HB' hi ⟨u7, u8, u9, ua, ub, uc, es, rfl, kB, bagB, E1, l1, g1⟩ ⟨rfl, hy⟩
      rw [List.getElem?_map] at hy
      obtain ⟨z, hz, rfl⟩ := Option.map_eq_some_iff.mp hy
      have zm := List.mem_of_getElem? hz
      have hk := kB _ _ (nJ (h6' z zm) fun _ => nT) (h6' z zm)
      have zC : z.2 ∈ C.ed := by rw [← h5']; exact List.mem_map.mpr ⟨z, zm, rfl⟩
      have zok := ok.ed _ zC
      have il : i < 10 := by
        have := hi
        rw [List.length_map] at this
        omega
      have LB : ∃ xs, HB' L = some (.lst xs) := by
        obtain ⟨ks, e, _⟩ := id E1
        exact ⟨_, e⟩
      refine ⟨z.1, _, rfl, .of hk, rfl, _, _, rfl, _, _, rfl, _, _, rfl, _, _, rfl, rfl, ?_⟩
      refine ⟨_, rfl, by show 1 ≤ _; omega, fun M1 nM1 => ?_⟩
      refine ⟨_, rfl, by show 1 ≤ _; omega, fun M2 nM2 => ?_⟩
      obtain ⟨cA, hcA⟩ : ∃ c, decide (V.int (z.2.a : Nat) = V.int (r : Nat)) = c := ⟨_, rfl⟩
      obtain ⟨nA, nA1, eA⟩ := num cA
      refine ⟨_, rfl, _, rfl, rfl, .inr ⟨_, rfl, ?_⟩⟩
      refine ⟨M2, (nA : Nat), _, rfl, (by show V.int (if decide (V.int (z.2.a : Nat) = V.int (r : Nat)) = true then 1 else 0) = _; rw [hcA]; exact eA), upd_same, by omega, by omega, by show 1 * _ ≤ _; rw [Int.toNat_natCast]; omega, fun M3 nM3 => ?_⟩
      refine ⟨M1, M3, _, _, rfl, rfl, same_upd nM3 _ _ (same_upd nM2 _ _ upd_same), upd_same, ?_, fun W nW => ?_⟩
      · rw [Int.toNat_natCast]
        rcases (show nA = 0 ∨ nA = 1 by omega) with e | e
        · rw [e]; show 1 + 0 ≤ _; omega
        · rw [e]; show 1 + 1 ≤ _; omega
      have eW : [V.int (z.2.a : Nat)] ++ (List.replicate ((nA : Nat) : Int).toNat [V.int (fr : Nat)]).flatten = (z.2.a :: List.replicate nA fr).map fun (m : Nat) => V.int (m : Nat) := by
        rw [Int.toNat_natCast]
        rcases (show nA = 0 ∨ nA = 1 by omega) with e | e
        · rw [e]; rfl
        · rw [e]; rfl
      have b12 : ∀ m ∈ z.2.a :: List.replicate nA fr, m < 12 := fun m hm => by
        rcases List.mem_cons.mp hm with e | h
        · rw [e]; exact zok.a
        · rw [(List.mem_replicate.mp h).2]; exact f12
      have bl : (z.2.a :: List.replicate nA fr).length ≤ 2 := by rw [List.length_cons, List.length_replicate]; omega
      have SW0 := (same_upd (o := .lst [V.int (z.2.a : Nat)]) nM1).trans ((same_upd (o := .lst [V.int (fr : Nat)]) nM2).trans (same_upd (o := .lst (List.replicate ((nA : Nat) : Int).toNat [V.int (fr : Nat)]).flatten) nM3))
      have SW := SW0.trans (same_upd (o := .lst ([V.int (z.2.a : Nat)] ++ (List.replicate ((nA : Nat) : Int).toNat [V.int (fr : Nat)]).flatten)) nW)
      have Wb : W ≠ b := bag_ne (bagB.same SW0) nW
      have WL : W ≠ L := fun e => by
        obtain ⟨xs, hx⟩ := LB
        have := SW0 _ _ hx
        rw [← e] at this
        exact absurd this (by rw [show _ = none from nW]; exact fun z => nomatch z)
      have hW : upd (upd (upd (upd HB' M1 (.lst [V.int (z.2.a : Nat)])) M2 (.lst [V.int (fr : Nat)])) M3 (.lst (List.replicate ((nA : Nat) : Int).toNat [V.int (fr : Nat)]).flatten)) W (.lst ([V.int (z.2.a : Nat)] ++ (List.replicate ((nA : Nat) : Int).toNat [V.int (fr : Nat)]).flatten)) W = some (.lst ((z.2.a :: List.replicate nA fr).map fun (m : Nat) => V.int (m : Nat))) := by rw [upd_same, eW]
      generalize z.2.a :: List.replicate nA fr = bs at b12 bl hW
      have bagW := bagB.same SW
      have EW := E1.same SW
      have kW := kB.trans (Keep.of SW)
      refine ⟨W, rfl, ⟨_, .of hW⟩, ?_⟩
      refine for_it walk_list (fun j σ H' => ∃ (ub uc : Option V) (es' : List Edg), σ = [some (.ref b), some (.ref p), some (.int (fr : Nat)), some (.ref q), none, some (.int (r : Nat)), some (.ref L), some (.int (z.2.a : Nat)), some (.str ⟨#[z.2.c]⟩), some (.str z.2.u), some (.int (z.2.b : Nat)), ub, uc, none, none, none] ∧ Keep (J2 b L) H9 H' ∧ BagAt b H' ∧ EdL H' L es' ∧ H' W = some (.lst (bs.map fun (m : Nat) => V.int (m : Nat))) ∧ es'.length ≤ es.length + 2 * j ∧ ∀ e ∈ es', EdgOk C.sg e)
        ⟨_, _, es, rfl, kW, bagW, EW, hW, Nat.le_refl _, g1⟩ (fun _ _ _ _ h => by obtain ⟨_, _, _, _, _, _, _, h, _⟩ := h; exact .of h) ?_ ?_
      · rintro j y σ HC HC' hj ⟨ub, uc, es', rfl, kC, bagC, E2, hWC, l2, g2⟩ ⟨rfl, hy⟩
        rw [List.getElem?_map] at hy
        obtain ⟨m, hm, rfl⟩ := Option.map_eq_some_iff.mp hy
        have m12 := b12 m (List.mem_of_getElem? hm)
        have LC : ∃ xs, HC' L = some (.lst xs) := by
          obtain ⟨ks, e, _⟩ := id E2
          exact ⟨_, e⟩
        refine ⟨_, rfl, by show 1 ≤ _; omega, fun G0 nG0 => ?_⟩
        have SG := same_upd (o := .lst [V.int (z.2.b : Nat)]) nG0
        have G0L : G0 ≠ L := fun e => by
          obtain ⟨xs, hx⟩ := LC
          rw [e, hx] at nG0
          cases nG0
        refine gN ?_
        with_reducible conv => whnf
        show tSeq (tIfS _ _ _) _ _ _ _
        refine seq_via (fun σ' H' => ∃ (G : Addr) (gs : List Nat), σ' = [some (.ref b), some (.ref p), some (.int (fr : Nat)), some (.ref q), none, some (.int (r : Nat)), some (.ref L), some (.int (z.2.a : Nat)), some (.str ⟨#[z.2.c]⟩), some (.str z.2.u), some (.int (z.2.b : Nat)), some (.int (m : Nat)), some (.ref G), none, none, none] ∧ Keep (J2 b L) H9 H' ∧ BagAt b H' ∧ EdL H' L es' ∧ H' W = some (.lst (bs.map fun (m : Nat) => V.int (m : Nat))) ∧ H' G = some (.lst (gs.map fun (m : Nat) => V.int (m : Nat))) ∧ G ≠ L ∧ gs.length ≤ 2 ∧ ∀ m ∈ gs, m < 12) (fun N' kN => ?_) ?_
        · refine ⟨_, rfl, _, rfl, rfl, _, rfl, ?_⟩
          obtain ⟨cC, hcC⟩ : ∃ c, decide (V.int (z.2.b : Nat) = V.int (r : Nat)) = c := ⟨_, rfl⟩
          refine iteB hcC (fun _ => ?_) fun _ => ?_
          · refine ⟨_, rfl, _, rfl, by show 1 ≤ _; omega, fun x1 nx1 => ⟨_, rfl, by show 1 ≤ _; omega, fun x2 nx2 => ⟨_, rfl, _, rfl, by show 2 ≤ _; omega, fun x3 nx3 => ⟨by show 3 ≤ _; omega, fun V0 nV => ?_⟩⟩⟩⟩
            have S1 := same_upd (o := .lst [V.int (r : Nat)]) nx1
            have S2 := same_upd (o := .lst [V.int (fr : Nat)]) nx2
            have S3 := same_upd (o := .lst [V.int (r : Nat), V.int (fr : Nat)]) nx3
            have S4 := same_upd (o := .lst [V.ref x1, V.ref x2, V.ref x3]) nV
            have S123 := SG.trans (S1.trans (S2.trans S3))
            have bagV := bagC.same (S123.trans S4)
            have off : ∀ {x : Addr}, HC' x = none → x ≠ L := fun {x} n e => by
              obtain ⟨xs, hx⟩ := LC
              rw [e, hx] at n
              cases n
            have offb : ∀ {x : Addr}, HC' x = none → x ≠ b := fun {x} n => bag_ne bagC n
            have c1 : HC' x1 = none := SG.free nx1
            have c2 : HC' x2 = none := SG.free (S1.free nx2)
            have c3 : HC' x3 = none := SG.free (S1.free (S2.free nx3))
            have cV : HC' V0 = none := S123.free nV
            obtain ⟨gb, sb, cb, hbb, i1, i2, l0, l1, kk⟩ := pick_cond (K := K) bagV (upd_same (o := .lst [V.ref x1, V.ref x2, V.ref x3])) (offb cV) (by show 0 < 3; decide) (by show 3 < 1000000; decide)
            refine ⟨b, gb, sb, cb, .ref V0, _, rfl, hbb, i1, i2, l0, l1, fun y g' c' hy => ?_⟩
            obtain ⟨kz, bagz, _⟩ := kk g' c'
            generalize upd (upd (upd (upd (upd (upd HC' G0 (.lst [V.int (z.2.b : Nat)])) x1 (.lst [V.int (r : Nat)])) x2 (.lst [V.int (fr : Nat)])) x3 (.lst [V.int (r : Nat), V.int (fr : Nat)])) V0 (.lst [V.ref x1, V.ref x2, V.ref x3])) b (bagO g' sb c') = HZ at kz bagz ⊢
            have kF : Keep (J2 b L) H9 HZ := (kC.trans (Keep.of (S123.trans S4))).trans (Keep.more (fun a (z : J b a) => (.inl z : J2 b L a)) kz)
            have EZ := (E2.same (S123.trans S4)).keep bagV Lb kz
            have WZ := kz _ _ Wb ((S123.trans S4) _ _ hWC)
            rcases List.mem_cons.mp hy with rfl | hy
            · exact kN _ _ ⟨x1, [r], rfl, kF, bagz, EZ, WZ, kz _ _ (offb c1) (S4 _ _ (S3 _ _ (S2 _ _ upd_same))), off c1, (by show 1 ≤ 2; decide), fun m hm => by rw [List.mem_singleton.mp hm]; omega⟩
            rcases List.mem_cons.mp hy with rfl | hy
            · exact kN _ _ ⟨x2, [fr], rfl, kF, bagz, EZ, WZ, kz _ _ (offb c2) (S4 _ _ (S3 _ _ upd_same)), off c2, (by show 1 ≤ 2; decide), fun m hm => by rw [List.mem_singleton.mp hm]; exact f12⟩
            · rw [List.mem_singleton.mp hy]
              exact kN _ _ ⟨x3, [r, fr], rfl, kF, bagz, EZ, WZ, kz _ _ (offb c3) (S4 _ _ upd_same), off c3, Nat.le_refl _, fun m hm => by
                rcases List.mem_cons.mp hm with e | hm
                · rw [e]; omega
                · rw [List.mem_singleton.mp hm]; exact f12⟩
          · exact kN _ _ ⟨G0, [z.2.b], rfl, kC.trans (Keep.of SG), bagC.same SG, E2.same SG, SG _ _ hWC, upd_same, G0L, (by show 1 ≤ 2; decide), fun m hm => by rw [List.mem_singleton.mp hm]; exact zok.b⟩
        · rintro σ' HD ⟨G, gs, rfl, kD, bagD, ED, hWD, hG, GL, lg, g12⟩
          obtain ⟨lks, hLD, lk2, lk3⟩ := id ED
          refine ⟨_, rfl, .inl ⟨rfl, _, .of hLD⟩, ?_⟩
          refine ⟨_, rfl, G, rfl, ⟨_, .of hG⟩, fun D nD => ?_⟩
          have DL : D ≠ L := ne_of_none hLD nD |>.symm
          refine lc_st (σ' := [some (.ref b), some (.ref p), some (.int (fr : Nat)), some (.ref q), none, some (.int (r : Nat)), some (.ref L), some (.int (z.2.a : Nat)), some (.str ⟨#[z.2.c]⟩), some (.str z.2.u), some (.int (z.2.b : Nat)), some (.int (m : Nat)), some (.ref G), none, none, none]) walk_list rfl (fun i H' => Same HD H' ∧ EdL H' D ((gs.take i).map fun g => ⟨m, z.2.c, z.2.u, g⟩)) ⟨same_upd nD, [], upd_same, rfl, fun p hp => by cases hp⟩ (fun i H' _ h => .of (h.1 _ _ hG)) ?_ ?_
          · rintro k y H' HG hk2 ⟨S, cs, c1, c2, c3⟩ ⟨rfl, hy⟩
            rw [List.getElem?_map] at hy
            obtain ⟨g, hg, rfl⟩ := Option.map_eq_some_iff.mp hy
            have cl : cs.length ≤ 2 := by
              have := congrArg List.length c2
              rw [List.length_map, List.length_map, List.length_take] at this
              omega
            refine ⟨rfl, _, rfl, _, rfl, _, rfl, _, rfl, by show 4 ≤ _; omega, fun nb nnb => ?_⟩
            have SB := same_upd (o := .tup [.int (m : Nat), .str ⟨#[z.2.c]⟩, .str z.2.u, .int (g : Nat)]) nnb
            refine ⟨_, SB _ _ c1, by rw [List.length_map]; omega, upd_far nD (S.trans SB), ?_⟩
            rw [List.take_add_one, hg]
            show EdL _ D (List.map _ (gs.take k ++ [g]))
            rw [List.map_append]
            exact EdL.push (SB _ _ c1) c2 (fun p hp => SB _ _ (c3 p hp)) upd_same
          rintro HE ⟨SE, hDE⟩
          rw [List.length_map, List.take_length] at hDE
          obtain ⟨xs, ys, hx, hy2, lx, ly, EF⟩ := EdL.app DL.symm (ED.same SE) hDE
          rw [List.length_map] at ly
          have jl : j < 2 := by
            have := hj
            rw [List.length_map] at this
            omega
          refine ⟨L, D, xs, ys, rfl, rfl, hx, hy2, by omega, ?_⟩
          refine ⟨_, _, _, rfl, (kD.trans (Keep.of SE)).trans (Keep.upd (.inr rfl)), ?_, EF, ?_, ?_, fun e he => ?_⟩
          · obtain ⟨g', s', c', e⟩ := bagD.same SE
            exact ⟨g', s', c', by rw [upd_ne Lb.symm]; exact e⟩
          · rw [upd_ne WL]
            exact SE _ _ hWD
          · rw [List.length_append, List.length_map]
            omega
          · rcases List.mem_append.mp he with he | he
            · exact g2 e he
            · obtain ⟨g, hg, rfl⟩ := List.mem_map.mp he
              exact ⟨m12, g12 g hg, zok.c, zok.u, zok.len⟩
      · rintro σ HC ⟨ub, uc, es', rfl, kC, bagC, E2, hWC, l2, g2⟩
        rw [List.length_map] at l2
        exact ⟨_, _, _, _, _, _, es', rfl, kC, bagC, E2, by omega, g2⟩
    · rintro σ HB ⟨u7, u8, u9, ua, ub, uc, es, rfl, kB, bagB, E1, l1, g1⟩
      rw [List.length_map, lk] at l1
      have nD : ∀ {xs ys : List V} {kvs : List (Key × V)}, (HO.dK kvs) ≠ .lst ys := fun z => by cases z
      have f1 := kB _ _ (nJ h1' fun _ => nT) h1'
      have f2 := kB _ _ (nJ h2' fun _ z => by cases z) h2'
      have f3 := kB _ _ (nJ h3' fun _ z => by cases z) h3'
      have KHB : Keep (J b) H HB := keep_far (KH.trans (Keep.of SL)) (by
        cases e : H L with
        | none => rfl
        | some o =>
          have := KH _ _ Lb e
          rw [nL] at this
          cases this) kB
      refine ⟨_, rfl, .inr (.inl ⟨p, _, 1, _, rfl, rfl, .of f1, atI_nat (j := 1) rfl, a0', _, rfl, f2, fun H1 M ts S1 nM nts Mts hM pr1 => ?_⟩)⟩
      have S1 : Same HB H1 := S1
      refine ⟨M, ts, _, rfl, .of hM, pairs_up (Same.refl _) pr1, fun da nda => ?_⟩
      rw [merge_ent ok.st]
      have SA := S1.trans (same_upd (o := .dK (entW C.st)) nda)
      have hda : upd H1 da (.dK (entW C.st)) da = some (.dK (entW C.st)) := upd_same
      have nda0 : HB da = none := S1.free nda
      generalize upd H1 da (.dK (entW C.st)) = HD at SA hda ⊢
      clear S1 nM nts Mts hM pr1 nda
      refine ⟨_, rfl, .inr (.inl ⟨p, _, 3, _, rfl, rfl, .of (SA _ _ f1), atI_nat (j := 3) rfl, b0', _, rfl, SA _ _ f3, fun H1 M ts S1 nM nts Mts hM pr1 => ?_⟩)⟩
      have S1 : Same HD H1 := S1
      refine ⟨M, ts, _, rfl, .of hM, pairs_up (Same.refl _) pr1, fun db ndb => ?_⟩
      rw [merge_ent ok.en]
      have SE := S1.trans (same_upd (o := .dK (entW C.en)) ndb)
      have hdb : upd H1 db (.dK (entW C.en)) db = some (.dK (entW C.en)) := upd_same
      have dab : da ≠ db := ne_of_none (S1 _ _ hda) ndb
      have ndb0 : HB db = none := SA.free (S1.free ndb)
      have hda := SE _ _ hda
      generalize upd H1 db (.dK (entW C.en)) = HE at SE hdb hda ⊢
      clear S1 nM nts Mts hM pr1 ndb
      have SBE := SA.trans SE
      refine ⟨_, _, rfl, ?_⟩
      refine if_put (i := 5) (j := 14) (k := 2) rfl rfl rfl hda ok.st f12 (fun u hu gu => ⟨u, ok.st.word _ hu, fun Q kq => ⟨_, rfl, _, rfl, da, _, rfl, gu, kq⟩⟩) fun st' okS' inS' => ?_
      have hdb2 : upd HE da (.dK (entW st')) db = some (.dK (entW C.en)) := by rw [upd_ne dab.symm]; exact hdb
      refine if_put (i := 5) (j := 15) (k := 2) rfl rfl rfl hdb2 ok.en f12 (fun u hu gu => ⟨u, ok.en.word _ hu, fun Q kq => ⟨_, rfl, _, rfl, db, _, rfl, gu, kq⟩⟩) fun en' okE' inE' => ?_
      have SF : Same HB (upd (upd HE da (.dK (entW st'))) db (.dK (entW en'))) := upd_far ndb0 (upd_far nda0 SBE)
      have hdaF : upd (upd HE da (.dK (entW st'))) db (.dK (entW en')) da = some (.dK (entW st')) := by rw [upd_ne dab]; exact upd_same
      have hdbF : upd (upd HE da (.dK (entW st'))) db (.dK (entW en')) db = some (.dK (entW en')) := upd_same
      generalize upd (upd HE da (.dK (entW st'))) db (.dK (entW en')) = HF at SF hdaF hdbF ⊢
      obtain ⟨kE, x1, x2, x3⟩ := E1.same SF
      have kl : kE.length ≤ 40 := by
        have := congrArg List.length x2
        rw [List.length_map] at this
        omega
      have f1 := SF _ _ f1
      refine ⟨_, rfl, .inr (.inl ⟨p, _, 0, _, rfl, rfl, .of f1, atI_nat (j := 0) rfl, ?_⟩)⟩
      refine ⟨_, rfl, _, rfl, L, kE.map fun q => (q.1, q.2.row), rfl, by rw [List.map_map]; exact .of x1, fun x hx => ?_, by rw [List.length_map]; omega, fun qs L9 nqs sub all ndL => ?_⟩
      · obtain ⟨q, hq, rfl⟩ := List.mem_map.mp hx
        exact x3 q hq
      obtain ⟨L0, rfl, sub0⟩ := sub_map (fun q : Addr × Edg => (q.1, q.2.row)) L9 kE sub
      have SB := same_upd (o := SetKO P w qs (L0.map fun q => (q.1, q.2.row))) nqs
      have lL : L0.length ≤ 40 := by
        have := ndL.length_le_of_subset (l₂ := (kE.map fun q => (q.1, q.2.row)).map (·.2)) fun x hx => by
          obtain ⟨q, hq, rfl⟩ := List.mem_map.mp hx
          exact List.mem_map.mpr ⟨q, sub q hq, rfl⟩
        rw [List.length_map, List.length_map, List.length_map, List.length_map] at this
        omega
      refine ⟨qs, L0.map fun q => (q.1, q.2.row), rfl, upd_same, fun x hx => ?_, ?_, by rw [List.length_map]; omega, fun L' q2 pmL nq2 => ?_⟩
      · obtain ⟨q, hq, rfl⟩ := List.mem_map.mp hx
        exact ⟨SB _ _ (x3 q (sub0 q hq)), fun z => by cases z⟩
      · refine KForm.alike ?_
        have := row_form (L0.map (·.2))
        rw [List.map_map] at this
        rw [List.map_map]
        exact this
      obtain ⟨L1, pm1, e1⟩ := perm_map (fun q : Addr × Edg => (q.1, q.2.row)) ((byKey_perm L').trans pmL) L0 rfl
      have er : ((byKey L').map fun q => V.ref q.1) = L1.map fun q => V.ref q.1 := by
        rw [e1, List.map_map]
        rfl
      have SC := same_upd (o := .lst ((byKey L').map fun q => V.ref q.1)) nq2
      rw [er] at SC ⊢
      have hqC : upd (upd HF qs (SetKO P w qs (L0.map fun q => (q.1, q.2.row)))) q2 (.lst (L1.map fun q => V.ref q.1)) q2 = some (.lst (L1.map fun q => V.ref q.1)) := upd_same
      have S3 := SB.trans SC
      have sub1 : ∀ q ∈ L1, q ∈ kE := fun q hq => sub0 q (pm1.mem_iff.mp hq)
      generalize upd (upd HF qs (SetKO P w qs (L0.map fun q => (q.1, q.2.row)))) q2 (.lst (L1.map fun q => V.ref q.1)) = HG at hqC S3 ⊢
      refine ⟨q2, _, rfl, .inl ⟨.of hqC, fun te nte => ?_⟩⟩
      have ST := same_upd (o := .tup (L1.map fun q => V.ref q.1)) nte
      have hte : upd HG te (.tup (L1.map fun q => V.ref q.1)) te = some (.tup (L1.map fun q => V.ref q.1)) := upd_same
      have S4 := S3.trans ST
      refine ⟨_, rfl, by show 4 ≤ _; omega, fun x nx => ?_⟩
      have SX := same_upd (o := .tup [.str (sgTxt C.sg), .ref da, .ref te, .ref db]) nx
      have S5 := S4.trans SX
      refine kont x _ ⟨C.sg, st', L1.map (·.2), en'⟩ (KHB.trans (Keep.of (SF.trans S5))) (bagB.same (SF.trans S5)) ⟨da, te, db, upd_same, S5 _ _ hdaF, S5 _ _ hdbF, L1, SX _ _ hte, rfl, fun z hz => S5 _ _ (x3 z (sub1 z hz))⟩
        ⟨ok.sg, okS', fun e he => ?_, ?_, okE'⟩ ?_
      · obtain ⟨z, hz, rfl⟩ := List.mem_map.mp he
        exact g1 _ (by rw [← x2]; exact List.mem_map.mpr ⟨z, sub1 z hz, rfl⟩)
      · show (L1.map (·.2)).length ≤ 63
        rw [List.length_map, pm1.length_eq]
        omega
      · show (L1.map (·.2)).length ≤ 40
        rw [List.length_map, pm1.length_eq]
        exact lL
end
end K0
set_option maxRecDepth 100000
set_option maxHeartbeats 2000000
namespace FM
open PySem PySem.Spec PyProof.Rows L2
section
variable {X : Cx}
def rSortDK : List V → Hp → VK → Prop := fun vs H Q => ∃ (d : Addr) (kvs : List (Key × V)) (ns : List Nat), vs = [.ref d] ∧ Rd H d (.dK kvs) ∧ kvs.map (·.1) = ns.map (fun (n : Nat) => (.inl (n : Int) : Key)) ∧ kvs.length ≤ 1000 ∧
  ∀ (zs : List Nat) q, H q = none → zs.Perm ns → Q (.ref q) (upd H q (.lst (zs.map fun (n : Nat) => V.int (n : Int))))
theorem cr_sortDK (hc : X.calm = true) (hu : X.A.units + 64 < cLine) : CallR X (.builtin "sorted") rSortDK := by
  intro pins s σ H xs us Q I r h
  obtain ⟨d, kvs, ns, rfl, hd, ek, few, q⟩ := h
  obtain ⟨u, rfl, rx⟩ := r.one
  cases rx
  obtain ⟨z, lo, dvs, rel, dd⟩ := dk_rd I.hok hd
  obtain ⟨ep, hat⟩ := dd.dictAt
  have ekv : (dvs.map fun p => kV p.1) = ns.map fun (n : Nat) => V.int (n : Int) := by
    have e := congrArg (List.map kV) (rel.keys.symm.trans ek)
    rw [List.map_map, List.map_map] at e
    exact e
  have lens : ns.length = kvs.length := by
    have := congrArg List.length ek
    rw [List.length_map, List.length_map] at this
    omega
  have l2 : dvs.length = kvs.length := rel.length.symm
  have big : (1000 : Nat) ≤ sizeLine := by decide
  refine Calls.call_function_entry kind_sorted plain_sorted entry_sorted (args_sorted1 _) ?_
  unfold Builtin.«sorted»
  refine wpAny_bind (m := checkCount "sorted" 1 1 _) (wpAny_pure ?_)
  refine wpAny_bind (PySem.W.kdu_collect (A := X.A.in1) (PySem.W.kdl_dict (knd := mixKind X.prog X.w) (kvs := dvs) (ep := ep) lo) (I.ok.hd hc) hat (by omega) fun h' tk acc' kp it => ?_)
  have hv : Vals (dvs.map fun p => kV p.1) acc'.toList := keys_at (by rw [Array.length_toList]; exact it.1) fun j v e => it.2 j v (by rw [← Array.getElem?_toList]; exact e)
  rw [ekv] at hv
  have I1 : Inv X pins σ H { s with heap := h', toks := tk } := I.kept kp
  generalize hps : (ns.map fun (n : Nat) => ((V.int (n : Int), PyData.int (n : Int)) : DP)) = ps
  have hps1 : ps.map (·.1) = ns.map fun (n : Nat) => V.int (n : Int) := by
    rw [← hps, List.map_map]
    rfl
  have lps : ps.length = kvs.length := by rw [← hps, List.length_map]; exact lens
  generalize acc'.toList = vs at hv ⊢
  have eR : PySem.W.EachIs (fun v (p : DP) => RelV p.1 v) vs ps := vals_eachD (by rw [hps1]; exact hv)
  have lvs : vs.length = kvs.length := by rw [← hv.length, List.length_map]; exact lens
  refine wpAny_bind (wpAny_newList ?_ (by rw [lvs]; omega))
  have hoL : (h'.push (seqObj "list" vs.toArray 0)).get? h'.objs.size = some (seqObj "list" vs.toArray 0) := Heap.get?_push_size _ rfl
  have kS : ∀ b u, h'.get? b = some u → (PySem.W.sortingHeap (h'.push (seqObj "list" vs.toArray 0)) h'.objs.size vs).get? b = some u := fun b u e =>
    PySem.W.sortingHeap_old (Nat.ne_of_lt (Heap.lt_size e)) (Heap.get?_push_of_some _ e)
  have isI : ∀ p ∈ ps, ∃ n : Nat, p = ((V.int (n : Int), PyData.int (n : Int)) : DP) := fun p hp => by
    rw [← hps] at hp
    obtain ⟨n, _, rfl⟩ := List.mem_map.mp hp
    exact ⟨n, rfl⟩
  have er : PySem.W.EachIs (fun v (p : DP) => ∃ as, Reads (PySem.W.sortingHeap (h'.push (seqObj "list" vs.toArray 0)) h'.objs.size vs) v p.2 as) vs ps := each_mem2 eR fun v p hm e => by
    obtain ⟨n, rfl⟩ := isI p hm
    obtain ⟨as, rd⟩ := Dp.reads I1 _ _ _ (Dp.int (n : Int)) e
    exact ⟨as, PyProof.Rows.Reads.keeps kS rd⟩
  have hal : PySem.W.AllAlike (ps.map (·.2)) := by
    intro a ha b hb
    obtain ⟨p, hp, rfl⟩ := List.mem_map.mp ha
    obtain ⟨q, hq, rfl⟩ := List.mem_map.mp hb
    obtain ⟨n, rfl⟩ := isI p hp
    obtain ⟨m, rfl⟩ := isI q hq
    simp [PySem.W.alike]
  have hsk : PySem.W.Sortable (ps.map (·.2)) := .inr fun d hd => by
    obtain ⟨p, hp, rfl⟩ := List.mem_map.mp hd
    obtain ⟨n, rfl⟩ := isI p hp
    exact ⟨(fun z => nomatch z), fun _ z => nomatch z⟩
  refine wpAny_bind (wpAny_holding ?_)
  refine wpAny_call_entry PyProof.Rows.slot_list_sort ⟨_, hoL, rfl⟩ PyProof.Rows.entry_list_sort (PySem.W.list_sort_vals (s := { s with heap := h'.push (seqObj "list" vs.toArray 0), toks := tk }) (κ := PySem.W.dataKind (PySem.W.sortingHeap (h'.push (seqObj "list" vs.toArray 0)) h'.objs.size vs) (ps.map fun p : DP => p.2)) hoL
    (PySem.W.SortsAt.data (s := { s with heap := PySem.W.sortingHeap (h'.push (seqObj "list" vs.toArray 0)) h'.objs.size vs, toks := tk }) (PySem.W.each_map (R := fun v d => ∃ as, Reads (PySem.W.sortingHeap (h'.push (seqObj "list" vs.toArray 0)) h'.objs.size vs) v d as) (fun p : DP => p.2) er) hal hsk (PySem.W.bound_map fun p hp => ?_)) (by omega) ⟨.none, rfl, ?_⟩) (PyProof.Rows.args_list_sort _)
  · have e2 : X.A.in1.in1.units = X.A.units + 2 := rfl
    have dq : p.2.depth ≤ 3 := by
      obtain ⟨n, rfl⟩ := isI p hp
      simp [PyData.depth]
    omega
  · have rs := PySem.W.sortVals_data false eR er hal
    have lo : (PySem.W.sortVals (PySem.W.dataKind (PySem.W.sortingHeap (h'.push (seqObj "list" vs.toArray 0)) h'.objs.size vs) (ps.map fun p : DP => p.2)) false vs vs).length = vs.length := PySem.W.sortVals_length false rfl
    generalize PySem.W.sortVals (PySem.W.dataKind (PySem.W.sortingHeap (h'.push (seqObj "list" vs.toArray 0)) h'.objs.size vs) (ps.map fun p : DP => p.2)) false vs vs = out at rs lo ⊢
    obtain ⟨c, hc2⟩ := PyProof.Rows.sortedHeap_at (vs := vs) (out := out.toArray) hoL
    have hml : (byData ps).length = ps.length := List.length_mergeSort ps
    have hbl : ((byData ps).map (·.1)).length ≤ sizeLine := by rw [List.length_map, hml, lps]; omega
    obtain ⟨zs, pz, ez⟩ := perm_map (fun n : Nat => ((V.int (n : Int), PyData.int (n : Int)) : DP)) (byData_perm ps) ns hps.symm
    have e1 : (byData ps).map (·.1) = zs.map fun (n : Nat) => V.int (n : Int) := by rw [ez, List.map_map]; rfl
    refine wpAny_pure ⟨_, rfl, .ref h'.objs.size, upd H h'.objs.size (.lst ((byData ps).map (·.1))), I1.laid (t' := tk) (fun b u e => ?_) (Nat.le_refl _)
      (show ObjOk X.prog X.w _ _ _ (.lst ((byData ps).map (·.1))) from ⟨hbl, out, c, each_valsD rs, hc2⟩), rfl, ?_⟩
    · have hb : b < h'.objs.size := Heap.lt_size e
      rw [PyProof.Rows.sortedHeap_old (Nat.ne_of_lt hb) (by rw [size_push']; exact Nat.lt_succ_of_lt hb)]
      exact Heap.get?_push_of_some _ e
    · rw [e1]
      exact q zs _ (I1.hok.fresh (Nat.le_refl _)) pz
end
end FM
set_option maxRecDepth 100000
set_option maxHeartbeats 8000000
namespace K0
open PySem L2 FM He
theorem chn_app : ∀ {es : List Edg} {s : Nat} {e : Edg}, Chn s es → e.a = lastS s es → Chn s (es ++ [e])
  | [], s, e, _, h => ⟨h, trivial⟩
  | x :: es, s, e, c, h => by
    refine ⟨c.1, chn_app c.2 ?_⟩
    rw [h]
    unfold lastS
    cases es with
    | nil => rfl
    | cons y es => rw [List.getLast?_cons_cons]; cases q : (y :: es).getLast? with
      | none => exact absurd q (by simp)
      | some z => rfl
theorem dpAll_app {K : PySem.W.Frag} {H : Hp} : ∀ {xs ys : List V} {ds es : List PyData}, DpAll K H xs ds → DpAll K H ys es → DpAll K H (xs ++ ys) (ds ++ es)
  | _, _, _, _, .nil, k => k
  | _, _, _, _, .cons h t, k => .cons h (dpAll_app t k)
theorem dp_path {K : PySem.W.Frag} {H : Hp} {t r : Addr} {xs : List V} {s : Nat} {es : List Edg} (ht : H t = some (.tup [.int (s : Nat), .ref r])) (hr : SqT K H r xs) (da : DpAll K H xs (es.map fun e => keysD e.row)) : Dp K H (.ref t) (pathD s es) :=
  .tup (.of ht) (.cons (.int _) (.cons (.tup hr da) .nil))
section
variable {P : Program} {w : World} {K : PySem.W.Frag} {mg : Str → Option Value} {base : Heap}
def spDrp (K : PySem.W.Frag) : Sp := fun vs H Q _ => ∃ (b p : Addr) (C : RwP), vs = [.ref b, .ref p, .int 6] ∧ BagAt b H ∧ PlnAt H p C ∧ TblOk C.st ∧ C.st ≠ [] ∧ C.ed.length ≤ 63 ∧
  ∀ v H' s u es, Keep (J b) H H' → BagAt b H' → Dp K H' v (pathD s es) → (s, u) ∈ C.st → Chn s es → (∀ e ∈ es, e ∈ C.ed) → es.length ≤ 6 → Q v H'
theorem ok_law_drawn_path {f : Addr} {fd : FuncData} (F : FnP K "_law_drawn_path" s__law_drawn_path f fd) (T : TP K mg) : FnOk P w K mg base CX0 4 f fd ["_law_bag", "_law_plain", "_law_most"] (spDrp K) := by
  obtain ⟨d__law_pick, F__law_pick⟩ := T.f__law_pick
  have G__law_pick := ok_law_pick (P := P) (w := w) (base := base) F__law_pick T
  have b__law_pick : Binds K d__law_pick ["_law_bag", "_law_items"] [] := F__law_pick.bindsN fun _ _ _ _ _ _ us hl => match us, hl with | [_, _], _ => rfl
  obtain ⟨d__law_throw, F__law_throw⟩ := T.f__law_throw
  have G__law_throw := ok_law_throw (P := P) (w := w) (base := base) F__law_throw T
  have b__law_throw : Binds K d__law_throw ["_law_bag", "_law_total"] [] := F__law_throw.bindsN fun _ _ _ _ _ _ us hl => match us, hl with | [_, _], _ => rfl
  obtain ⟨d__law_room_at, F__law_room_at⟩ := T.f__law_room_at
  have G__law_room_at := ok_law_room_at (P := P) (w := w) (base := base) F__law_room_at T
  have b__law_room_at : Binds K d__law_room_at ["_law_path", "_law_size"] [] := F__law_room_at.bindsN fun _ _ _ _ _ _ us hl => match us, hl with | [_, _], _ => rfl
  refine F.ok sc__law_drawn_path (fun vs H Q E h => ?_) (fun cdv A outer s H vs Q E hr h => ?_)
  · obtain ⟨b, p, C, rfl, _⟩ := h
    rfl
  · obtain ⟨b, p, C, rfl, bag, hp, okS, neS, l63, kont⟩ := h
    have nd := sc__law_drawn_path.nd
    have hu64 := hr.units
    have hu1 := Nat.lt_of_le_of_lt (Nat.add_le_add_left (by decide : 1 ≤ 64) _) hu64
    have big : (100000 : Nat) ≤ sizeLine := by decide
    refine ⟨_, PSs.nox (pss_cons (ps_set (i := 3) nd rfl (.inl rfl) (pe_call G__law_pick (hr.mono (by decide)) rfl T.g__law_pick F__law_pick.kp b__law_pick .nil pass0 (pa_cons (pv 0) (pa_cons (pe_callB (cr_sortDK rfl hu64) (by rfl) T.b_sorted (by decide +kernel) (pa_cons (pe_ix ix_seq (pv 1) pe_int (fun _ _ => rfl)) pa_nil)) pa_nil))))
      (pss_cons (ps_set (i := 4) nd rfl (.inr rfl) (pe_tup (pa_cons (pv 3) (pa_cons (pe_tup pa_nil) pa_nil))))
      (pss_cons (ps_for PassesOwn.never rfl (pi_range1 (by rfl) T.b_range (pa_cons (pe_call G__law_throw (hr.mono (by decide)) rfl T.g__law_throw F__law_throw.kp b__law_throw .nil pass0 (pa_cons (pv 0) (pa_cons (pe_op op_add (pv 2) pe_int) pa_nil))) pa_nil)) (pg_name (i := 5) nd rfl (.inl rfl)) (pss_cons (ps_setLc (i := 6) (own := [("_law_edge", 7)]) rfl nd rfl rfl (sw_true rfl rfl rfl (by decide +kernel)) (pi_tup (pe_ix ix_seq (pv 1) pe_int (fun _ _ => rfl))) (blkOk_by (own := [("_law_edge", 7)]) (N := ["_law_bag", "_law_plain", "_law_most", "_law_room", "_law_found", "_law_turn", "_law_some", "_law_edge"]) (sc := defScope s__law_drawn_path) (by decide +kernel)) (fun _ _ _ _ _ => (pg_name (i := 7) nd rfl (.inl rfl))) (fun _ _ _ _ _ => pts_one (pt_cmpR op_eq (pe_ix (ix_seq : IxR _ (rIx K)) (pv 7) pe_int (fun _ _ => rfl)) (pe_call G__law_room_at (hr.mono (by decide)) rfl T.g__law_room_at F__law_room_at.kp b__law_room_at .nil pass0 (pa_cons (pv 4) (pa_cons (pe_callB (call_len : CallR _ _ (fun xs H Q => ∃ x n, xs = [x] ∧ LenV K x H n ∧ Q (.int n) H)) (by rfl) T.b_len (by decide +kernel) (pa_cons (pe_ix (ix_seq : IxR _ (rIx K)) (pv 4) pe_int (fun _ _ => rfl)) pa_nil)) pa_nil))) (nomark _))) (fun _ _ _ _ _ => (pv 7)))
      (pss_one (ps_if (pt_cmpR (op_neNilL hu64) (pv 6) (pe_lst pa_nil) (nomark _)) (pss_one (ps_set (i := 4) nd rfl (.inr rfl) (pe_tup (pa_cons (pv 3) (pa_cons (pe_op op_catA (pe_ix ix_seq (pv 4) pe_int (fun _ _ => rfl)) (pe_tup (pa_cons (pe_call G__law_pick (hr.mono (by decide)) rfl T.g__law_pick F__law_pick.kp b__law_pick .nil pass0 (pa_cons (pv 0) (pa_cons (pv 6) pa_nil))) pa_nil))) pa_nil))))) pss_nil))))
      (pss_one (ps_ret (pv 4)))))), ?_⟩
    obtain ⟨a0, t0, b0, h1, h2, h3, ks, h4, h5, h6⟩ := id hp
    have lS := ents_len okS
    have lk : ks.length = C.ed.length := by rw [← h5, List.length_map]
    refine ⟨_, rfl, _, rfl, .inr (.inl ⟨p, _, 1, _, rfl, rfl, .of h1, atI_nat (j := 1) rfl, a0, entW C.st, C.st.map (·.1), rfl, .inl h2, entW_keys C.st, by unfold entW; rw [List.length_map]; omega, fun zs q nq pm => ?_⟩)⟩
    have S1 := same_upd (o := .lst (zs.map fun (n : Nat) => V.int (n : Int))) nq
    have bag1 := bag.same S1
    have zne : 0 < zs.length := by
      rw [pm.length_eq, List.length_map]
      exact List.length_pos_iff.mpr neS
    have zl : zs.length ≤ 12 := by rw [pm.length_eq, List.length_map]; exact lS
    obtain ⟨gb, sb, cb, hbb, i1, i2, l0, l1, kk⟩ := pick_cond (K := K) bag1 (upd_same (o := .lst (zs.map fun (n : Nat) => V.int (n : Int)))) (bag_ne bag nq) (by rw [List.length_map]; exact zne) (by rw [List.length_map]; omega)
    refine ⟨b, gb, sb, cb, .ref q, _, rfl, hbb, i1, i2, l0, l1, fun y g' c' hy => ?_⟩
    obtain ⟨k2, bag2, _⟩ := kk g' c'
    have k2 := (Keep.of S1).trans k2
    generalize upd (upd H q (.lst (zs.map fun (n : Nat) => V.int (n : Int)))) b (bagO g' sb c') = H2 at k2 bag2 ⊢
    clear kk i1 i2 hbb bag1 S1
    obtain ⟨r, hr0, rfl⟩ := List.mem_map.mp hy
    obtain ⟨su, hsu, e0⟩ := List.mem_map.mp (pm.mem_iff.mp hr0)
    have hsu : (r, su.2) ∈ C.st := by rw [← e0]; exact hsu
    -- the empty path
    refine ⟨_, rfl, by show 0 ≤ _; omega, fun e ne => ⟨by show 2 ≤ _; omega, fun v0 nv => ?_⟩⟩
    have S3 := (same_upd (o := .tup []) ne).trans (same_upd (o := .tup [.int (r : Nat), .ref e]) nv)
    have d3 : Dp K (upd (upd H2 e (.tup [])) v0 (.tup [.int (r : Nat), .ref e])) (.ref v0) (pathD r []) := dp_path upd_same (.of (same_upd nv _ _ upd_same)) .nil
    have k3 := k2.trans (Keep.of S3)
    have bag3 := bag2.same S3
    generalize upd (upd H2 e (.tup [])) v0 (.tup [.int (r : Nat), .ref e]) = H3 at d3 k3 bag3 ⊢
    obtain ⟨g, s', c, hb⟩ := id bag3
    refine ⟨_, rfl, _, rfl, _, _, rfl, rfl, b, g, s', c, (6 : Int) + 1, rfl, hb, by decide, by decide, fun rt g' c' r0 r1 => ⟨rt, rfl, by omega, by omega, ?_⟩⟩
    obtain ⟨k4, bag4⟩ := thrown (b := b) (H := H3) g' s' c'
    have d4 := Dp.keepB bag3 k4 (nb_path r []) d3
    have k4 := k3.trans k4
    generalize upd H3 b (bagO g' s' c') = H4 at k4 bag4 d4 ⊢
    refine for_it walk_range (fun i σ H' => ∃ (v : V) (es : List Edg) (u5 u6 : Option V), σ = [some (.ref b), some (.ref p), some (.int 6), some (.int (r : Nat)), some v, u5, u6, none] ∧ Keep (J b) H H' ∧ BagAt b H' ∧ Dp K H' v (pathD r es) ∧ Chn r es ∧ (∀ e ∈ es, e ∈ C.ed) ∧ es.length ≤ i)
      ⟨_, [], _, _, rfl, k4, bag4, d4, trivial, (fun e he => by cases he), Nat.le_refl _⟩ (fun _ _ _ _ _ => trivial) ?_ ?_
    · rintro i y σ H5 H5' hi ⟨v, es, u5, u6, rfl, k5, bag5, d5, ch, inC, el⟩ ⟨rfl, rfl⟩
      have i6 : i ≤ 6 := by omega
      have hp5 := hp.keep bag k5
      obtain ⟨a0', t0', b0', h1', h2', h3', ks', h4', h5', h6'⟩ := id hp5
      have lk' : ks'.length = C.ed.length := by rw [← h5', List.length_map]
      refine ⟨_, rfl, .inr (.inl ⟨p, _, 2, _, rfl, rfl, .of h1', atI_nat (j := 2) rfl, t0', rfl, ⟨_, .of h4'⟩, fun D nD => ?_⟩)⟩
      obtain ⟨t, r1, xs, rfl, ht, hr1, da⟩ := path_parts d5
      have lx : xs.length = es.length := by rw [dpAll_len da, List.length_map]
      refine lc_st (σ' := [some (.ref b), some (.ref p), some (.int 6), some (.int (r : Nat)), some (.ref t), some (.int (0 + (i : Nat))), u6, none]) walk_tup rfl (fun i H' => Same H5' H' ∧ H' D = some (.lst (((ks'.take i).filter fun q => q.2.a == lastS r es).map fun q => V.ref q.1))) ⟨same_upd nD, upd_same⟩ (fun i H' _ h => .of (h.1 _ _ h4')) ?_ ?_
      · rintro k y H' HG hk2 ⟨S, hD⟩ ⟨rfl, hy⟩
        rw [List.getElem?_map] at hy
        obtain ⟨q, hq, rfl⟩ := Option.map_eq_some_iff.mp hy
        have hk := S _ _ (h6' q (List.mem_of_getElem? hq))
        have tk : ks'.take (k + 1) = ks'.take k ++ [q] := by rw [List.take_add_one, hq]; rfl
        have ll : ((ks'.take k).filter fun q => q.2.a == lastS r es).length ≤ 63 := by
          have h1 := List.length_filter_le (fun q : Addr × Edg => q.2.a == lastS r es) (ks'.take k)
          rw [List.length_take] at h1
          omega
        have ev : decide (V.int (q.2.a : Nat) = V.int (lastS r es : Nat)) = (q.2.a == lastS r es) := by
          rw [decI]
          rfl
        rw [tk, List.filter_append, List.map_append]
        refine ⟨rfl, _, rfl, .inr (.inl ⟨q.1, _, 0, _, rfl, rfl, .of hk, atI_nat (j := 0) rfl, _, rfl, _, rfl, .inr (.inl ⟨t, _, 1, _, rfl, rfl, sqT_same S ht, rfl, _, es.length, rfl, .inr ⟨xs, sqT_same S hr1, lx.symm⟩, _, r, es, rfl, Dp.same S d5, rfl, _, rfl, ?_⟩)⟩)⟩
        refine iteB ev (fun hc => ?_) fun hc => ?_
        · refine ⟨_, rfl, _, hD, by rw [List.length_map]; omega, upd_far nD S, ?_⟩
          rw [upd_same, show [q].filter (fun q : Addr × Edg => q.2.a == lastS r es) = [q] by rw [List.filter_cons, hc]; rfl]
          rfl
        · refine ⟨S, ?_⟩
          rw [show [q].filter (fun q : Addr × Edg => q.2.a == lastS r es) = [] by rw [List.filter_cons, hc]; rfl, List.map_nil, List.append_nil]
          exact hD
      rintro HF ⟨SF, hDF⟩
      rw [List.length_map, List.take_length] at hDF
      have sl : (ks'.filter fun q => q.2.a == lastS r es).length ≤ 63 := by
        have h1 := List.length_filter_le (fun q : Addr × Edg => q.2.a == lastS r es) ks'
        omega
      have smem : ∀ z ∈ ks'.filter (fun q => q.2.a == lastS r es), z ∈ ks' ∧ z.2.a = lastS r es := fun z hz => by
        obtain ⟨a1, a2⟩ := List.mem_filter.mp hz
        exact ⟨a1, by simpa using a2⟩
      generalize (ks'.filter fun q => q.2.a == lastS r es) = sm at hDF sl smem
      refine ⟨_, rfl, by show 0 ≤ _; omega, fun N nN => ?_⟩
      have SN := same_upd (o := .lst []) nN
      have hDN := SN _ _ hDF
      have S6 := SF.trans SN
      have hN : upd HF N (.lst []) N = some (.lst []) := upd_same
      generalize upd HF N (.lst []) = H6 at SN hDN S6 hN ⊢
      have k6 := k5.trans (Keep.of S6)
      have bag6 := bag5.same S6
      have d6 := Dp.same S6 d5
      refine ⟨D, N, _, rfl, rfl, .of hDN, .of hN, _, rfl, iteB (d := !(sm.map fun q => V.ref q.1).isEmpty) rfl (fun hn => ?_) fun hn => ?_⟩
      rotate_left
      · exact ⟨_, es, _, _, rfl, k6, bag6, d6, ch, inC, by omega⟩
      have Db : D ≠ b := bag_ne bag5 nD
      obtain ⟨gb, sb, cb, hbb, i1, i2, l0, l1, kk⟩ := pick_cond (K := K) bag6 hDN Db (by
        cases sm with
        | nil => exact absurd hn (by decide)
        | cons _ _ => show 0 < _ + 1; omega) (by rw [List.length_map]; omega)
      refine ⟨_, rfl, _, rfl, .inr (.inl ⟨t, _, 1, _, rfl, rfl, sqT_same S6 ht, rfl, _, rfl, _, rfl, b, gb, sb, cb, .ref D, _, rfl, hbb, i1, i2, l0, l1, fun y g' c' hy => ?_⟩)⟩
      obtain ⟨k7, bag7, _⟩ := kk g' c'
      obtain ⟨z, hz, rfl⟩ := List.mem_map.mp hy
      obtain ⟨zk, za⟩ := smem z hz
      have hz6 := S6 _ _ (h6' z zk)
      have zb : z.1 ≠ b := fun e => by
        obtain ⟨_, _, _, hb⟩ := bag6
        rw [e, hb] at hz6
        cases hz6
      have hz7 := k7 _ _ zb hz6
      have d7 := Dp.keepB bag6 k7 (nb_path r es) d6
      have hr7 := sqT_keep bag6 k7 (sqT_same S6 hr1)
      have da7 := DpAll.keepB bag6 k7 (nbs_rows es) (DpAll.same S6 da)
      have k7 := k6.trans k7
      generalize upd H6 b (bagO g' sb c') = H7 at bag7 hz7 d7 hr7 da7 k7 ⊢
      refine ⟨by show 1 ≤ _; omega, fun M nM => ?_⟩
      have SM := same_upd (o := .tup [V.ref z.1]) nM
      refine catA_one (sqT_same SM hr7) (.of upd_same) (by omega) fun tt H8 S8 htt => ?_
      refine ⟨by show 2 ≤ _; omega, fun F0 nF => ?_⟩
      have SX := same_upd (o := .tup [.int (r : Nat), .ref tt]) nF
      have S9 := SM.trans (S8.trans SX)
      refine ⟨.ref F0, es ++ [z.2], _, _, rfl, k7.trans (Keep.of S9), bag7.same S9, dp_path upd_same (sqT_same SX htt) ?_, chn_app ch za, fun e he => ?_, by rw [List.length_append]; show _ + 1 ≤ _; omega⟩
      · rw [List.map_append]
        exact dpAll_app (DpAll.same S9 da7) (.cons (dp_keys (S9 _ _ hz7)) .nil)
      · rcases List.mem_append.mp he with he | he
        · exact inC e he
        · rw [List.mem_singleton.mp he, ← h5']
          exact List.mem_map.mpr ⟨z, zk, rfl⟩
    · rintro σ H5 ⟨v, es, u5, u6, rfl, k5, bag5, d5, ch, inC, el⟩
      exact ⟨_, rfl, kont v H5 r su.2 es k5 bag5 d5 hsu ch inC (by omega)⟩
end
end K0
set_option maxRecDepth 100000
set_option maxHeartbeats 2000000
namespace K0
open PySem L2 FM He
def ElD (K : PySem.W.Frag) (σ : L2.St) (H0 : Hp) (t : L2.TE) (d : PyData) : Prop := ∀ H (Q : VK), Same H0 H → (∀ v H', Same H H' → Dp K H' v d → Q v H') → t σ H Q
def ElsD (K : PySem.W.Frag) (σ : L2.St) (H0 : Hp) (ts : L2.TA) (ds : List PyData) : Prop := ∀ H (Q : List V → Hp → Prop), Same H0 H → (∀ vs H', Same H H' → DpAll K H' vs ds → Q vs H') → ts σ H Q
variable {K : PySem.W.Frag} {σ : L2.St} {H0 : Hp}
theorem eld_var {i : Nat} {v : V} {d : PyData} (e : σ[i]? = some (some v)) (h : Dp K H0 v d) : ElD K σ H0 (tVar i) d := fun H Q S q => ⟨v, e, q v H (.refl _) (Dp.same S h)⟩
theorem eld_int (i : Int) : ElD K σ H0 (tC (.int i)) (.int i) := fun H Q S q => q _ H (.refl _) (.int i)
theorem eld_str (z : Str) : ElD K σ H0 (tC (.str z)) (.str z) := fun H Q S q => q _ H (.refl _) (.str z)
theorem eld_non : ElD K σ H0 (tC .non) .none := fun H Q S q => q _ H (.refl _) .non
theorem els_nil : ElsD K σ H0 tNil [] := fun H Q S q => q [] H (.refl _) .nil
theorem els_cons {t : L2.TE} {ts : L2.TA} {d : PyData} {ds : List PyData} (h : ElD K σ H0 t d) (hs : ElsD K σ H0 ts ds) : ElsD K σ H0 (tCons t ts) (d :: ds) := fun H Q S q =>
  h H _ S fun v H1 S1 dv => hs H1 _ (S.trans S1) fun vs H2 S2 dvs => q (v :: vs) H2 (S1.trans S2) (.cons (Dp.same S2 dv) dvs)
theorem eld_tup {ts : L2.TA} {ds : List PyData} (h : ElsD K σ H0 ts ds) (l : ds.length ≤ 1000 := by simp) : ElD K σ H0 (tTup ts) (.tuple ds) := fun H Q S q =>
  h H _ S fun vs H1 S1 dvs => ⟨by rw [dpAll_len dvs]; exact Nat.le_trans l (by decide), fun p np => q _ _ (S1.trans (same_upd np)) (.tup (.of upd_same) (DpAll.same (same_upd np) dvs))⟩
theorem eld_lst {ts : L2.TA} {ds : List PyData} (h : ElsD K σ H0 ts ds) (l : ds.length ≤ 1000 := by simp) : ElD K σ H0 (tLst ts) (.list ds) := fun H Q S q =>
  h H _ S fun vs H1 S1 dvs => ⟨by rw [dpAll_len dvs]; exact Nat.le_trans l (by decide), fun p np => q _ _ (S1.trans (same_upd np)) (.lst (.of upd_same) (DpAll.same (same_upd np) dvs))⟩
theorem eld_listof {t : L2.TE} {ds : List PyData} (h : ElD K σ H0 t (.tuple ds)) : ElD K σ H0 (tCB (fun xs H Q => ∃ p ys, xs = [.ref p] ∧ (SqL K H p ys ∨ SqT K H p ys) ∧ ∀ l, H l = none → Q (.ref l) (upd H l (.lst ys))) (tCons t tNil)) (.list ds) := fun H Q S q =>
  h H _ S fun v H1 S1 dv => by
    obtain ⟨p, ys, rfl, hp, da⟩ := dp_tup dv
    exact ⟨p, ys, rfl, .inr hp, fun l nl => q _ _ (S1.trans (same_upd nl)) (.lst (.of upd_same) (DpAll.same (same_upd nl) da))⟩
theorem eld_addint {t : L2.TE} {i j : Int} (h : ElD K σ H0 t (.int i)) : ElD K σ H0 (tOp (rI0 fun i j => .int (i + j)) t (tC (.int j))) (.int (i + j)) := fun H Q S q =>
  h H _ S fun v H1 S1 dv => by
    obtain rfl := dp_int dv
    exact ⟨_, _, rfl, rfl, q _ H1 S1 (.int _)⟩
theorem eld_strint {t : L2.TE} {i : Int} (l : i.natAbs.log2 < 1920) (h : ElD K σ H0 t (.int i)) : ElD K σ H0 (tCB (fun xs H Q => ∃ i, xs = [.int i] ∧ i.natAbs.log2 < 1920 ∧ Q (.str (toString i)) H) (tCons t tNil)) (.str (toString i)) := fun H Q S q =>
  h H _ S fun v H1 S1 dv => by
    obtain rfl := dp_int dv
    exact ⟨i, rfl, l, q _ H1 S1 (.str _)⟩
theorem eld_addstr {t : L2.TE} {u z : Str} (l : u.length + z.length ≤ 1000) (h : ElD K σ H0 t (.str u)) : ElD K σ H0 (tOp (fun x y H Q => ∃ i j, x = .str i ∧ y = .str j ∧ i.length + j.length ≤ sizeLine ∧ Q (.str (i ++ j)) H) t (tC (.str z))) (.str (u ++ z)) := fun H Q S q =>
  h H _ S fun v H1 S1 dv => by
    obtain rfl := dp_str dv
    exact ⟨u, z, rfl, rfl, Nat.le_trans l (by decide), q _ H1 S1 (.str _)⟩
theorem eld_cat {t u : L2.TE} {ds es : List PyData} (l : ds.length + es.length ≤ 1000) (h : ElD K σ H0 t (.tuple ds)) (k : ElD K σ H0 u (.tuple es)) : ElD K σ H0 (tOp (rCatA K) t u) (.tuple (ds ++ es)) := fun H Q S q =>
  h H _ S fun v H1 S1 dv => k H1 _ (S.trans S1) fun w H2 S2 dw => by
    obtain ⟨p, xs, rfl, hp, da⟩ := dp_tup (Dp.same S2 dv)
    obtain ⟨r, ys, rfl, hr, db⟩ := dp_tup dw
    have l1 := dpAll_len da
    have l2 := dpAll_len db
    have S12 := S1.trans S2
    refine ⟨p, r, xs, ys, rfl, rfl, hp, hr, by rw [l1, l2]; exact Nat.le_trans l (by decide), fun e => ?_, fun _ e => ?_, fun _ _ c nc => ?_⟩
    · subst e
      cases da
      exact q _ H2 S12 dw
    · subst e
      cases db
      rw [List.append_nil] at q
      exact q _ H2 S12 (.tup hp da)
    · exact q _ _ (S12.trans (same_upd nc)) (.tup (.of upd_same) (DpAll.same (same_upd nc) (dpAll_app da db)))
theorem eld_ix {i j : Nat} {t : Addr} {e : Edg} {v : V} {d : PyData} (es : σ[i]? = some (some (.ref t))) (ht : H0 t = some (.tup (e.row.map kV))) (hj : (e.row.map kV)[j]? = some v) (dv : Dp K H0 v d) : ElD K σ H0 (tOp (rIx K) (tVar i) (tC (.int (j : Nat)))) d := fun H Q S q =>
  ⟨_, es, .inr (.inl ⟨t, _, (j : Nat), v, rfl, rfl, .of (S _ _ ht), atI_nat hj, q v H (.refl _) (Dp.same S dv)⟩)⟩
/-- slices -/
theorem dpAll_drop {H : Hp} : ∀ {xs : List V} {ds : List PyData} (n : Nat), DpAll K H xs ds → DpAll K H (xs.drop n) (ds.drop n)
  | _, _, 0, h => h
  | _, _, n + 1, .nil => .nil
  | _, _, n + 1, .cons _ h => dpAll_drop n h
theorem dpAll_take {H : Hp} : ∀ {xs : List V} {ds : List PyData} (n : Nat), DpAll K H xs ds → DpAll K H (xs.take n) (ds.take n)
  | _, _, 0, h => .nil
  | _, _, n + 1, .nil => .nil
  | _, _, n + 1, .cons h k => .cons h (dpAll_take n k)
def cutD (ds : List PyData) (lo hi : Option Int) : List PyData := (ds.drop (HT.sIx ds.length 0 lo)).take (HT.sIx ds.length ds.length hi - HT.sIx ds.length 0 lo)
theorem cutD_mem {ds : List PyData} {lo hi : Option Int} {d : PyData} (h : d ∈ cutD ds lo hi) : d ∈ ds := List.mem_of_mem_drop (List.mem_of_mem_take h)
theorem cutD_len (ds : List PyData) (lo hi : Option Int) : (cutD ds lo hi).length ≤ ds.length := by
  unfold cutD
  rw [List.length_take, List.length_drop]
  omega
theorem eld_sl {te : L2.TE} {tl th : TO} {lo hi : Option Int} {ds : List PyData} (h : ElD K σ H0 te (.tuple ds)) (hl : ∀ H (Q : Option Int → Hp → Prop), Q lo H → tl σ H Q) (hh : ∀ H (Q : Option Int → Hp → Prop), Q hi H → th σ H Q) : ElD K σ H0 (L2.tSl (rSlA K) te tl th) (.tuple (cutD ds lo hi)) := fun H Q S q =>
  h H _ S fun v H1 S1 dv => hl H1 _ (hh H1 _ (by
    obtain ⟨p, xs, rfl, hp, da⟩ := dp_tup dv
    have l := dpAll_len da
    refine ⟨p, xs, rfl, hp, fun w => ?_, fun _ a na => ?_⟩
    · refine q _ H1 S1 (.tup hp ?_)
      rw [l] at w
      unfold cutD
      rw [w.1, w.2, List.drop_zero, Nat.sub_zero, List.take_length]
      exact da
    · refine q _ _ (S1.trans (same_upd na)) (.tup (.of upd_same) (DpAll.same (same_upd na) ?_))
      unfold cutV cutD
      rw [l]
      exact dpAll_take _ (dpAll_drop _ da)))
/-- how deep, and that it can be laid -/
structure Lay (n : Nat) (d : PyData) : Prop where
  lay : PyData.canLay0 d = true
  dep : d.depth ≤ n
  nb : nb d = true
structure Lays (n : Nat) (ds : List PyData) : Prop where
  lay : PyData.canLayAll0 ds = true
  dep : PyData.depthAll ds ≤ n
  nb : nbs ds = true
theorem lays_nil {n : Nat} : Lays n [] := ⟨rfl, by rw [PyData.depthAll]; exact Nat.zero_le _, by rw [nbs]⟩
theorem Lay.cons {n : Nat} {d : PyData} {ds : List PyData} (h : Lay n d) (k : Lays n ds) : Lays n (d :: ds) := ⟨by rw [PyData.canLayAll0, h.lay, k.lay]; rfl, by
  rw [PyData.depthAll]
  have := h.dep
  have := k.dep
  omega, by rw [nbs, h.nb, k.nb]; rfl⟩
theorem Lays.app {n : Nat} : ∀ {ds es : List PyData}, Lays n ds → Lays n es → Lays n (ds ++ es)
  | [], _, _, k => k
  | d :: ds, _, h, k => by
    obtain ⟨h1, h2, h3⟩ := h
    rw [PyData.canLayAll0, Bool.and_eq_true] at h1
    rw [PyData.depthAll] at h2
    rw [nbs, Bool.and_eq_true] at h3
    exact Lay.cons ⟨h1.1, by omega, h3.1⟩ (Lays.app ⟨h1.2, by omega, h3.2⟩ k)
theorem Lays.sub {n : Nat} {ds es : List PyData} (h : Lays n ds) (s : ∀ d ∈ es, d ∈ ds) : Lays n es := by
  have one : ∀ {ds : List PyData}, Lays n ds → ∀ d ∈ ds, Lay n d := fun {ds} h d hd => by
    obtain ⟨h1, h2, h3⟩ := h
    refine ⟨lay_mem hd h1, Nat.le_trans (depth_mem hd) h2, ?_⟩
    clear h1 h2
    induction ds with
    | nil => cases hd
    | cons x ds ih =>
      rw [nbs, Bool.and_eq_true] at h3
      rcases List.mem_cons.mp hd with rfl | hd
      · exact h3.1
      · exact ih hd h3.2
  induction es with
  | nil => exact lays_nil
  | cons e es ih => exact Lay.cons (one h e (s e List.mem_cons_self)) (ih fun d hd => s d (List.mem_cons_of_mem _ hd))
theorem Lays.tup {n : Nat} {ds : List PyData} (h : Lays n ds) : Lay (n + 1) (.tuple ds) := ⟨by rw [PyData.canLay0]; exact h.lay, by rw [PyData.depth]; have := h.dep; omega, by rw [K0.nb]; exact h.nb⟩
theorem Lays.lst {n : Nat} {ds : List PyData} (h : Lays n ds) (i : int3 ds = false) : Lay (n + 1) (.list ds) := ⟨by rw [PyData.canLay0]; exact h.lay, by rw [PyData.depth]; have := h.dep; omega, by rw [K0.nb, i, h.nb]; rfl⟩
theorem lay_int {n : Nat} (i : Int) : Lay (n + 1) (.int i) := ⟨by rw [PyData.canLay0], by rw [PyData.depth]; omega, by rw [K0.nb]⟩
theorem lay_bool {n : Nat} (i : Bool) : Lay (n + 1) (.bool i) := ⟨by rw [PyData.canLay0], by rw [PyData.depth]; omega, by rw [K0.nb]⟩
theorem lay_non {n : Nat} : Lay (n + 1) .none := ⟨by rw [PyData.canLay0], by rw [PyData.depth]; omega, by rw [K0.nb]⟩
theorem lay_str {n : Nat} {z : Str} (h : PyData.strOk z = true) : Lay (n + 1) (.str z) := ⟨by rw [PyData.canLay0]; exact h, by rw [PyData.depth]; omega, by rw [K0.nb]⟩
theorem Lay.up {n m : Nat} {d : PyData} (h : Lay n d) (l : n ≤ m) : Lay m d := ⟨h.lay, Nat.le_trans h.dep l, h.nb⟩
theorem Lays.up {n m : Nat} {d : List PyData} (h : Lays n d) (l : n ≤ m) : Lays m d := ⟨h.lay, Nat.le_trans h.dep l, h.nb⟩
theorem lay_shaped {n : Nat} {d : PyData} (h : Lay n d) (l : n ≤ 64 := by decide) : SeqAt.shaped d = true := by
  unfold SeqAt.shaped
  rw [h.lay, decide_eq_true (Nat.le_trans h.dep l)]
  rfl
/-- a value to be judged -/
def GoodD (d : PyData) : Prop := nb d = true ∧ SeqAt.shaped d = true ∧ ∀ s es, d = pathD s es → es.length ≤ 200
theorem good_two {n : Nat} {x : PyData} {ds : List PyData} (h : Lay n (.tuple [x, .tuple ds])) (l : ds.length ≤ 200) (n64 : n ≤ 64 := by decide) : GoodD (.tuple [x, .tuple ds]) := ⟨h.nb, lay_shaped h n64, fun s es e => by
  unfold pathD at e
  injection e with e
  injection e with e0 e
  injection e with e1 _
  injection e1 with e1
  rw [e1, List.length_map] at l
  exact l⟩
theorem good_not {n : Nat} {d : PyData} (h : Lay n d) (no : ∀ s es, d ≠ pathD s es) (n64 : n ≤ 64 := by decide) : GoodD d := ⟨h.nb, lay_shaped h n64, fun s es e => absurd e (no s es)⟩
def trS : PyData → Bool
  | .tuple [.int _, .tuple _] => true
  | _ => false
theorem no_path {d : PyData} (h : trS d = false) : ∀ s es, d ≠ pathD s es := fun s es e => by
  rw [e] at h
  exact absurd h (by show true ≠ false; decide)
theorem gs_nil : ∀ x ∈ ([] : List PyData), GoodD x := fun x h => by cases h
theorem gs_cons {d : PyData} {ds : List PyData} (h : GoodD d) (k : ∀ x ∈ ds, GoodD x) : ∀ x ∈ d :: ds, GoodD x := fun x hx => by
  rcases List.mem_cons.mp hx with rfl | hx
  · exact h
  · exact k x hx
theorem rows_no {ds : List PyData} (h : ∀ d ∈ ds, isTup d = true) : ∀ s es, PyData.tuple ds ≠ pathD s es := fun s es e => by
  unfold pathD at e
  injection e with e
  rw [e] at h
  exact absurd (h _ List.mem_cons_self) (by show false ≠ true; decide)
theorem rows_int3 {ds : List PyData} (h : ∀ d ∈ ds, isTup d = true) : int3 ds = false := by
  cases ds with
  | nil => rfl
  | cons d ds =>
    have := h d List.mem_cons_self
    cases d <;> first | rfl | exact absurd this Bool.false_ne_true
/-- a list of such values -/
def NearL (K : PySem.W.Frag) (H : Hp) (L : Addr) (n : Nat) : Prop := ∃ ys ds, H L = some (.lst ys) ∧ DpAll K H ys ds ∧ (∀ d ∈ ds, GoodD d) ∧ ys.length ≤ n
theorem seq_near {ts : L2.TA} {ds : List PyData} {i n : Nat} {rest : TS} {D : Ends} {H : Hp} (h : ElsD K σ H ts ds) (g : ∀ d ∈ ds, GoodD d) (l : ds.length ≤ n) (n1 : n ≤ 1000)
    (q : ∀ L H', Same H H' → NearL K H' L n → rest D (σ.set i (some (.ref L))) H') : tSeq (tAsg (tLst ts) (gName i)) rest D σ H :=
  h H _ (.refl _) fun vs H1 S1 dvs => ⟨by rw [dpAll_len dvs]; exact Nat.le_trans l (Nat.le_trans n1 (by decide)), fun p np => q p _ (S1.trans (same_upd np)) ⟨vs, ds, upd_same, DpAll.same (same_upd np) dvs, g, by rw [dpAll_len dvs]; exact l⟩⟩
theorem nbs_all : ∀ {ds : List PyData}, (∀ d ∈ ds, GoodD d) → nbs ds = true
  | [], _ => by rw [nbs]
  | d :: ds, h => by
    rw [nbs, (h d List.mem_cons_self).1, nbs_all fun x hx => h x (List.mem_cons_of_mem _ hx)]
    rfl
/-- a list of data -/
theorem seq_dat {ts : L2.TA} {ds : List PyData} {i : Nat} {rest : TS} {D : Ends} {H : Hp} (h : ElsD K σ H ts ds) (l : ds.length ≤ 1000)
    (q : ∀ L H' ys, Same H H' → H' L = some (.lst ys) → DpAll K H' ys ds → rest D (σ.set i (some (.ref L))) H') : tSeq (tAsg (tLst ts) (gName i)) rest D σ H :=
  h H _ (.refl _) fun vs H1 S1 dvs => ⟨by rw [dpAll_len dvs]; exact Nat.le_trans l (by decide), fun p np => q p _ vs (S1.trans (same_upd np)) upd_same (DpAll.same (same_upd np) dvs)⟩
theorem dat_cat {ts : L2.TA} {ds es : List PyData} {i : Nat} {D : Ends} {H : Hp} {L : Addr} {ys : List V} (e : σ[i]? = some (some (.ref L))) (h1 : H L = some (.lst ys)) (h2 : DpAll K H ys es) (h : ElsD K σ H ts ds) (l : es.length + ds.length ≤ 1000)
    (q : ∀ L H' zs, Same H H' → H' L = some (.lst zs) → DpAll K H' zs (es ++ ds) → D.nx (σ.set i (some (.ref L))) H') : tAsg (tOp rCat (tVar i) (tLst ts)) (gName i) D σ H := by
  refine ⟨_, e, h H _ (.refl _) fun vs H1 S1 dvs => ?_⟩
  have lv := dpAll_len dvs
  have ly := dpAll_len h2
  refine ⟨by rw [lv]; exact Nat.le_trans (Nat.le_trans (Nat.le_add_left _ _) l) (by decide), fun p np => ?_⟩
  have S2 := same_upd (o := .lst vs) np
  refine ⟨L, p, ys, vs, rfl, rfl, (S1.trans S2) _ _ h1, upd_same, by rw [lv, ly]; exact Nat.le_trans l (by decide), fun r nr => ?_⟩
  have S3 := (S1.trans S2).trans (same_upd (o := .lst (ys ++ vs)) nr)
  exact q r _ _ S3 upd_same (dpAll_app (DpAll.same S3 h2) (DpAll.same (S2.trans (same_upd nr)) dvs))
theorem near_cat {ts : L2.TA} {ds : List PyData} {i n m : Nat} {D : Ends} {H : Hp} {L : Addr} (e : σ[i]? = some (some (.ref L))) (hL : NearL K H L n) (h : ElsD K σ H ts ds) (g : ∀ d ∈ ds, GoodD d) (l : n + ds.length ≤ m) (m1 : m ≤ 1000)
    (q : ∀ L H1 ys es, Same H H1 → H1 L = none → DpAll K H1 ys es → (∀ d ∈ es, GoodD d) → ys.length ≤ m → D.nx (σ.set i (some (.ref L))) (upd H1 L (.lst ys))) : tAsg (tOp rCat (tVar i) (tLst ts)) (gName i) D σ H := by
  obtain ⟨ys, es, h1, h2, h3, h4⟩ := hL
  refine ⟨_, e, h H _ (.refl _) fun vs H1 S1 dvs => ?_⟩
  have lv := dpAll_len dvs
  refine ⟨by rw [lv]; exact Nat.le_trans (Nat.le_trans (Nat.le_add_left _ n) (Nat.le_trans l m1)) (by decide), fun p np => ?_⟩
  have S2 := same_upd (o := .lst vs) np
  refine ⟨L, p, ys, vs, rfl, rfl, (S1.trans S2) _ _ h1, upd_same, by rw [lv]; exact Nat.le_trans (Nat.add_le_add_right h4 _) (Nat.le_trans l (Nat.le_trans m1 (by decide))), fun r nr => ?_⟩
  refine q r _ (ys ++ vs) (es ++ ds) (S1.trans S2) nr (dpAll_app (DpAll.same (S1.trans S2) h2) (DpAll.same S2 dvs)) (fun d hd => ?_) (by rw [List.length_append, lv]; omega)
  rcases List.mem_append.mp hd with hd | hd
  · exact h3 d hd
  · exact g d hd
theorem near_of {H1 : Hp} {L : Addr} {ys : List V} {es : List PyData} {m : Nat} (nL : H1 L = none) (h : DpAll K H1 ys es) (g : ∀ d ∈ es, GoodD d) (l : ys.length ≤ m) : NearL K (upd H1 L (.lst ys)) L m := ⟨ys, es, upd_same, DpAll.same (same_upd nL) h, g, l⟩
theorem NearL.same {H H' : Hp} {L : Addr} {n : Nat} (h : NearL K H L n) (S : Same H H') : NearL K H' L n := by
  obtain ⟨ys, ds, h1, h2, h3, h4⟩ := h
  exact ⟨ys, ds, S _ _ h1, DpAll.same S h2, h3, h4⟩
end K0
set_option maxRecDepth 100000
set_option maxHeartbeats 2000000
namespace K0
open PySem L2 FM He
def msk (H : Hp) (D : Addr) : Hp := fun a => if a = D then none else H a
theorem msk_sub {H : Hp} {D : Addr} : Same (msk H D) H := fun a o h => by
  unfold msk at h
  split at h
  · cases h
  · exact h
theorem msk_upd {H : Hp} {D : Addr} {o : HO} : msk (upd H D o) D = msk H D := funext fun a => by
  unfold msk
  by_cases e : a = D
  · rw [if_pos e, if_pos e]
  · rw [if_neg e, if_neg e, upd_ne e]
theorem msk_same {H H' : Hp} {D : Addr} (S : Same H H') : Same (msk H D) (msk H' D) := fun a o h => by
  unfold msk at h ⊢
  split at h
  · cases h
  · rename_i ne
    rw [if_neg ne]
    exact S _ _ h
theorem msk_new {H : Hp} {D p : Addr} {o : HO} (hD : H D ≠ none) (np : H p = none) : msk (upd H p o) D p = some o := by
  unfold msk
  have : p ≠ D := fun e => hD (by rw [← e]; exact np)
  rw [if_neg this, upd_same]
theorem msk_of {H0 H : Hp} {D : Addr} (n : H0 D = none) (S : Same H0 H) : Same H0 (msk H D) := fun a o h => by
  unfold msk
  have : a ≠ D := fun e => by rw [e, n] at h; cases h
  rw [if_neg this]
  exact S _ _ h
def ElM (K : PySem.W.Frag) (D : Addr) (σ : L2.St) (H0 : Hp) (t : L2.TE) (d : PyData) : Prop := ∀ H (Q : VK), Same H0 (msk H D) → H D ≠ none → (∀ v H', Same H H' → Dp K (msk H' D) v d → Q v H') → t σ H Q
def ElsM (K : PySem.W.Frag) (D : Addr) (σ : L2.St) (H0 : Hp) (ts : L2.TA) (ds : List PyData) : Prop := ∀ H (Q : List V → Hp → Prop), Same H0 (msk H D) → H D ≠ none → (∀ vs H', Same H H' → DpAll K (msk H' D) vs ds → Q vs H') → ts σ H Q
variable {K : PySem.W.Frag} {D : Addr} {σ : L2.St} {H0 : Hp}
theorem there_same {H H' : Hp} (h : H D ≠ none) (S : Same H H') : H' D ≠ none := by
  cases q : H D with
  | none => exact absurd q h
  | some o => rw [S _ _ q]; exact fun z => by cases z
theorem elm_var {i : Nat} {v : V} {d : PyData} (e : σ[i]? = some (some v)) (h : Dp K H0 v d) : ElM K D σ H0 (tVar i) d := fun H Q S _ q => ⟨v, e, q v H (.refl _) (Dp.same S h)⟩
theorem elsm_nil : ElsM K D σ H0 tNil [] := fun H Q S _ q => q [] H (.refl _) .nil
theorem elsm_cons {t : L2.TE} {ts : L2.TA} {d : PyData} {ds : List PyData} (h : ElM K D σ H0 t d) (hs : ElsM K D σ H0 ts ds) : ElsM K D σ H0 (tCons t ts) (d :: ds) := fun H Q S n q =>
  h H _ S n fun v H1 S1 dv => hs H1 _ (S.trans (msk_same S1)) (there_same n S1) fun vs H2 S2 dvs => q (v :: vs) H2 (S1.trans S2) (.cons (Dp.same (msk_same S2) dv) dvs)
theorem elm_tup {ts : L2.TA} {ds : List PyData} (h : ElsM K D σ H0 ts ds) (l : ds.length ≤ 1000 := by simp) : ElM K D σ H0 (tTup ts) (.tuple ds) := fun H Q S n q =>
  h H _ S n fun vs H1 S1 dvs => ⟨by rw [dpAll_len dvs]; exact Nat.le_trans l (by decide), fun p np => q _ _ (S1.trans (same_upd np)) (.tup (.of (msk_new (there_same n S1) np)) (DpAll.same (msk_same (same_upd np)) dvs))⟩
theorem elm_cat {t u : L2.TE} {ds es : List PyData} (l : ds.length + es.length ≤ 1000) (h : ElM K D σ H0 t (.tuple ds)) (k : ElM K D σ H0 u (.tuple es)) : ElM K D σ H0 (tOp (rCatA K) t u) (.tuple (ds ++ es)) := fun H Q S n q =>
  h H _ S n fun v H1 S1 dv => k H1 _ (S.trans (msk_same S1)) (there_same n S1) fun w H2 S2 dw => by
    have n2 := there_same (there_same n S1) S2
    obtain ⟨p, xs, rfl, hp, da⟩ := dp_tup (Dp.same (msk_same S2) dv)
    obtain ⟨r, ys, rfl, hr, db⟩ := dp_tup dw
    have l1 := dpAll_len da
    have l2 := dpAll_len db
    have S12 := S1.trans S2
    refine ⟨p, r, xs, ys, rfl, rfl, sqT_same msk_sub hp, sqT_same msk_sub hr, by rw [l1, l2]; exact Nat.le_trans l (by decide), fun e => ?_, fun _ e => ?_, fun _ _ c nc => ?_⟩
    · subst e
      cases da
      exact q _ H2 S12 dw
    · subst e
      cases db
      rw [List.append_nil] at q
      exact q _ H2 S12 (.tup hp da)
    · exact q _ _ (S12.trans (same_upd nc)) (.tup (.of (msk_new n2 nc)) (DpAll.same (msk_same (same_upd nc)) (dpAll_app da db)))
theorem elm_sl {te : L2.TE} {tl th : TO} {lo hi : Option Int} {ds : List PyData} (h : ElM K D σ H0 te (.tuple ds)) (hl : ∀ H (Q : Option Int → Hp → Prop), Q lo H → tl σ H Q) (hh : ∀ H (Q : Option Int → Hp → Prop), Q hi H → th σ H Q) : ElM K D σ H0 (L2.tSl (rSlA K) te tl th) (.tuple (cutD ds lo hi)) := fun H Q S n q =>
  h H _ S n fun v H1 S1 dv => hl H1 _ (hh H1 _ (by
    obtain ⟨p, xs, rfl, hp, da⟩ := dp_tup dv
    have l := dpAll_len da
    refine ⟨p, xs, rfl, sqT_same msk_sub hp, fun w => ?_, fun _ a na => ?_⟩
    · refine q _ H1 S1 (.tup hp ?_)
      rw [l] at w
      unfold cutD
      rw [w.1, w.2, List.drop_zero, Nat.sub_zero, List.take_length]
      exact da
    · refine q _ _ (S1.trans (same_upd na)) (.tup (.of (msk_new (there_same n S1) na)) (DpAll.same (msk_same (same_upd na)) ?_))
      unfold cutV cutD
      rw [l]
      exact dpAll_take _ (dpAll_drop _ da)))
theorem elm_run {t : L2.TE} {d : PyData} {H : Hp} {Q : VK} (S : Same H0 (msk H D)) (n : H D ≠ none) (q : ∀ v H', Same H H' → Dp K (msk H' D) v d → Q v H') (h : ElM K D σ H0 t d) : t σ H Q := h H Q S n q
theorem yes {H : Hp} {Q : Bool → Hp → Prop} (h : Q true H) : tYes σ H Q := h
theorem ls_nil {n : Nat} : ∀ x ∈ ([] : List PyData), Lay n x := fun x h => by cases h
theorem ls_cons {n : Nat} {d : PyData} {ds : List PyData} (h : Lay n d) (k : ∀ x ∈ ds, Lay n x) : ∀ x ∈ d :: ds, Lay n x := fun x hx => by
  rcases List.mem_cons.mp hx with rfl | hx
  · exact h
  · exact k x hx
end K0
set_option maxRecDepth 100000
set_option maxHeartbeats 1000000
namespace K0
open PySem L2 FM He
section
variable {P : Program} {w : World} {K : PySem.W.Frag} {mg : Str → Option Value} {base : Heap}
theorem ok_law_shuffled {f : Addr} {fd : FuncData} (F : FnP K "_law_shuffled" s__law_shuffled f fd) (T : TP K mg) : FnOk P w K mg base CX0 2 f fd ["_law_bag", "_law_items"] (fun vs H Q _ => ∃ (b a : Addr) (xs : List V), vs = [.ref b, .ref a] ∧ BagAt b H ∧ (SqL K H a xs ∨ SqT K H a xs) ∧ xs.length ≤ 100 ∧
    ∀ q H' ys, ys.Perm xs → Keep (J b) H H' → BagAt b H' → H' q = some (.lst ys) → q ≠ b → Q (.ref q) H') := by
  obtain ⟨d__law_throw, F__law_throw⟩ := T.f__law_throw
  have G__law_throw := ok_law_throw (P := P) (w := w) (base := base) F__law_throw T
  have b__law_throw : Binds K d__law_throw ["_law_bag", "_law_total"] [] := F__law_throw.bindsN fun _ _ _ _ _ _ us hl => match us, hl with | [_, _], _ => rfl
  refine F.ok sc__law_shuffled (fun vs H Q E h => ?_) (fun cdv A outer s H vs Q E hr h => ?_)
  · obtain ⟨b, a, xs, rfl, _⟩ := h
    rfl
  · obtain ⟨b, a, xs, rfl, hb, ha, hl, k⟩ := h
    have nd := sc__law_shuffled.nd
    refine ⟨_, PSs.nox (pss_cons (ps_set (i := 2) nd rfl (.inr rfl) (pe_callTy call_list_of (by rfl) T.b_list (by decide +kernel) (pa_cons (pv 1) pa_nil)))
      (pss_one (ps_ret (pe_lc (own := [("_law_turn", 3)]) rfl nd (pi_range1 (by rfl) T.b_range (pa_cons (pe_callB call_len (by rfl) T.b_len (by decide +kernel) (pa_cons (pv 1) pa_nil)) pa_nil)) (blkOk_by (own := [("_law_turn", 3)]) (N := ["_law_bag", "_law_items", "_law_rest_here", "_law_turn"]) (sc := defScope s__law_shuffled) (by decide +kernel)) (fun _ _ _ _ _ => (pg_name (i := 3) nd rfl (.inl rfl))) (fun _ _ _ _ _ => pts_nil) (fun _ _ _ _ _ => (pe_popAt (K := K) rfl (pv 2) (pa_cons (pe_call G__law_throw (hr.mono (by decide)) rfl T.g__law_throw F__law_throw.kp b__law_throw .nil pass0 (pa_cons (pv 0) (pa_cons (pe_callB (call_len : CallR _ _ (fun xs H Q => ∃ x n, xs = [x] ∧ LenV K x H n ∧ Q (.int n) H)) (by rfl) T.b_len (by decide +kernel) (pa_cons (pv 2) pa_nil)) pa_nil))) pa_nil))))))), ?_⟩
    refine ⟨_, rfl, a, xs, rfl, ha, fun r nr => ?_⟩
    have rb : r ≠ b := bag_ne hb nr
    have hb1 : BagAt b (upd H r (.lst xs)) := hb.same (same_upd nr)
    refine ⟨_, rfl, _, xs.length, rfl, (ha.elim (fun z => .inl ⟨xs, sqL_same (same_upd nr) z, rfl⟩) fun z => .inr ⟨xs, sqT_same (same_upd nr) z, rfl⟩), xs.length, rfl, by omega, by omega, fun D nD => ?_⟩
    have Db : D ≠ b := bag_ne hb1 nD
    have Dr : D ≠ r := fun e => by
      rw [e, upd_same] at nD
      cases nD
    have nDH : H D = none := (same_upd nr).free nD
    refine lc_range (lo := 0) (n := xs.length) (fun i H' => Keep (J b) H H' ∧ BagAt b H' ∧ ∃ ys zs, H' r = some (.lst zs) ∧ H' D = some (.lst ys) ∧ ys.length = i ∧ (ys ++ zs).Perm xs)
      ⟨(Keep.of (same_upd nr)).put nDH, hb1.same (same_upd nD), [], xs, by rw [upd_ne Dr.symm]; exact upd_same, upd_same, rfl, List.Perm.refl _⟩ ?_ ?_
    · rintro i H1 hi ⟨kp, ⟨g, s', c, hb'⟩, ys, zs, hr', hD, hy, hp⟩
      have lz : zs.length + i = xs.length := by
        have := hp.length_eq
        rw [List.length_append] at this
        omega
      refine ⟨rfl, _, rfl, .inl ⟨rfl, _, SqL.of hr'⟩, ?_⟩
      refine ⟨_, rfl, _, rfl, _, zs.length, rfl, .inl ⟨zs, SqL.of hr', rfl⟩, b, g, s', c, (zs.length : Nat), rfl, hb', by omega, by omega, fun t g' c' t0 t1 => ?_⟩
      obtain ⟨j, rfl⟩ : ∃ j : Nat, t = j := ⟨t.toNat, by omega⟩
      have jl : j < zs.length := by omega
      have hr2 : upd H1 b (bagO g' s' c') r = some (.lst zs) := by rw [upd_ne rb]; exact hr'
      have hD2 : upd H1 b (bagO g' s' c') D = some (.lst ys) := by rw [upd_ne Db]; exact hD
      have kp2 : Keep (J b) H (upd H1 b (bagO g' s' c')) := kp.trans (Keep.upd rfl)
      have hb2 : (upd H1 b (bagO g' s' c')) b = some (bagO g' s' c') := upd_same
      generalize upd H1 b (bagO g' s' c') = H2 at hr2 hD2 kp2 hb2 ⊢
      have ix : seqIndex? ((j : Nat) : Int) zs.length = some j := by
        unfold seqIndex?
        have h0 : ¬ ((j : Nat) : Int) < 0 := by omega
        simp only [h0, if_false]
        rw [if_pos (by simp; omega)]
        rfl
      refine ⟨r, zs, _, j, zs[j], rfl, rfl, hr2, by omega, by omega, ix, List.getElem?_eq_getElem jl, ?_⟩
      refine ⟨ys, by rw [upd_ne Dr]; exact hD2, by rw [hy, sizeLine_eq]; omega, (kp2.put nr).put nDH, ⟨g', s', c', by rw [upd_ne Db.symm, upd_ne rb.symm]; exact hb2⟩, ys ++ [zs[j]], zs.eraseIdx j, by rw [upd_ne Dr.symm]; exact upd_same, upd_same, by rw [List.length_append, hy]; rfl, ?_⟩
      refine List.Perm.trans ?_ hp
      rw [List.append_assoc]
      exact List.Perm.append_left _ (erase_perm jl)
    · rintro H1 ⟨kp, hb', ys, zs, hr', hD, hy, hp⟩
      have z0 : zs = [] := by
        have := hp.length_eq
        rw [List.length_append] at this
        exact List.eq_nil_of_length_eq_zero (by omega)
      rw [z0, List.append_nil] at hp
      exact k D H1 ys hp kp hb' hD Db
end
end K0
set_option maxRecDepth 100000
set_option maxHeartbeats 4000000
namespace K0
open PySem L2 FM He
theorem cut_any (xs : List V) (n : Nat) : cutV xs none (some (n : Int)) = xs.take n := by
  unfold cutV
  rw [HT.sIx_none, HT.sIx_nat]
  show (xs.take (min n xs.length)).drop 0 = _
  rw [List.drop_zero, ← List.take_take, List.take_length]
section
variable {P : Program} {w : World} {K : PySem.W.Frag} {mg : Str → Option Value} {base : Heap}
def spThn (K : PySem.W.Frag) : Sp := fun vs H Q _ => ∃ (b p : Addr) (C : RwP), vs = [.ref b, .ref p] ∧ BagAt b H ∧ C.Ok ∧ PlnAt H p C ∧ ∀ q H' R, Keep (J b) H H' → BagAt b H' → RwP.Part R C → PlnAt H' q R → Q (.ref q) H'
theorem ok_law_thinned {f : Addr} {fd : FuncData} (F : FnP K "_law_thinned" s__law_thinned f fd) (T : TP K mg) : FnOk P w K mg base CX0 4 f fd ["_law_bag", "_law_plain"] (spThn K) := by
  obtain ⟨d__law_shuffled, F__law_shuffled⟩ := T.f__law_shuffled
  have G__law_shuffled := ok_law_shuffled (P := P) (w := w) (base := base) F__law_shuffled T
  have b__law_shuffled : Binds K d__law_shuffled ["_law_bag", "_law_items"] [] := F__law_shuffled.bindsN fun _ _ _ _ _ _ us hl => match us, hl with | [_, _], _ => rfl
  obtain ⟨d__law_throw, F__law_throw⟩ := T.f__law_throw
  have G__law_throw := ok_law_throw (P := P) (w := w) (base := base) F__law_throw T
  have b__law_throw : Binds K d__law_throw ["_law_bag", "_law_total"] [] := F__law_throw.bindsN fun _ _ _ _ _ _ us hl => match us, hl with | [_, _], _ => rfl
  refine F.ok sc__law_thinned (fun vs H Q E h => ?_) (fun cdv A outer s H vs Q E hr h => ?_)
  · obtain ⟨b, p, C, rfl, _⟩ := h
    rfl
  · obtain ⟨b, p, C, rfl, bag, ok, hp, kont⟩ := h
    have nd := sc__law_thinned.nd
    have hu64 := hr.units
    have hu1 := Nat.lt_of_le_of_lt (Nat.add_le_add_left (by decide : 1 ≤ 64) _) hu64
    have big : (100000 : Nat) ≤ sizeLine := by decide
    refine ⟨_, PSs.nox (pss_cons (ps_set (i := 2) nd rfl (.inl rfl) (pe_call G__law_shuffled (hr.mono (by decide)) rfl T.g__law_shuffled F__law_shuffled.kp b__law_shuffled .nil pass0 (pa_cons (pv 0) (pa_cons (pe_ix ix_seq (pv 1) pe_int (fun _ _ => rfl)) pa_nil))))
      (pss_cons (ps_set (i := 3) nd rfl (.inl rfl) (pe_callB (call_max2 rfl) (by rfl) T.b_max (by decide +kernel) (pa_cons pe_int (pa_cons (pe_op op_sub (pe_op op_sub (pe_callB call_len (by rfl) T.b_len (by decide +kernel) (pa_cons (pv 2) pa_nil)) pe_int) (pe_call G__law_throw (hr.mono (by decide)) rfl T.g__law_throw F__law_throw.kp b__law_throw .nil pass0 (pa_cons (pv 0) (pa_cons pe_int pa_nil)))) pa_nil))))
      (pss_one (ps_ret (pe_tup (pa_cons (pe_ix ix_seq (pv 1) pe_int (fun _ _ => rfl)) (pa_cons (pe_ix ix_seq (pv 1) pe_int (fun _ _ => rfl)) (pa_cons (pe_callTy call_tuple_of (by rfl) T.b_tuple (by decide +kernel) (pa_cons (pe_slice sl_list (pv 2) po_none (po_some (pv 3))) pa_nil)) (pa_cons (pe_ix ix_seq (pv 1) pe_int (fun _ _ => rfl)) pa_nil))))))))), ?_⟩
    obtain ⟨a0, t0, b0, h1, h2, h3, ks, h4, h5, h6⟩ := id hp
    have few := ok.few
    have e1 : ks.length = C.ed.length := by rw [← h5, List.length_map]
    refine ⟨_, rfl, _, rfl, .inr (.inl ⟨p, _, 2, _, rfl, rfl, .of h1, atI_nat (j := 2) rfl, b, t0, _, rfl, bag, .inr (.of h4), by rw [List.length_map]; omega, fun q H1 ys pm k1 bag1 hq qb => ?_⟩)⟩
    obtain ⟨ls, pl, rfl⟩ := perm_map (fun z : Addr × Edg => V.ref z.1) pm ks rfl
    have ll : ls.length = ks.length := pl.length_eq
    refine ⟨_, rfl, _, _, rfl, .inl ⟨_, .of hq, rfl⟩, ?_⟩
    obtain ⟨g, s', c, hbb⟩ := id bag1
    refine ⟨_, _, rfl, rfl, _, rfl, b, g, s', c, 2, rfl, hbb, by decide, by decide, fun r g' c' r0 r1 => ?_⟩
    obtain ⟨k2, bag2⟩ := thrown (b := b) (H := H1) g' s' c'
    have hq2 := k2 _ _ qb hq
    have k3 := k1.trans k2
    generalize upd H1 b (bagO g' s' c') = H2 at hq2 bag2 k3 ⊢
    refine ⟨_, _, rfl, rfl, ?_⟩
    obtain ⟨sz, esz⟩ : ∃ sz : Nat, (if ((ls.map fun z => V.ref z.1).length : Int) - 1 - r > 1 then ((ls.map fun z => V.ref z.1).length : Int) - 1 - r else 1) = (sz : Int) := by
      split
      · exact ⟨(((ls.map fun z => V.ref z.1).length : Int) - 1 - r).toNat, by omega⟩
      · exact ⟨1, rfl⟩
    obtain ⟨a0', t0', b0', h1', h2', h3', _⟩ := hp.keep bag k3
    refine ⟨_, _, rfl, ?_⟩
    refine ⟨_, rfl, .inr (.inl ⟨p, _, 0, _, rfl, rfl, .of h1', atI_nat (j := 0) rfl, ?_⟩)⟩
    refine ⟨_, rfl, .inr (.inl ⟨p, _, 1, _, rfl, rfl, .of h1', atI_nat (j := 1) rfl, ?_⟩)⟩
    refine ⟨_, rfl, _, rfl, _, rfl, ?_⟩
    rw [esz]
    refine ⟨q, _, rfl, .of hq2, fun N nN => ?_⟩
    rw [cut_any, ← List.map_take]
    have S1 := same_upd (o := .lst ((ls.take sz).map fun z => V.ref z.1)) nN
    refine ⟨N, _, rfl, .inl ⟨.of upd_same, fun tf ntf => ?_⟩⟩
    have S2 := S1.trans (same_upd (o := .tup ((ls.take sz).map fun z => V.ref z.1)) ntf)
    refine ⟨_, rfl, .inr (.inl ⟨p, _, 3, _, rfl, rfl, .of (S2 _ _ h1'), atI_nat (j := 3) rfl, by show 4 ≤ _; omega, fun r nr => ?_⟩)⟩
    have SR := same_upd (o := .tup [.str (sgTxt C.sg), .ref a0', .ref tf, .ref b0']) nr
    have S3 := S2.trans SR
    have hkeep : ∀ z ∈ ls, H2 z.1 = some (.tup (z.2.row.map kV)) := fun z hz => by
      have := h6 z (pl.mem_iff.mp hz)
      refine k3 _ _ (fun e => ?_) this
      obtain ⟨_, _, _, hb0⟩ := id bag
      have e : z.1 = b := e
      rw [e, hb0] at this
      cases this
    have sub : ∀ e ∈ (ls.take sz).map (·.2), e ∈ C.ed := fun e he => by
      obtain ⟨z, hz, rfl⟩ := List.mem_map.mp he
      rw [← h5]
      exact List.mem_map.mpr ⟨z, pl.mem_iff.mp (List.mem_of_mem_take hz), rfl⟩
    refine kont r _ ⟨C.sg, C.st, (ls.take sz).map (·.2), C.en⟩ (k3.trans (Keep.of S3)) (bag2.same S3) ⟨rfl, rfl, rfl, sub, ?_⟩ ⟨a0', tf, b0', upd_same, S3 _ _ h2', S3 _ _ h3', ls.take sz, SR _ _ upd_same, rfl, fun z hz => S3 _ _ (hkeep z (List.mem_of_mem_take hz))⟩
    show ((ls.take sz).map (·.2)).length ≤ _
    rw [List.length_map, List.length_take]
    omega
end
end K0
set_option maxRecDepth 100000
set_option maxHeartbeats 8000000
namespace K0
open PySem L2 FM He
theorem strs12 : ∀ s < 12, PyData.strOk (toString ((s : Nat) : Int) : Str) = true ∧ ((s : Nat) : Int).natAbs.log2 < 1920 := by decide +kernel
theorem lays_rows {sg : List Nat} (g : SgOk sg) : ∀ {es : List Edg}, (∀ e ∈ es, EdgOk sg e) → Lays 3 (es.map fun e => keysD e.row)
  | [], _ => lays_nil
  | e :: es, h => Lay.cons ⟨canLay_row g (h e List.mem_cons_self), keysD_depth _, nb_row e⟩ (lays_rows g fun x hx => h x (List.mem_cons_of_mem _ hx))
section
variable {P : Program} {w : World} {K : PySem.W.Frag} {mg : Str → Option Value} {base : Heap}
def spNea (K : PySem.W.Frag) : Sp := fun vs H Q _ => ∃ (b p : Addr) (v : V) (C : RwP) (s : Nat) (es : List Edg), vs = [.ref b, .ref p, v] ∧ BagAt b H ∧ PlnAt H p C ∧ SgOk C.sg ∧ (∀ e ∈ C.ed, EdgOk C.sg e) ∧ C.ed.length ≤ 63 ∧ Dp K H v (pathD s es) ∧ s < 12 ∧ (∀ e ∈ es, e ∈ C.ed) ∧ es.length ≤ 6 ∧
  ∀ L H', Keep (J b) H H' → BagAt b H' → NearL K H' L 60 → Q (.ref L) H'
theorem ok_law_near {f : Addr} {fd : FuncData} (F : FnP K "_law_near" s__law_near f fd) (T : TP K mg) : FnOk P w K mg base CX0 4 f fd ["_law_bag", "_law_plain", "_law_path"] (spNea K) := by
  obtain ⟨d__law_pick, F__law_pick⟩ := T.f__law_pick
  have G__law_pick := ok_law_pick (P := P) (w := w) (base := base) F__law_pick T
  have b__law_pick : Binds K d__law_pick ["_law_bag", "_law_items"] [] := F__law_pick.bindsN fun _ _ _ _ _ _ us hl => match us, hl with | [_, _], _ => rfl
  refine F.ok sc__law_near (fun vs H Q E h => ?_) (fun cdv A outer s H vs Q E hr h => ?_)
  · obtain ⟨b, p, v, C, s, es, rfl, _⟩ := h
    rfl
  · obtain ⟨b, p, v, C, s0, es, rfl, bag, hp, g, oks, l63, hd, s12, inC, l6, kont⟩ := h
    have nd := sc__law_near.nd
    have hu64 := hr.units
    have hu1 := Nat.lt_of_le_of_lt (Nat.add_le_add_left (by decide : 1 ≤ 64) _) hu64
    have big : (100000 : Nat) ≤ sizeLine := by decide
    refine ⟨_, PSs.nox (pss_cons (ps_asg (pv 2) (pg_tup (by rfl) (pgs_cons (pg_name (i := 3) nd rfl (.inr rfl)) (pgs_cons (pg_name (i := 4) nd rfl (.inr rfl)) pgs_nil))))
      (pss_cons (ps_set (i := 5) nd rfl (.inl rfl) (pe_lst (pa_cons (pv 3) (pa_cons (pv 4) (pa_cons (pe_lst (pa_cons (pv 3) (pa_cons (pv 4) pa_nil))) (pa_cons (pe_tup (pa_cons (pv 3) pa_nil)) (pa_cons (pe_tup (pa_cons (pv 3) (pa_cons (pe_callTy call_list_of (by rfl) T.b_list (by decide +kernel) (pa_cons (pv 4) pa_nil)) pa_nil))) (pa_cons (pe_tup (pa_cons (pv 3) (pa_cons (pv 4) (pa_cons pe_str pa_nil)))) (pa_cons (pe_tup (pa_cons (pe_op op_add (pv 3) pe_int) (pa_cons (pv 4) pa_nil))) (pa_cons pe_non (pa_cons (pe_tup pa_nil) pa_nil)))))))))))
      (pss_cons (ps_set (i := 5) nd rfl (.inl rfl) (pe_op op_cat (pv 5) (pe_lst (pa_cons (pe_tup (pa_cons (pe_callTy call_str_int (by rfl) T.b_str (by decide +kernel) (pa_cons (pv 3) pa_nil)) (pa_cons (pv 4) pa_nil))) (pa_cons (pe_tup (pa_cons pe_non (pa_cons (pv 4) pa_nil))) (pa_cons (pe_tup (pa_cons (pv 3) (pa_cons pe_non pa_nil))) (pa_cons (pe_tup (pa_cons (pv 3) (pa_cons (pe_tup (pa_cons (pe_tup pa_nil) pa_nil)) pa_nil))) (pa_cons (pe_tup (pa_cons (pe_lst pa_nil) (pa_cons (pv 4) pa_nil))) (pa_cons (pe_tup (pa_cons (pv 3) (pa_cons (pe_slice (sl_tupA : SlR _ (rSlA K)) (pv 4) (po_some pe_int) po_none) pa_nil))) pa_nil)))))))))
      (pss_cons (ps_if (pt_cmpR op_lt (pv 3) pe_int (nomark _)) (pss_one (ps_expr (pe_bm PySem.F.plainAttrs_list PySem.F.slot_list_append PySem.F.type_list_append mt_append (pv 5) (pa_cons (pe_tup (pa_cons (pe_cmpR op_eq (pv 3) pe_int (nomark _)) (pa_cons (pv 4) pa_nil))) pa_nil)))) pss_nil)
      (pss_cons (ps_for PassesOwn.never rfl (pi_list (pe_slice sl_list (pe_callTy call_list_of (by rfl) T.b_list (by decide +kernel) (pa_cons (pe_ix ix_seq (pv 1) pe_int (fun _ _ => rfl)) pa_nil)) po_none (po_some pe_int))) (pg_name (i := 6) nd rfl (.inl rfl)) (pss_one (ps_set (i := 5) nd rfl (.inl rfl) (pe_op op_cat (pv 5) (pe_lst (pa_cons (pe_tup (pa_cons (pe_ix ix_seq (pv 6) pe_int (fun _ _ => rfl)) (pa_cons (pe_tup (pa_cons (pv 6) pa_nil)) pa_nil))) (pa_cons (pe_tup (pa_cons (pv 3) (pa_cons (pe_op (op_catA : OpR _ _ (rCatA K)) (pe_tup (pa_cons (pv 6) pa_nil)) (pv 4)) pa_nil))) (pa_cons (pe_tup (pa_cons (pv 3) (pa_cons (pe_op (op_catA : OpR _ _ (rCatA K)) (pv 4) (pe_tup (pa_cons (pv 6) pa_nil))) pa_nil))) (pa_cons (pe_tup (pa_cons (pe_ix ix_seq (pv 6) pe_int (fun _ _ => rfl)) (pa_cons (pe_tup pa_nil) pa_nil))) pa_nil)))))))))
      (pss_cons (ps_if (pt_cmpR (op_neD hu64) (pv 4) (pe_tup pa_nil) (nomark _)) (pss_cons (ps_asg (pe_call G__law_pick (hr.mono (by decide)) rfl T.g__law_pick F__law_pick.kp b__law_pick .nil pass0 (pa_cons (pv 0) (pa_cons (pe_callTy call_list_of (by rfl) T.b_list (by decide +kernel) (pa_cons (pv 4) pa_nil)) pa_nil))) (pg_tup (by rfl) (pgs_cons (pg_name (i := 7) nd rfl (.inl rfl)) (pgs_cons (pg_name (i := 8) nd rfl (.inl rfl)) (pgs_cons (pg_name (i := 9) nd rfl (.inl rfl)) (pgs_cons (pg_name (i := 10) nd rfl (.inl rfl)) pgs_nil))))))
      (pss_cons (ps_set (i := 11) nd rfl (.inl rfl) (pe_lst (pa_cons (pe_tup (pa_cons (pv 7) (pa_cons (pv 8) (pa_cons (pv 9) pa_nil)))) (pa_cons (pe_tup (pa_cons (pv 7) (pa_cons (pv 8) (pa_cons (pv 9) (pa_cons (pv 10) (pa_cons (pv 10) pa_nil)))))) (pa_cons (pe_lst (pa_cons (pv 7) (pa_cons (pv 8) (pa_cons (pv 9) (pa_cons (pv 10) pa_nil))))) (pa_cons (pe_tup (pa_cons (pv 7) (pa_cons (pv 8) (pa_cons (pe_op op_add_str (pv 9) pe_str) (pa_cons (pv 10) pa_nil))))) (pa_cons (pe_tup (pa_cons (pv 7) (pa_cons (pe_lst pa_nil) (pa_cons (pv 9) (pa_cons (pv 10) pa_nil))))) pa_nil)))))))
      (pss_cons (ps_set (i := 11) nd rfl (.inl rfl) (pe_op op_cat (pv 11) (pe_lst (pa_cons (pe_tup (pa_cons (pv 7) (pa_cons pe_str (pa_cons (pv 9) (pa_cons (pv 10) pa_nil))))) (pa_cons (pe_tup (pa_cons (pv 7) (pa_cons (pv 8) (pa_cons (pv 9) (pa_cons pe_int pa_nil))))) (pa_cons (pe_tup (pa_cons (pv 7) (pa_cons (pv 8) (pa_cons (pv 9) (pa_cons pe_non pa_nil))))) (pa_cons (pe_tup (pa_cons (pe_callTy call_str_int (by rfl) T.b_str (by decide +kernel) (pa_cons (pv 7) pa_nil)) (pa_cons (pv 8) (pa_cons (pv 9) (pa_cons (pv 10) pa_nil))))) pa_nil)))))))
      (pss_one (ps_set (i := 5) nd rfl (.inl rfl) (pe_op op_cat (pe_op op_cat (pv 5) (pe_lc (own := [("_law_one", 12)]) rfl nd (pi_list (pv 11)) (blkOk_by (own := [("_law_one", 12)]) (N := ["_law_bag", "_law_plain", "_law_path", "_law_room", "_law_edges", "_law_found", "_law_edge", "_law_a", "_law_sign", "_law_word", "_law_b", "_law_wrong", "_law_one"]) (sc := defScope s__law_near) (by decide +kernel)) (fun _ _ _ _ _ => (pg_name (i := 12) nd rfl (.inl rfl))) (fun _ _ _ _ _ => pts_nil) (fun _ _ _ _ _ => (pe_tup (pa_cons (pv 3) (pa_cons (pe_op (op_catA : OpR _ _ (rCatA K)) (pe_tup (pa_cons (pv 12) pa_nil)) (pe_slice (sl_tupA : SlR _ (rSlA K)) (pv 4) (po_some pe_int) po_none)) pa_nil)))))) (pe_lc (own := [("_law_one", 12)]) rfl nd (pi_list (pv 11)) (blkOk_by (own := [("_law_one", 12)]) (N := ["_law_bag", "_law_plain", "_law_path", "_law_room", "_law_edges", "_law_found", "_law_edge", "_law_a", "_law_sign", "_law_word", "_law_b", "_law_wrong", "_law_one"]) (sc := defScope s__law_near) (by decide +kernel)) (fun _ _ _ _ _ => (pg_name (i := 12) nd rfl (.inl rfl))) (fun _ _ _ _ _ => pts_nil) (fun _ _ _ _ _ => (pe_tup (pa_cons (pv 3) (pa_cons (pe_op (op_catA : OpR _ _ (rCatA K)) (pe_slice (sl_tupA : SlR _ (rSlA K)) (pv 4) po_none (po_some (pe_un un_neg pe_int))) (pe_tup (pa_cons (pv 12) pa_nil))) pa_nil))))))))))) pss_nil)
      (pss_one (ps_ret (pv 5))))))))), ?_⟩
    obtain ⟨t, r, xs, rfl, ht, hr1, da⟩ := path_parts hd
    refine ⟨_, rfl, t, _, rfl, ht, rfl, _, _, rfl, _, _, rfl, rfl, ?_⟩
    have oke : ∀ e ∈ es, EdgOk C.sg e := fun e he => oks e (inC e he)
    have lr := lays_rows g oke
    have rl : (es.map fun e => keysD e.row).length ≤ 6 := by rw [List.length_map]; exact l6
    have dE : Dp K H (.ref r) (.tuple (es.map fun e => keysD e.row)) := .tup hr1 da
    have hrw : ∀ d ∈ (es.map fun e => keysD e.row), isTup d = true := fun d hd => by
      obtain ⟨e, _, rfl⟩ := List.mem_map.mp hd
      rfl
    have hre : ∀ d ∈ (es.map fun e => keysD e.row), ∃ e, d = keysD e.row ∧ EdgOk C.sg e := fun d hd => by
      obtain ⟨e, he, rfl⟩ := List.mem_map.mp hd
      exact ⟨e, rfl, oke e he⟩
    generalize (es.map fun e => keysD e.row) = rw_ at lr rl dE hrw hre da
    obtain ⟨so, sl⟩ := strs12 s0 s12
    have sI : Lay 3 (.int (s0 : Int)) := lay_int _
    have Et : Lay 4 (.tuple rw_) := lr.tup
    have El : Lay 4 (.list rw_) := lr.lst (rows_int3 hrw)
    let σ1 : L2.St := [some (.ref b), some (.ref p), some (.ref t), some (.int (s0 : Nat)), some (.ref r), none, none, none, none, none, none, none, none]
    have hs : ∀ {H'}, ElD K σ1 H' (tVar 3) (.int (s0 : Int)) := fun {H'} => eld_var rfl (.int _)
    have hE : ElD K σ1 H (tVar 4) (.tuple rw_) := eld_var rfl dE
    refine seq_near (K := K) (σ := σ1) (i := 5) (n := 9) (H := H) (ds := [.int (s0 : Int), .tuple rw_, .list [.int (s0 : Int), .tuple rw_], .tuple [.int (s0 : Int)], .tuple [.int (s0 : Int), .list rw_], .tuple [.int (s0 : Int), .tuple rw_, .str ""], .tuple [.int ((s0 : Int) + 1), .tuple rw_], .none, .tuple []])
      (els_cons hs (els_cons hE (els_cons (eld_lst (els_cons hs (els_cons hE els_nil))) (els_cons (eld_tup (els_cons hs els_nil)) (els_cons (eld_tup (els_cons hs (els_cons (eld_listof hE) els_nil))) (els_cons (eld_tup (els_cons hs (els_cons hE (els_cons (eld_str "") els_nil)))) (els_cons (eld_tup (els_cons (eld_addint hs) (els_cons hE els_nil))) (els_cons eld_non (els_cons (eld_tup els_nil) els_nil)))))))))
      (gs_cons (good_not sI (no_path rfl)) (gs_cons (good_not Et (rows_no hrw)) (gs_cons (good_not (Lays.lst (Lay.cons (sI.up (by decide)) (Lay.cons Et lays_nil)) rfl) (no_path rfl)) (gs_cons (good_not (Lays.tup (Lay.cons sI lays_nil)) (no_path rfl)) (gs_cons (good_not (Lays.tup (Lay.cons (sI.up (by decide)) (Lay.cons El lays_nil))) (no_path rfl)) (gs_cons (good_not (Lays.tup (Lay.cons (sI.up (by decide)) (Lay.cons Et (Lay.cons (lay_str (by decide +kernel)) lays_nil)))) (no_path rfl)) (gs_cons (good_two (Lays.tup (Lay.cons (lay_int (n := 3) _) (Lay.cons Et lays_nil))) (Nat.le_trans rl (by decide))) (gs_cons (good_not (lay_non (n := 0)) (no_path rfl)) (gs_cons (good_not (Lays.tup (n := 0) lays_nil) (no_path rfl)) gs_nil))))))))) (Nat.le_refl _) (by decide) fun L1 H1 S1 n1 => ?_
    -- six more
    let σ2 : L2.St := [some (.ref b), some (.ref p), some (.ref t), some (.int (s0 : Nat)), some (.ref r), some (.ref L1), none, none, none, none, none, none, none]
    have hs2 : ∀ {H'}, ElD K σ2 H' (tVar 3) (.int (s0 : Int)) := fun {H'} => eld_var rfl (.int _)
    have hE2 : ElD K σ2 H1 (tVar 4) (.tuple rw_) := eld_var rfl (Dp.same S1 dE)
    have cl := cutD_len rw_ (some 1) none
    have lc1 : Lays 3 (cutD rw_ (some 1) none) := lr.sub fun d hd => cutD_mem hd
    refine near_cat (K := K) (σ := σ2) (i := 5) (n := 9) (m := 15) (H := H1) (ds := [.tuple [.str (toString ((s0 : Nat) : Int)), .tuple rw_], .tuple [.none, .tuple rw_], .tuple [.int (s0 : Int), .none], .tuple [.int (s0 : Int), .tuple [.tuple []]], .tuple [.list [], .tuple rw_], .tuple [.int (s0 : Int), .tuple (cutD rw_ (some 1) none)]])
      rfl n1 (els_cons (eld_tup (els_cons (eld_strint sl hs2) (els_cons hE2 els_nil))) (els_cons (eld_tup (els_cons eld_non (els_cons hE2 els_nil))) (els_cons (eld_tup (els_cons hs2 (els_cons eld_non els_nil))) (els_cons (eld_tup (els_cons hs2 (els_cons (eld_tup (els_cons (eld_tup els_nil) els_nil)) els_nil))) (els_cons (eld_tup (els_cons (eld_lst els_nil) (els_cons hE2 els_nil))) (els_cons (eld_tup (els_cons hs2 (els_cons (eld_sl hE2 (fun _ _ q => ⟨_, rfl, q⟩) (fun _ _ q => q)) els_nil))) els_nil))))))
      (gs_cons (good_not (Lays.tup (Lay.cons (lay_str (n := 3) so) (Lay.cons Et lays_nil))) (no_path rfl)) (gs_cons (good_not (Lays.tup (Lay.cons (lay_non (n := 3)) (Lay.cons Et lays_nil))) (no_path rfl)) (gs_cons (good_not (Lays.tup (Lay.cons sI (Lay.cons (lay_non (n := 2)) lays_nil))) (no_path rfl)) (gs_cons (good_two (Lays.tup (Lay.cons sI (Lay.cons (Lays.tup (n := 2) (Lay.cons (Lays.tup (n := 1) lays_nil) lays_nil)) lays_nil))) (by show 1 ≤ 200; decide)) (gs_cons (good_not (Lays.tup (Lay.cons (Lays.lst (n := 3) lays_nil rfl) (Lay.cons Et lays_nil))) (no_path rfl)) (gs_cons (good_two (Lays.tup (Lay.cons (sI.up (by decide)) (Lay.cons lc1.tup lays_nil))) (Nat.le_trans (Nat.le_trans cl rl) (by decide))) gs_nil)))))) (Nat.le_refl _) (by decide) fun LB H2 ys ds S2 nL2 hds gds yl => ?_
    have LBb : LB ≠ b := bag_ne (bag.same (S1.trans S2)) nL2
    -- (a truth, edges)
    with_reducible conv => whnf
    refine seq_via (s := tIfS _ _ _) (fun σ' H' => σ' = [some (.ref b), some (.ref p), some (.ref t), some (.int (s0 : Nat)), some (.ref r), some (.ref LB), none, none, none, none, none, none, none] ∧ Same H H' ∧ NearL K H' LB 16) (fun N kN => ?_) ?_
    · have S12 := S1.trans S2
      refine ⟨_, rfl, _, _, rfl, rfl, _, rfl, iteB (d := decide ((s0 : Int) < 2)) rfl (fun _ => ?_) fun _ => kN _ _ ⟨rfl, S12.trans (same_upd nL2), near_of nL2 hds gds (Nat.le_trans yl (by decide))⟩⟩
      refine ⟨_, rfl, .inl ⟨rfl, _, .of upd_same⟩, _, rfl, rfl, _, rfl, by show 2 ≤ _; omega, fun a na => ?_⟩
      have aL : a ≠ LB := fun e => by rw [e, upd_same] at na; cases na
      refine ⟨LB, ys, _, rfl, rfl, by rw [upd_ne aL.symm]; exact upd_same, by omega, kN _ _ ⟨rfl, upd_far (S12.free nL2) (S12.trans ((same_upd nL2).trans (same_upd na))), ys ++ [.ref a], ds ++ [.tuple [.bool (decide (V.int (s0 : Nat) = V.int 1)), .tuple rw_]], upd_same, ?_, fun d hd => ?_, by rw [List.length_append]; show _ + 1 ≤ 16; omega⟩⟩
      · have far : ∀ {o : HO}, Same H2 (upd (upd (upd H2 LB (.lst ys)) a o) LB (.lst (ys ++ [.ref a]))) := fun {o} => upd_far nL2 ((same_upd nL2).trans (same_upd na))
        refine dpAll_app (DpAll.same far hds) (.cons (.tup (.of (by rw [upd_ne aL]; exact upd_same)) (.cons (.bl _) (.cons (Dp.same far (Dp.same S12 dE)) .nil))) .nil)
      · rcases List.mem_append.mp hd with hd | hd
        · exact gds d hd
        · rw [List.mem_singleton.mp hd]
          exact good_not (Lays.tup (Lay.cons (lay_bool (n := 3) _) (Lay.cons Et lays_nil))) (no_path rfl)
    rintro σ' H3 ⟨rfl, S3, near3⟩
    -- three edges
    have hp3 := hp.same S3
    obtain ⟨a0, t0, b0, h1, h2, h3, ks, h4, h5, h6⟩ := id hp3
    have lk : ks.length = C.ed.length := by rw [← h5, List.length_map]
    refine ⟨_, rfl, .inr (.inl ⟨p, _, 2, _, rfl, rfl, .of h1, atI_nat (j := 2) rfl, t0, _, rfl, .inr (.of h4), fun l nl => ?_⟩)⟩
    refine ⟨_, rfl, l, _, rfl, .of upd_same, fun N nN => ?_⟩
    have SN0 := same_upd (o := .lst (ks.map fun p => V.ref p.1)) nl
    have ec : cutV (ks.map fun p => V.ref p.1) none (some 3) = (ks.take 3).map fun p => V.ref p.1 := by
      rw [show (some 3 : Option Int) = some ((3 : Nat) : Int) from rfl, cut_any, List.map_take]
    rw [ec]
    have SN := SN0.trans (same_upd (o := .lst ((ks.take 3).map fun p => V.ref p.1)) nN)
    have hN : upd (upd H3 l (.lst (ks.map fun p => V.ref p.1))) N (.lst ((ks.take 3).map fun p => V.ref p.1)) N = some (.lst ((ks.take 3).map fun p => V.ref p.1)) := upd_same
    generalize upd (upd H3 l (.lst (ks.map fun p => V.ref p.1))) N (.lst ((ks.take 3).map fun p => V.ref p.1)) = H4 at SN hN ⊢
    have S4 := S3.trans SN
    have near4 := near3.same SN
    have k3 : (ks.take 3).length ≤ 3 := by rw [List.length_take]; omega
    refine ⟨N, rfl, ⟨_, .of hN⟩, ?_⟩
    refine for_it walk_list (fun i σ H' => ∃ (L : Addr) (u6 : Option V), σ = [some (.ref b), some (.ref p), some (.ref t), some (.int (s0 : Nat)), some (.ref r), some (.ref L), u6, none, none, none, none, none, none] ∧ Same H4 H' ∧ NearL K H' L (16 + 4 * i) ∧ L ≠ b)
      ⟨LB, _, rfl, .refl _, near4, LBb⟩ (fun _ _ _ _ h => by obtain ⟨_, _, _, h, _⟩ := h; exact .of (h _ _ hN)) ?_ ?_
    · rintro i y σ H5 H5' hi ⟨L, u6, rfl, S5, near5, _⟩ ⟨rfl, hy⟩
      rw [List.getElem?_map] at hy
      obtain ⟨q, hq, rfl⟩ := Option.map_eq_some_iff.mp hy
      have qk : q ∈ ks := List.mem_of_mem_take (List.mem_of_getElem? hq)
      have i3 : i < 3 := by
        have := hi
        rw [List.length_map] at this
        omega
      have hk := S5 _ _ (SN _ _ (h6 q qk))
      have qok := oks q.2 (by rw [← h5]; exact List.mem_map.mpr ⟨q, qk, rfl⟩)
      have lq : Lay 3 (keysD q.2.row) := ⟨canLay_row g qok, keysD_depth _, nb_row _⟩
      let σ3 : L2.St := [some (.ref b), some (.ref p), some (.ref t), some (.int (s0 : Nat)), some (.ref r), some (.ref L), some (.ref q.1), none, none, none, none, none, none]
      have hs3 : ∀ {H'}, ElD K σ3 H' (tVar 3) (.int (s0 : Int)) := fun {H'} => eld_var rfl (.int _)
      have hE3 : ElD K σ3 H5' (tVar 4) (.tuple rw_) := eld_var rfl (Dp.same (S4.trans S5) dE)
      have he3 : ElD K σ3 H5' (tVar 6) (keysD q.2.row) := eld_var rfl (dp_keys hk)
      have ht3 : ElD K σ3 H5' (tTup (tCons (tVar 6) tNil)) (.tuple [keysD q.2.row]) := eld_tup (els_cons he3 els_nil)
      refine near_cat (K := K) (σ := σ3) (i := 5) (n := 16 + 4 * i) (m := 16 + 4 * (i + 1)) (H := H5') (ds := [.tuple [.int (q.2.a : Int), .tuple [keysD q.2.row]], .tuple [.int (s0 : Int), .tuple ([keysD q.2.row] ++ rw_)], .tuple [.int (s0 : Int), .tuple (rw_ ++ [keysD q.2.row])], .tuple [.int (q.2.b : Int), .tuple []]])
        rfl near5 (els_cons (eld_tup (els_cons (eld_ix (j := 0) (e := q.2) rfl hk rfl (.int _)) (els_cons ht3 els_nil))) (els_cons (eld_tup (els_cons hs3 (els_cons (eld_cat (by show 1 + _ ≤ _; omega) ht3 hE3) els_nil))) (els_cons (eld_tup (els_cons hs3 (els_cons (eld_cat (by show _ + 1 ≤ _; omega) hE3 ht3) els_nil))) (els_cons (eld_tup (els_cons (eld_ix (j := 3) (e := q.2) rfl hk rfl (.int _)) (els_cons (eld_tup els_nil) els_nil))) els_nil))))
        (gs_cons (good_two (Lays.tup (Lay.cons (lay_int (n := 3) _) (Lay.cons (Lays.tup (Lay.cons lq lays_nil)) lays_nil))) (by show 1 ≤ 200; decide)) (gs_cons (good_two (Lays.tup (Lay.cons (sI.up (by decide)) (Lay.cons (Lays.tup (Lays.app (Lay.cons lq lays_nil) lr)) lays_nil))) (by rw [List.length_append]; show 1 + _ ≤ _; omega)) (gs_cons (good_two (Lays.tup (Lay.cons (sI.up (by decide)) (Lay.cons (Lays.tup (Lays.app lr (Lay.cons lq lays_nil))) lays_nil))) (by rw [List.length_append]; show _ + 1 ≤ _; omega)) (gs_cons (good_two (Lays.tup (Lay.cons (lay_int (n := 3) _) (Lay.cons (Lays.tup (n := 3) lays_nil) lays_nil))) (by show 0 ≤ 200; decide)) gs_nil)))) (by show _ + 4 ≤ _; omega) (by omega) fun L5 H6 ys5 ds5 S6 nL5 hds5 gds5 yl5 => ?_
      exact ⟨L5, _, rfl, S5.trans (S6.trans (same_upd nL5)), near_of nL5 hds5 gds5 yl5, bag_ne (bag.same (S4.trans (S5.trans S6))) nL5⟩
    rintro σ H5 ⟨L, u6, rfl, S5, near5, Lb⟩
    rw [List.length_map] at near5
    have near5 : NearL K H5 L 28 := by
      obtain ⟨ys, ds, e1, e2, e3, e4⟩ := near5
      exact ⟨ys, ds, e1, e2, e3, by omega⟩
    have S6 := S4.trans S5
    -- a wrong edge
    with_reducible conv => whnf
    refine seq_via (s := tIfS _ _ _) (fun σ' H' => ∃ (L : Addr) (u6 u7 u8 u9 ua ub : Option V), σ' = [some (.ref b), some (.ref p), some (.ref t), some (.int (s0 : Nat)), some (.ref r), some (.ref L), u6, u7, u8, u9, ua, ub, none] ∧ Keep (J b) H H' ∧ BagAt b H' ∧ NearL K H' L 60) (fun N' kN => ?_) ?_
    · refine ⟨_, rfl, by show 0 ≤ _; omega, fun e ne => ?_⟩
      have SE := S6.trans (same_upd (o := .tup []) ne)
      have nearE := near5.same (same_upd (o := .tup []) ne)
      have dEE := Dp.same SE dE
      obtain ⟨c, hc⟩ : ∃ c, (!PyData.eqv (.tuple rw_) (.tuple [])) = c := ⟨_, rfl⟩
      refine ⟨.tuple rw_, .tuple [], dEE, .tup (.of upd_same) .nil, lay_shaped Et, lay_shaped (Lays.tup (n := 0) lays_nil), _, rfl, iteB hc (fun ht => ?_) fun _ => ?_⟩
      rotate_left
      · obtain ⟨ys, ds, e1, e2, e3, e4⟩ := nearE
        exact kN _ _ ⟨L, _, _, _, _, _, _, rfl, Keep.of SE, bag.same SE, ys, ds, e1, e2, e3, by omega⟩
      have rne : rw_ ≠ [] := fun z => by
        rw [z, PyData.eqv, PyData.eqvAll] at hc
        rw [ht] at hc
        cases hc
      generalize upd H5 e (.tup []) = HE at SE nearE dEE ⊢
      have hrE := sqT_same SE hr1
      have daE := DpAll.same SE da
      have bagE := bag.same SE
      refine ⟨_, rfl, _, rfl, r, xs, rfl, .inr hrE, fun l nl => ?_⟩
      have Sl := same_upd (o := .lst xs) nl
      have xl := dpAll_len daE
      obtain ⟨gb, sb, cb, hbb, i1, i2, l0, l1, kk⟩ := pick_cond (K := K) (bagE.same Sl) (upd_same (o := .lst xs)) (bag_ne bagE nl) (by
        rw [xl]
        exact List.length_pos_iff.mpr rne) (by omega)
      refine ⟨b, gb, sb, cb, .ref l, xs, rfl, hbb, i1, i2, l0, l1, fun y g' c' hy => ?_⟩
      obtain ⟨k7, bag7, _⟩ := kk g' c'
      obtain ⟨j, hj⟩ := List.getElem?_of_mem hy
      obtain ⟨dy, hdy, py⟩ := dpAll_get daE hj
      obtain ⟨x, rfl, xok⟩ := hre dy (List.mem_of_getElem? hdy)
      have py7 := Dp.keepB (bagE.same Sl) k7 (nb_row x) (Dp.same Sl py)
      have near7 : NearL K (upd (upd HE l (.lst xs)) b (bagO g' sb c')) L 28 := by
        obtain ⟨ys, ds, e1, e2, e3, e4⟩ := nearE.same Sl
        refine ⟨ys, ds, k7 _ _ Lb e1, ?_, e3, e4⟩
        exact DpAll.keepB (bagE.same Sl) k7 (nbs_all e3) e2
      have dE7 := Dp.keepB (bagE.same Sl) k7 Et.nb (Dp.same Sl dEE)
      have KH7 := (Keep.of (SE.trans Sl)).trans k7
      generalize upd (upd HE l (.lst xs)) b (bagO g' sb c') = H7 at bag7 py7 near7 dE7 KH7 ⊢
      clear kk i1 i2 hbb k7
      obtain ⟨ty, rfl, hty⟩ := dp_row1 py7
      refine ⟨ty, _, rfl, hty, rfl, _, _, rfl, _, _, rfl, _, _, rfl, _, _, rfl, rfl, ?_⟩
      let σ4 : L2.St := [some (.ref b), some (.ref p), some (.ref t), some (.int (s0 : Nat)), some (.ref r), some (.ref L), u6, some (.int (x.a : Nat)), some (.str ⟨#[x.c]⟩), some (.str x.u), some (.int (x.b : Nat)), none, none]
      have ha : ∀ {H'}, ElD K σ4 H' (tVar 7) (.int (x.a : Int)) := fun {H'} => eld_var rfl (.int _)
      have hcc : ∀ {H'}, ElD K σ4 H' (tVar 8) (.str ⟨#[x.c]⟩) := fun {H'} => eld_var rfl (.str _)
      have hu : ∀ {H'}, ElD K σ4 H' (tVar 9) (.str x.u) := fun {H'} => eld_var rfl (.str _)
      have hb4 : ∀ {H'}, ElD K σ4 H' (tVar 10) (.int (x.b : Int)) := fun {H'} => eld_var rfl (.int _)
      have ul := xok.len
      refine seq_dat (K := K) (σ := σ4) (i := 11) (H := H7) (els_cons (eld_tup (els_cons ha (els_cons hcc (els_cons hu els_nil)))) (els_cons (eld_tup (els_cons ha (els_cons hcc (els_cons hu (els_cons hb4 (els_cons hb4 els_nil)))))) (els_cons (eld_lst (els_cons ha (els_cons hcc (els_cons hu (els_cons hb4 els_nil))))) (els_cons (eld_tup (els_cons ha (els_cons hcc (els_cons (eld_addstr (by show x.u.length + 1 ≤ _; omega) hu) (els_cons hb4 els_nil))))) (els_cons (eld_tup (els_cons ha (els_cons (eld_lst els_nil) (els_cons hu (els_cons hb4 els_nil))))) els_nil))))) (by simp) fun W H8 ys8 S8 hW8 hd8 => ?_
      let σ5 : L2.St := [some (.ref b), some (.ref p), some (.ref t), some (.int (s0 : Nat)), some (.ref r), some (.ref L), u6, some (.int (x.a : Nat)), some (.str ⟨#[x.c]⟩), some (.str x.u), some (.int (x.b : Nat)), some (.ref W), none]
      have ha5 : ∀ {H'}, ElD K σ5 H' (tVar 7) (.int (x.a : Int)) := fun {H'} => eld_var rfl (.int _)
      have hc5 : ∀ {H'}, ElD K σ5 H' (tVar 8) (.str ⟨#[x.c]⟩) := fun {H'} => eld_var rfl (.str _)
      have hu5 : ∀ {H'}, ElD K σ5 H' (tVar 9) (.str x.u) := fun {H'} => eld_var rfl (.str _)
      have hb5 : ∀ {H'}, ElD K σ5 H' (tVar 10) (.int (x.b : Int)) := fun {H'} => eld_var rfl (.int _)
      obtain ⟨xso, xsl⟩ := strs12 x.a xok.a
      refine dat_cat (K := K) (σ := σ5) (i := 11) (H := H8) rfl hW8 hd8 (els_cons (eld_tup (els_cons ha5 (els_cons (eld_str "z") (els_cons hu5 (els_cons hb5 els_nil))))) (els_cons (eld_tup (els_cons ha5 (els_cons hc5 (els_cons hu5 (els_cons (eld_int 11) els_nil))))) (els_cons (eld_tup (els_cons ha5 (els_cons hc5 (els_cons hu5 (els_cons eld_non els_nil))))) (els_cons (eld_tup (els_cons (eld_strint xsl ha5) (els_cons hc5 (els_cons hu5 (els_cons hb5 els_nil))))) els_nil)))) (by simp) fun W2 H9 ys9 S9 hW9 hd9 => ?_
      with_reducible conv => whnf
      have S79 := S8.trans S9
      have dE9 := Dp.same S79 dE7
      obtain ⟨ysL, dsL, hL9, hdL, gdL, ylL⟩ := near7.same S79
      have cl2 := cutD_len rw_ none (some (-1))
      have lc2 : Lays 3 (cutD rw_ none (some (-1))) := lr.sub fun d hd => cutD_mem hd
      have so_c : PyData.strOk (⟨#[x.c]⟩ : Str) = true := strOk_let fun c hc => by
        have : c = x.c := by simpa using hc
        rw [this]
        exact g.let_ _ xok.c
      have so_u := strOk_let xok.u
      have so_ua : PyData.strOk (x.u ++ "a") = true := strOk_let (xok.u.app fun c hc => by
        have hc : c ∈ ([97] : List Nat) := hc
        have : c = 97 := by simpa using hc
        omega)
      have la : Lay 2 (.int (x.a : Int)) := lay_int _
      have lb : Lay 2 (.int (x.b : Int)) := lay_int _
      have lcc : Lay 2 (.str ⟨#[x.c]⟩) := lay_str so_c
      have lu : Lay 2 (.str x.u) := lay_str so_u
      have lw := List.forall_mem_append.mpr ⟨ls_cons (Lays.tup (Lay.cons la (Lay.cons lcc (Lay.cons lu lays_nil)))) (ls_cons (Lays.tup (Lay.cons la (Lay.cons lcc (Lay.cons lu (Lay.cons lb (Lay.cons lb lays_nil)))))) (ls_cons (Lays.lst (Lay.cons la (Lay.cons lcc (Lay.cons lu (Lay.cons lb lays_nil)))) rfl) (ls_cons (Lays.tup (Lay.cons la (Lay.cons lcc (Lay.cons (lay_str so_ua) (Lay.cons lb lays_nil))))) (ls_cons (Lays.tup (Lay.cons la (Lay.cons (Lays.lst (n := 1) lays_nil rfl) (Lay.cons lu (Lay.cons lb lays_nil))))) ls_nil)))),
        ls_cons (Lays.tup (Lay.cons la (Lay.cons (lay_str (z := "z") (by decide +kernel)) (Lay.cons lu (Lay.cons lb lays_nil))))) (ls_cons (Lays.tup (Lay.cons la (Lay.cons lcc (Lay.cons lu (Lay.cons (lay_int 11) lays_nil))))) (ls_cons (Lays.tup (Lay.cons la (Lay.cons lcc (Lay.cons lu (Lay.cons lay_non lays_nil))))) (ls_cons (Lays.tup (Lay.cons (lay_str xso) (Lay.cons lcc (Lay.cons lu (Lay.cons lb lays_nil))))) ls_nil)))⟩
      have l9 := dpAll_len hd9
      have l9' : ys9.length = 9 := l9
      obtain ⟨wr, hd9, lw⟩ : ∃ wr, DpAll K H9 ys9 wr ∧ ∀ d ∈ wr, Lay 3 d := ⟨_, hd9, lw⟩
      have l9 := dpAll_len hd9
      refine ⟨_, rfl, _, rfl, W2, rfl, ⟨_, .of hW9⟩, fun D nD => ?_⟩
      refine lc_st (σ' := [some (.ref b), some (.ref p), some (.ref t), some (.int (s0 : Nat)), some (.ref r), some (.ref L), u6, some (.int (x.a : Nat)), some (.str ⟨#[x.c]⟩), some (.str x.u), some (.int (x.b : Nat)), some (.ref W2), none]) walk_list rfl (fun i H' => Same H9 H' ∧ ∃ zs, H' D = some (.lst zs) ∧ DpAll K (msk H' D) zs ((wr.take i).map (fun d => PyData.tuple [.int (s0 : Int), .tuple ([d] ++ cutD rw_ (some 1) none)]))) ⟨same_upd nD, [], upd_same, .nil⟩ (fun i H' _ h => .of (h.1 _ _ hW9)) ?_ ?_
      · rintro i y H' HG hi ⟨S, zs, hz, hzs⟩ ⟨rfl, hy⟩
        obtain ⟨d, hdy, dyp⟩ := dpAll_get hd9 hy
        have zl : zs.length ≤ 9 := by
          rw [dpAll_len hzs, List.length_map, List.length_take]
          omega
        refine ⟨rfl, ?_⟩
        refine yes ?_
        refine iteT ?_
        refine elm_run (K := K) (D := D) (H0 := H9) (t := tTup _) (d := (fun d => PyData.tuple [.int (s0 : Int), .tuple ([d] ++ cutD rw_ (some 1) none)]) d) (msk_of nD S) (by rw [hz]; exact fun z => by cases z) (fun v H4 S4 dv => ⟨zs, S4 _ _ hz, by omega, upd_far nD (S.trans S4), zs ++ [v], upd_same, ?_⟩) ?_
        · rw [msk_upd, List.take_add_one, hdy, List.map_append]
          exact dpAll_app (DpAll.same (msk_same S4) hzs) (.cons dv .nil)
        · exact elm_tup (elsm_cons (elm_var rfl (.int _)) (elsm_cons (elm_cat (by show 1 + _ ≤ _; omega) (elm_tup (elsm_cons (elm_var rfl dyp) elsm_nil)) (elm_sl (elm_var rfl dE9) (fun _ _ q => ⟨_, rfl, q⟩) (fun _ _ q => q))) elsm_nil))
      rintro HF ⟨SF, zs, hz, hzs⟩
      rw [l9, List.take_length] at hzs
      have zl : zs.length = wr.length := by rw [dpAll_len hzs, List.length_map]
      refine ⟨L, D, ysL, zs, rfl, rfl, SF _ _ hL9, hz, by omega, fun M nM => ?_⟩
      have SM := same_upd (o := .lst (ysL ++ zs)) nM
      have hM : upd HF M (.lst (ysL ++ zs)) M = some (.lst (ysL ++ zs)) := upd_same
      have hzM := DpAll.same SM (DpAll.same msk_sub hzs)
      generalize upd HF M (.lst (ysL ++ zs)) = HB2 at SM hM hzM ⊢
      have SB := SF.trans SM
      have hWB := SB _ _ hW9
      have dEB := Dp.same SB dE9
      have hdB := DpAll.same SB hd9
      have hdLB := DpAll.same SB hdL
      refine ⟨_, rfl, W2, rfl, ⟨_, .of hWB⟩, fun DD nDD => ?_⟩
      refine lc_st (σ' := [some (.ref b), some (.ref p), some (.ref t), some (.int (s0 : Nat)), some (.ref r), some (.ref L), u6, some (.int (x.a : Nat)), some (.str ⟨#[x.c]⟩), some (.str x.u), some (.int (x.b : Nat)), some (.ref W2), none]) walk_list rfl (fun i H' => Same HB2 H' ∧ ∃ zs, H' DD = some (.lst zs) ∧ DpAll K (msk H' DD) zs ((wr.take i).map (fun d => PyData.tuple [.int (s0 : Int), .tuple (cutD rw_ none (some (-1)) ++ [d])]))) ⟨same_upd nDD, [], upd_same, .nil⟩ (fun i H' _ h => .of (h.1 _ _ hWB)) ?_ ?_
      · rintro i y H' HG hi ⟨S, zs, hz, hzs⟩ ⟨rfl, hy⟩
        obtain ⟨d, hdy, dyp⟩ := dpAll_get hdB hy
        have zl : zs.length ≤ 9 := by
          rw [dpAll_len hzs, List.length_map, List.length_take]
          omega
        refine ⟨rfl, ?_⟩
        refine yes ?_
        refine iteT ?_
        refine elm_run (K := K) (D := DD) (H0 := HB2) (t := tTup _) (d := (fun d => PyData.tuple [.int (s0 : Int), .tuple (cutD rw_ none (some (-1)) ++ [d])]) d) (msk_of nDD S) (by rw [hz]; exact fun z => by cases z) (fun v H4 S4 dv => ⟨zs, S4 _ _ hz, by omega, upd_far nDD (S.trans S4), zs ++ [v], upd_same, ?_⟩) ?_
        · rw [msk_upd, List.take_add_one, hdy, List.map_append]
          exact dpAll_app (DpAll.same (msk_same S4) hzs) (.cons dv .nil)
        · exact elm_tup (elsm_cons (elm_var rfl (.int _)) (elsm_cons (elm_cat (by show _ + 1 ≤ _; omega) (elm_sl (elm_var rfl dEB) (fun _ _ q => q) (fun _ _ q => ⟨_, rfl, _, rfl, q⟩)) (elm_tup (elsm_cons (elm_var rfl dyp) elsm_nil))) elsm_nil))
      rintro HG ⟨SG, zt, hzt, hzts⟩
      rw [l9, List.take_length] at hzts
      have ztl : zt.length = wr.length := by rw [dpAll_len hzts, List.length_map]
      refine ⟨M, DD, _, zt, rfl, rfl, SG _ _ hM, hzt, by rw [List.length_append]; omega, fun R nR => ?_⟩
      have SR := same_upd (o := .lst ((ysL ++ zs) ++ zt)) nR
      have S7R := S79.trans (SB.trans (SG.trans SR))
      refine kN _ _ ⟨R, _, _, _, _, _, _, rfl, KH7.trans (Keep.of S7R), bag7.same S7R, (ysL ++ zs) ++ zt, _, upd_same, dpAll_app (dpAll_app (DpAll.same (SG.trans SR) hdLB) (DpAll.same (SG.trans SR) hzM)) (DpAll.same SR (DpAll.same msk_sub hzts)), fun d hd => ?_, by rw [List.length_append, List.length_append]; omega⟩
      rcases List.mem_append.mp hd with hd | hd
      · rcases List.mem_append.mp hd with hd | hd
        · exact gdL d hd
        · obtain ⟨d', hd', rfl⟩ := List.mem_map.mp hd
          exact good_two (Lays.tup (Lay.cons (sI.up (by decide)) (Lay.cons (Lays.tup (Lays.app (Lay.cons (lw d' hd') lays_nil) lc1)) lays_nil))) (by rw [List.length_append]; show 1 + _ ≤ _; omega)
      · obtain ⟨d', hd', rfl⟩ := List.mem_map.mp hd
        exact good_two (Lays.tup (Lay.cons (sI.up (by decide)) (Lay.cons (Lays.tup (Lays.app lc2 (Lay.cons (lw d' hd') lays_nil))) lays_nil))) (by rw [List.length_append]; show _ + 1 ≤ _; omega)
    rintro σ' H9 ⟨L, u6, u7, u8, u9, ua, ub, rfl, k9, bag9, near9⟩
    exact ⟨_, rfl, kont L H9 k9 bag9 near9⟩
end
end K0
set_option maxRecDepth 100000
set_option maxHeartbeats 1000000
namespace K0
open PySem L2 FM He
theorem sqT_ext {K : PySem.W.Frag} {a : Addr} {H H' : Hp} {xs : List V} (e : LamX.ExtN H H') (h : SqT K H a xs) : SqT K H' a xs := by
  rcases h with h | h
  · refine .inl ?_
    rcases h with h | ⟨od, h⟩
    · exact .inl (e _ _ h fun _ z => by cases z)
    · exact .inr ⟨od, e _ _ h fun _ z => by cases z⟩
  · exact .inr h
theorem sqL_ext {K : PySem.W.Frag} {a : Addr} {H H' : Hp} {xs : List V} (e : LamX.ExtN H H') (h : SqL K H a xs) : SqL K H' a xs := by
  rcases h with h | h
  · refine .inl ?_
    rcases h with h | ⟨od, h⟩
    · exact .inl (e _ _ h fun _ z => by cases z)
    · exact .inr ⟨od, e _ _ h fun _ z => by cases z⟩
  · exact .inr h
mutual
theorem Dp.ext {K : PySem.W.Frag} {H H' : Hp} (S : LamX.ExtN H H') : ∀ {v : V} {d : PyData}, Dp K H v d → Dp K H' v d
  | _, _, .non => .non
  | _, _, .bl b => .bl b
  | _, _, .int i => .int i
  | _, _, .str x => .str x
  | _, _, .lst h k => .lst (sqL_ext S h) (DpAll.ext S k)
  | _, _, .tup h k => .tup (sqT_ext S h) (DpAll.ext S k)
theorem DpAll.ext {K : PySem.W.Frag} {H H' : Hp} (S : LamX.ExtN H H') : ∀ {xs : List V} {ds : List PyData}, DpAll K H xs ds → DpAll K H' xs ds
  | _, _, .nil => .nil
  | _, _, .cons h k => .cons (Dp.ext S h) (DpAll.ext S k)
end
theorem EdAt.ext {H H' : Hp} {te : Addr} {ed : List Edg} (h : EdAt H te ed) (S : LamX.ExtN H H') : EdAt H' te ed := by
  obtain ⟨ks, e1, e2, e3⟩ := h
  exact ⟨ks, S _ _ e1 (fun _ z => by cases z), e2, fun p hp => S _ _ (e3 p hp) (fun _ z => by cases z)⟩
theorem PlnAt.ext {H H' : Hp} {p : Addr} {R : RwP} (h : PlnAt H p R) (S : LamX.ExtN H H') : PlnAt H' p R := by
  obtain ⟨a, t, b, h1, h2, h3, h4⟩ := h
  exact ⟨a, t, b, S _ _ h1 (fun _ z => by cases z), S _ _ h2 (fun _ z => by cases z), S _ _ h3 (fun _ z => by cases z), h4.ext S⟩
theorem RwAt.ext {K : PySem.W.Frag} {H H' : Hp} {x : Addr} {P : RwP} {us : List Nat} {ed : List Edg} (h : RwAt K H x P us ed) (S : LamX.ExtN H H') : RwAt K H' x P us ed := by
  obtain ⟨dx, ts, ds, te, de, a1, a2, a3, a4, a5⟩ := h
  exact ⟨dx, ts, ds, te, de, S _ _ a1 (fun _ z => by cases z), S _ _ a2 (fun _ z => by cases z), S _ _ a3 (fun _ z => by cases z), a4.ext S, S _ _ a5 (fun _ z => by cases z)⟩
theorem RwAt.keep {K : PySem.W.Frag} {H H' : Hp} {x b0 : Addr} {P : RwP} {us : List Nat} {ed : List Edg} (h : RwAt K H x P us ed) (bag : BagAt b0 H) (S : Keep (J b0) H H') : RwAt K H' x P us ed := by
  obtain ⟨dx, ts, ds, te, de, a1, a2, a3, ⟨ks, e1, e2, e3⟩, a5⟩ := h
  obtain ⟨g, s, c, hb⟩ := bag
  have ne : ∀ {x : Addr} {o : HO}, H x = some o → (∀ xs, o ≠ .lst xs) → x ≠ b0 := fun {x o} hx n e => by rw [e, hb] at hx; cases hx; exact n _ rfl
  exact ⟨dx, ts, ds, te, de, S _ _ (ne a1 fun _ z => by cases z) a1, S _ _ (ne a2 fun _ z => by cases z) a2, S _ _ (ne a3 fun _ z => by cases z) a3, ⟨ks, S _ _ (ne e1 fun _ z => by cases z) e1, e2, fun p hp => S _ _ (ne (e3 p hp) fun _ z => by cases z) (e3 p hp)⟩, S _ _ (ne a5 fun _ z => by cases z) a5⟩
theorem BagAt.ext {b : Addr} {H H' : Hp} (h : BagAt b H) (S : LamX.ExtN H H') : BagAt b H' := by
  obtain ⟨g, s, c, e⟩ := h
  exact ⟨g, s, c, S _ _ e (fun _ z => by cases z)⟩
/-- besides: the one error that paths raise -/
structure TO (K : PySem.W.Frag) (mg : Str → Option Value) : Prop extends TP K mg where
  g_IO : mg "InvalidOperation" = some (.ref (ga K "InvalidOperation"))
  ex_IO : PySem.W.excIn K (ga K "InvalidOperation") veBase "ValueError.__new__" = true
  kp_IO : PySem.W.keepIn K (.ref (ga K "InvalidOperation")) = true
  ty_IO : PySem.W.typeIn K (.ref (ga K "InvalidOperation")) = some (.type "type")
  sub_IO : PySem.W.subIn K (.ref (ga K "InvalidOperation")) (.type "BaseException") = some true
  exm_IO : PySem.W.exmOne K (.ref (ga K "InvalidOperation")) (.ref (ga K "InvalidOperation")) = some true
end K0
set_option maxRecDepth 100000
set_option maxHeartbeats 4000000
namespace K0
open PySem L2 FM He
section
variable {P : Program} {w : World} {K : PySem.W.Frag} {mg : Str → Option Value} {base : Heap}
def spChp (K : PySem.W.Frag) : Sp := fun vs H Q E => ∃ (x : Addr) (v : V) (R : RwP) (us : List Nat) (ed : List Edg) (d : PyData), vs = [.ref x, v] ∧ R.Ok ∧ Kept R us ed ∧ RwAt K H x R us ed ∧ Dp K H v d ∧ SeqAt.shaped d = true ∧ ∀ H', Same H H' → (trB (atS R.st us) ed d = true → Q .non H') ∧ (trB (atS R.st us) ed d = false → E (.ref (ga K "InvalidOperation")) none H')
theorem ok_check_path {f : Addr} {fd : FuncData} (F : FnP K "_check_path" s__check_path f fd) (T0 : TO K mg) : FnOk P w K mg base (L2.CX P w) 5 f fd ["rewriter", "path"] (spChp K) := by
  have T : TP K mg := T0.toTP
  obtain ⟨d_is_trail, F_is_trail⟩ := T.f_is_trail
  have G_is_trail := ok_is_trail (P := P) (w := w) (base := base) F_is_trail T
  have b_is_trail : Binds K d_is_trail ["rewriter", "value"] [] := F_is_trail.bindsN fun _ _ _ _ _ _ us hl => match us, hl with | [_, _], _ => rfl
  refine F.ok sc__check_path (fun vs H Q E h => ?_) (fun cdv A outer s H vs Q E hr h => ?_)
  · obtain ⟨x, v, R, us, ed, d, rfl, _⟩ := h
    rfl
  · obtain ⟨x, v, R, us, ed, d, rfl, ok, kept, M, hd, sd, kont⟩ := h
    have nd := sc__check_path.nd
    refine ⟨_, (pss_one (ps_if (pt_not (pt_val (pe_call G_is_trail (hr.mono (by decide)) rfl T.g_is_trail F_is_trail.kp b_is_trail .nil pass0 (pa_cons (pv 0) (pa_cons (pv 1) pa_nil))))) (pss_one (ps_raise rfl (takes_of rfl rfl rfl rfl) (pmk_own PySem.F.excBase_ValueError T0.ex_IO T0.g_IO T0.kp_IO (raises_own T0.sub_IO T0.ty_IO) rfl))) pss_nil)), ?_⟩
    refine ⟨_, rfl, _, rfl, x, v, R, us, ed, d, rfl, ok, kept, M, hd, sd, fun H' S => ?_⟩
    obtain ⟨k1, k2⟩ := kont H' S
    cases q : trB (atS R.st us) ed d
    · exact ⟨_, rfl, iteT (k2 q)⟩
    · exact ⟨_, rfl, iteF (k1 q)⟩
def ErrIO (K : PySem.W.Frag) (H : Hp) (E : XK) : Prop := ∀ H', Same H H' → E (.ref (ga K "InvalidOperation")) none H'
def spRds (K : PySem.W.Frag) : Sp := fun vs H Q E => ∃ (x : Addr) (v : V) (R : RwP) (us : List Nat) (ed : List Edg) (d : PyData), vs = [.ref x, v] ∧ R.Ok ∧ Kept R us ed ∧ RwAt K H x R us ed ∧ Dp K H v d ∧ SeqAt.shaped d = true ∧
  ((trB (atS R.st us) ed d = false ∧ ErrIO K H E) ∨ (trB (atS R.st us) ed d = true ∧ ∃ s es, d = pathD s es ∧ es.length ≤ 200 ∧ ∀ H', Same H H' → Q (.str (cT es)) H'))
theorem ok_reads {f : Addr} {fd : FuncData} (F : FnP K "reads" s_reads f fd) (T0 : TO K mg) : FnOk P w K mg base (L2.CX P w) 6 f fd ["rewriter", "path"] (spRds K) := by
  have T : TP K mg := T0.toTP
  obtain ⟨d_check_rewriter, F_check_rewriter⟩ := T.f_check_rewriter
  have G_check_rewriter := ok_check_rewriter (P := P) (w := w) (base := base) F_check_rewriter T
  have b_check_rewriter : Binds K d_check_rewriter ["value"] [] := F_check_rewriter.bindsN fun _ _ _ _ _ _ us hl => match us, hl with | [_], _ => rfl
  obtain ⟨d__check_path, F__check_path⟩ := T.f__check_path
  have G__check_path := ok_check_path (P := P) (w := w) (base := base) F__check_path T0
  have b__check_path : Binds K d__check_path ["rewriter", "path"] [] := F__check_path.bindsN fun _ _ _ _ _ _ us hl => match us, hl with | [_, _], _ => rfl
  obtain ⟨d_text_of, F_text_of⟩ := T.f_text_of
  have G_text_of := ok_text_of (P := P) (w := w) (base := base) F_text_of T
  have b_text_of : Binds K d_text_of ["edges"] [] := F_text_of.bindsN fun _ _ _ _ _ _ us hl => match us, hl with | [_], _ => rfl
  refine F.ok sc_reads (fun vs H Q E h => ?_) (fun cdv A outer s H vs Q E hr h => ?_)
  · obtain ⟨x, v, R, us, ed, d, rfl, _⟩ := h
    rfl
  · obtain ⟨x, v, R, us, ed, d, rfl, ok, kept, M, hd, sd, kont⟩ := h
    have nd := sc_reads.nd
    refine ⟨_, (pss_cons (ps_expr (pe_call G_check_rewriter (hr.mono (by decide)) rfl T.g_check_rewriter F_check_rewriter.kp b_check_rewriter .nil pass0 (pa_cons (pv 0) pa_nil)))
      (pss_cons (ps_expr (pe_call G__check_path (hr.mono (by decide)) rfl T.g__check_path F__check_path.kp b__check_path .nil (passes_call (takes_of rfl rfl rfl rfl) (fun _ _ _ _ h => h)) (pa_cons (pv 0) (pa_cons (pv 1) pa_nil))))
      (pss_one (ps_ret (pe_call G_text_of (hr.mono (by decide)) rfl T.g_text_of F_text_of.kp b_text_of .nil pass0 (pa_cons (pe_ix ix_seq (pv 1) pe_int (fun _ _ => rfl)) pa_nil)))))), ?_⟩
    obtain ⟨dx, _, _, _, _, hx, _⟩ := id M
    refine ⟨_, rfl, x, dx, _, rfl, hx, _, rfl, _, rfl, x, v, R, us, ed, d, rfl, ok, kept, M, hd, sd, fun H1 S1 => ⟨fun t => ?_, fun t => ?_⟩⟩
    · rcases kont with ⟨t', _⟩ | ⟨_, s0, es, rfl, l200, k⟩
      · rw [t] at t'; cases t'
      · obtain ⟨t0, xs, rfl, ht, da⟩ := dp_tup (ds := [.int (s0 : Int), .tuple (es.map fun e => keysD e.row)]) hd
        obtain ⟨v0, v1, rfl, p0, p1⟩ := dpAll2 da
        obtain ⟨r, ys, rfl, hr1, da1⟩ := dp_tup p1
        refine ⟨_, rfl, .inr (.inl ⟨t0, _, 1, _, rfl, rfl, sqT_same S1 ht, rfl, r, ys, es, rfl, sqT_same S1 hr1, DpAll.same S1 da1, l200, fun H2 S2 => k _ (S1.trans S2)⟩)⟩
    · rcases kont with ⟨_, er⟩ | ⟨t', _⟩
      · exact er _ S1
      · rw [t] at t'; cases t'
def spWrs (K : PySem.W.Frag) : Sp := fun vs H Q E => ∃ (x : Addr) (v : V) (R : RwP) (us : List Nat) (ed : List Edg) (d : PyData), vs = [.ref x, v] ∧ R.Ok ∧ Kept R us ed ∧ RwAt K H x R us ed ∧ Dp K H v d ∧ SeqAt.shaped d = true ∧
  ((trB (atS R.st us) ed d = false ∧ ErrIO K H E) ∨ (trB (atS R.st us) ed d = true ∧ ∃ s u es, d = pathD s es ∧ (s, u) ∈ atS R.st us ∧ es.length ≤ 200 ∧ (∀ e ∈ es, e.u.length ≤ 8) ∧ ∀ H', Same H H' → Q (.str (u ++ uT es ++ endW (atS R.en us) (lastS s es))) H'))
theorem ok_writes {f : Addr} {fd : FuncData} (F : FnP K "writes" s_writes f fd) (T0 : TO K mg) : FnOk P w K mg base (L2.CX P w) 6 f fd ["rewriter", "path"] (spWrs K) := by
  have T : TP K mg := T0.toTP
  obtain ⟨d_check_rewriter, F_check_rewriter⟩ := T.f_check_rewriter
  have G_check_rewriter := ok_check_rewriter (P := P) (w := w) (base := base) F_check_rewriter T
  have b_check_rewriter : Binds K d_check_rewriter ["value"] [] := F_check_rewriter.bindsN fun _ _ _ _ _ _ us hl => match us, hl with | [_], _ => rfl
  obtain ⟨d__check_path, F__check_path⟩ := T.f__check_path
  have G__check_path := ok_check_path (P := P) (w := w) (base := base) F__check_path T0
  have b__check_path : Binds K d__check_path ["rewriter", "path"] [] := F__check_path.bindsN fun _ _ _ _ _ _ us hl => match us, hl with | [_, _], _ => rfl
  obtain ⟨d_written_by, F_written_by⟩ := T.f_written_by
  have G_written_by := ok_written_by (P := P) (w := w) (base := base) F_written_by T
  have b_written_by : Binds K d_written_by ["rewriter", "path"] [] := F_written_by.bindsN fun _ _ _ _ _ _ us hl => match us, hl with | [_, _], _ => rfl
  refine F.ok sc_writes (fun vs H Q E h => ?_) (fun cdv A outer s H vs Q E hr h => ?_)
  · obtain ⟨x, v, R, us, ed, d, rfl, _⟩ := h
    rfl
  · obtain ⟨x, v, R, us, ed, d, rfl, ok, kept, M, hd, sd, kont⟩ := h
    have nd := sc_writes.nd
    refine ⟨_, (pss_cons (ps_expr (pe_call G_check_rewriter (hr.mono (by decide)) rfl T.g_check_rewriter F_check_rewriter.kp b_check_rewriter .nil pass0 (pa_cons (pv 0) pa_nil)))
      (pss_cons (ps_expr (pe_call G__check_path (hr.mono (by decide)) rfl T.g__check_path F__check_path.kp b__check_path .nil (passes_call (takes_of rfl rfl rfl rfl) (fun _ _ _ _ h => h)) (pa_cons (pv 0) (pa_cons (pv 1) pa_nil))))
      (pss_one (ps_ret (pe_call G_written_by (hr.mono (by decide)) rfl T.g_written_by F_written_by.kp b_written_by .nil pass0 (pa_cons (pv 0) (pa_cons (pv 1) pa_nil))))))), ?_⟩
    obtain ⟨dx, _, _, _, _, hx, _⟩ := id M
    refine ⟨_, rfl, x, dx, _, rfl, hx, _, rfl, _, rfl, x, v, R, us, ed, d, rfl, ok, kept, M, hd, sd, fun H1 S1 => ⟨fun t => ?_, fun t => ?_⟩⟩
    · rcases kont with ⟨t', _⟩ | ⟨_, s0, u, es, rfl, hu, l200, u8, k⟩
      · rw [t] at t'; cases t'
      · exact ⟨_, rfl, _, rfl, x, v, R, us, ed, s0, u, es, rfl, ok, kept, M.same S1, Dp.same S1 hd, hu, l200, u8, fun H2 S2 => k _ (S1.trans S2)⟩
    · rcases kont with ⟨_, er⟩ | ⟨t', _⟩
      · exact er _ S1
      · rw [t] at t'; cases t'
/-- _law_met: what a call tells, or the word -/
theorem met_gives {X : Cx} {q : Str} {g : Addr} {cdg : Value} (hme : X.mg "InvalidOperation" = some (.ref (ga X.K "InvalidOperation"))) :
    LamX.GivesTo X ["_law_call"] "_law_met" (defScope s__law_met) g cdg (defBody s__law_met) "_law_call" q (LamX.TTold X.K (ga X.K "InvalidOperation") "no path") :=
  LamX.told_gives (by decide +kernel) hme (by decide) fun _ => rfl
end
end K0
set_option maxRecDepth 100000
set_option maxHeartbeats 1000000
namespace K0
open PySem L2 FM He
theorem _root_.LamX.ExtN.same {H H1 H2 : Hp} (e : LamX.ExtN H H1) (S : Same H1 H2) : LamX.ExtN H H2 := e.trans (LamX.ExtN.of S)
abbrev tMet (K : PySem.W.Frag) : (XK → Hp → VK → Prop) → Hp → VK → Prop := LamX.TTold K (ga K "InvalidOperation") "no path"
def EMet (K : PySem.W.Frag) (Q : VK) : XK := fun cls _ H' => ∃ b, PySem.W.exmOne K cls (.ref (ga K "InvalidOperation")) = some b ∧ (b = true → Q (.str "no path") H') ∧ (b = false → False)
def Tells (K : PySem.W.Frag) (Hb : Hp) (σ : L2.St) (t : XK → L2.TE) (s : Str) : Prop := ∀ (H1 : Hp) (Q : VK), LamX.ExtN Hb H1 → (∀ H2, Same H1 H2 → Q (.str s) H2) → t (EMet K Q) σ H1 Q
theorem met_err {K : PySem.W.Frag} {mg : Str → Option Value} (T : TO K mg) {Q : VK} {H1 : Hp} (k : ∀ H2, Same H1 H2 → Q (.str "no path") H2) : ErrIO K H1 (EMet K Q) := fun H' S => ⟨true, T.exm_IO, fun _ => k H' S, Bool.noConfusion⟩
theorem told_lam {K : PySem.W.Frag} {Ts : List (Addr × Str)} {Hb H : Hp} {σ : L2.St} {t : XK → L2.TE} {s : Str} {Q : VK} (ht : LamX.Tabs Ts H) (hb : LamX.ExtN Hb H) (h : Tells K Hb σ t s)
    (k : ∀ H', LamX.ExtN H H' → LamX.Tabs Ts H' → Q (.str s) H') : LamX.tLam Ts (tMet K) t σ H Q :=
  ⟨ht, fun H1 e1 t1 => h H1 Q (hb.trans e1) fun H2 S2 => k H2 (e1.same S2) (t1.ext S2)⟩
theorem extN_put {Hb H1 : Hp} {pf : Addr} {o : HO} (e : LamX.ExtN Hb H1) (no : Hb pf = none) : LamX.ExtN Hb (upd H1 pf o) := fun a u ha n => by
  rw [upd_ne (ne_of_none ha no)]
  exact e a u ha n
theorem tabs_put {Ts : List (Addr × Str)} {H : Hp} {pf : Addr} {xs ys : List V} (h : LamX.Tabs Ts H) (e : H pf = some (.lst xs)) : LamX.Tabs Ts (upd H pf (.lst ys)) := fun p hp => by
  obtain ⟨ps, h1, h2, h3⟩ := h p hp
  refine ⟨ps, by rw [upd_ne (fun z => by rw [z, e] at h1; cases h1)]; exact h1, h2, fun pos cv hc => ?_⟩
  obtain ⟨c, e1, e2⟩ := h3 pos cv hc
  refine ⟨c, e1, ?_⟩
  have ne : c ≠ pf := fun z => by
    rw [z, e] at e2
    have z' : HO.lst xs = HO.ext _ := Option.some.inj e2
    cases z'
  rw [upd_ne ne]
  exact e2
/-- told = [met(..)]; told.append(met(..)) -/
theorem two_told {K : PySem.W.Frag} {Ts : List (Addr × Str)} {H : Hp} {σ : L2.St} {t1 t2 : XK → L2.TE} {s1 s2 : Str} {i : Nat} {rest : TS} {D : Ends} (ht : LamX.Tabs Ts H) (hv : ∀ L : Addr, (σ.set i (some (.ref L)))[i]? = some (some (.ref L)))
    (h1 : Tells K H σ t1 s1) (h2 : ∀ L H', LamX.ExtN H H' → Tells K H' (σ.set i (some (.ref L))) t2 s2)
    (q : ∀ L H', LamX.ExtN H H' → LamX.Tabs Ts H' → H' L = some (.lst [.str s1, .str s2]) → rest D (σ.set i (some (.ref L))) H') :
    tSeq (tAsg (tLst (tCons (LamX.tLam Ts (tMet K) t1) tNil)) (gName i)) (tSeq (tDrop (tBM K "list" rAppend (tVar i) (tCons (LamX.tLam Ts (tMet K) t2) tNil))) rest) D σ H := by
  refine told_lam ht (.refl _) h1 fun HB eB tB => ⟨by show 1 ≤ sizeLine; decide, fun LT nLT => ?_⟩
  have S := same_upd (o := .lst [V.str s1]) nLT
  refine ⟨_, hv LT, .inl ⟨rfl, _, .of upd_same⟩, told_lam (tB.ext S) (.refl _) (h2 LT _ (eB.same S)) fun HC eC tC => ?_⟩
  have hC := eC _ _ upd_same (fun _ z => by cases z)
  refine ⟨LT, [.str s1], .str s2, rfl, rfl, hC, by show 1 < sizeLine; decide, ?_⟩
  exact q LT _ (eB.trans (extN_put ((LamX.ExtN.of S).trans eC) nLT)) (tabs_put tC hC) upd_same
/-- [x] * n -/
theorem rep_mk {x : Str} {n : Nat} {σ : L2.St} {H : Hp} {Q : VK} (hn : n ≤ 100) (k : ∀ q H', Same H H' → H' q = some (.lst ((List.replicate n x).map V.str)) → Q (.ref q) H') : tOp rRep (tLst (tCons (tC (.str x)) tNil)) (tC (.int (n : Nat))) σ H Q := by
  refine ⟨by show 1 ≤ sizeLine; decide, fun p np => ⟨p, n, [.str x], rfl, rfl, upd_same, by omega, by omega, ?_, fun q nq => ?_⟩⟩
  · show 1 * ((n : Nat) : Int).toNat ≤ sizeLine
    rw [sizeLine_eq, Int.toNat_natCast]
    omega
  · refine k q _ ((same_upd np).trans (same_upd nq)) ?_
    rw [upd_same, Int.toNat_natCast, List.flatten_replicate_singleton, List.map_replicate]
end K0
set_option maxRecDepth 100000
set_option maxHeartbeats 2000000
namespace K0
open PySem L2 FM He
def tE : Str := ⟨#[]⟩
def tA : Str := ⟨#[97]⟩
def tBb : Str := ⟨#[98]⟩
def tAA : Str := ⟨#[97, 97]⟩
def tBB : Str := ⟨#[98, 98]⟩
def tAB : Str := ⟨#[97, 98]⟩
def tBA : Str := ⟨#[98, 97]⟩
def dbl1 : List Edg := [⟨0, 97, tA, 0⟩, ⟨0, 98, tBb, 1⟩, ⟨1, 97, tA, 0⟩, ⟨1, 98, tBb, 1⟩]
def dbl2 : List Edg := [⟨2, 97, tAA, 2⟩, ⟨2, 98, tBB, 3⟩, ⟨3, 97, tAA, 2⟩, ⟨3, 98, tBB, 3⟩]
def addE : List Edg := [⟨0, 97, tA, 0⟩, ⟨0, 98, tBb, 0⟩, ⟨0, 97, tBb, 1⟩, ⟨1, 98, tA, 1⟩]
def swp1 : List Edg := [⟨0, 97, tE, 1⟩, ⟨0, 98, tE, 2⟩, ⟨1, 97, tAA, 0⟩, ⟨1, 98, tBA, 0⟩]
def swp2 : List Edg := [⟨2, 97, tAB, 0⟩, ⟨2, 98, tBB, 0⟩]
def one4 : List Edg := [⟨0, 97, tA, 0⟩, ⟨0, 97, tE, 1⟩]
def one5 : List Edg := [⟨0, 97, tA, 0⟩, ⟨0, 98, tBb, 0⟩]
def one6 : List Edg := [⟨0, 97, tE, 0⟩, ⟨0, 98, tE, 1⟩, ⟨1, 97, tE, 0⟩]
def p1 : RwP := ⟨[97, 98], [(0, tE), (2, tE)], dbl1 ++ dbl2, [(0, tE), (3, tE)]⟩
def p2 : RwP := ⟨[97, 98], [(0, tE), (1, tE)], addE, [(1, tE)]⟩
def p3 : RwP := ⟨[97, 98], [(0, tE)], swp1 ++ swp2, [(0, tE), (1, tA), (2, tBb)]⟩
def p4 : RwP := ⟨[97], [(0, tE), (2, tE)], one4, [(1, tE), (2, tE)]⟩
def p5 : RwP := ⟨[97, 98], [(0, tE)], one5, [(0, tE)]⟩
def p6 : RwP := ⟨[97, 98], [(0, tE), (1, tE)], one6, [(1, tBb)]⟩
def sixP : List RwP := [p1, p2, p3, p4, p5, p6]
theorem sixP_ok : ∀ R ∈ sixP, okP R := by decide +kernel
section
variable {P : Program} {w : World} {K : PySem.W.Frag} {mg : Str → Option Value} {base : Heap}
def spSgl (K : PySem.W.Frag) : Sp := fun vs H Q _ => ∃ (b : Addr), vs = [.ref b] ∧ BagAt b H ∧ ∀ p H' R, Keep (J b) H H' → BagAt b H' → R.Ok → R.ed.length ≤ 40 → PlnAt H' p R → Q (.ref p) H'
theorem ok_law_told_one {f : Addr} {fd : FuncData} (F : FnP K "_law_told_one" s__law_told_one f fd) (T : TP K mg) : FnOk P w K mg base CX0 4 f fd ["_law_bag"] (spSgl K) := by
  obtain ⟨d__law_pick, F__law_pick⟩ := T.f__law_pick
  have G__law_pick := ok_law_pick (P := P) (w := w) (base := base) F__law_pick T
  have b__law_pick : Binds K d__law_pick ["_law_bag", "_law_items"] [] := F__law_pick.bindsN fun _ _ _ _ _ _ us hl => match us, hl with | [_, _], _ => rfl
  refine F.ok sc__law_told_one (fun vs H Q E h => ?_) (fun cdv A outer s H vs Q E hr h => ?_)
  · obtain ⟨b, rfl, _⟩ := h
    rfl
  · obtain ⟨b, rfl, bag, kont⟩ := h
    have nd := sc__law_told_one.nd
    have hu64 := hr.units
    have hu1 := Nat.lt_of_le_of_lt (Nat.add_le_add_left (by decide : 1 ≤ 64) _) hu64
    have big : (100000 : Nat) ≤ sizeLine := by decide
    refine ⟨_, PSs.nox (pss_cons (ps_set (i := 1) nd rfl (.inl rfl) (pe_lst (pa_cons (pe_tup (pa_cons pe_int (pa_cons pe_str (pa_cons pe_str (pa_cons pe_int pa_nil))))) (pa_cons (pe_tup (pa_cons pe_int (pa_cons pe_str (pa_cons pe_str (pa_cons pe_int pa_nil))))) (pa_cons (pe_tup (pa_cons pe_int (pa_cons pe_str (pa_cons pe_str (pa_cons pe_int pa_nil))))) (pa_cons (pe_tup (pa_cons pe_int (pa_cons pe_str (pa_cons pe_str (pa_cons pe_int pa_nil))))) pa_nil))))))
      (pss_cons (ps_set (i := 1) nd rfl (.inl rfl) (pe_op op_cat (pv 1) (pe_lst (pa_cons (pe_tup (pa_cons pe_int (pa_cons pe_str (pa_cons pe_str (pa_cons pe_int pa_nil))))) (pa_cons (pe_tup (pa_cons pe_int (pa_cons pe_str (pa_cons pe_str (pa_cons pe_int pa_nil))))) (pa_cons (pe_tup (pa_cons pe_int (pa_cons pe_str (pa_cons pe_str (pa_cons pe_int pa_nil))))) (pa_cons (pe_tup (pa_cons pe_int (pa_cons pe_str (pa_cons pe_str (pa_cons pe_int pa_nil))))) pa_nil)))))))
      (pss_cons (ps_set (i := 2) nd rfl (.inl rfl) (pe_tup (pa_cons (pe_tup (pa_cons pe_int (pa_cons pe_str (pa_cons pe_str (pa_cons pe_int pa_nil))))) (pa_cons (pe_tup (pa_cons pe_int (pa_cons pe_str (pa_cons pe_str (pa_cons pe_int pa_nil))))) (pa_cons (pe_tup (pa_cons pe_int (pa_cons pe_str (pa_cons pe_str (pa_cons pe_int pa_nil))))) (pa_cons (pe_tup (pa_cons pe_int (pa_cons pe_str (pa_cons pe_str (pa_cons pe_int pa_nil))))) pa_nil))))))
      (pss_cons (ps_set (i := 3) nd rfl (.inl rfl) (pe_tup (pa_cons (pe_tup (pa_cons pe_int (pa_cons pe_str (pa_cons pe_str (pa_cons pe_int pa_nil))))) (pa_cons (pe_tup (pa_cons pe_int (pa_cons pe_str (pa_cons pe_str (pa_cons pe_int pa_nil))))) (pa_cons (pe_tup (pa_cons pe_int (pa_cons pe_str (pa_cons pe_str (pa_cons pe_int pa_nil))))) (pa_cons (pe_tup (pa_cons pe_int (pa_cons pe_str (pa_cons pe_str (pa_cons pe_int pa_nil))))) pa_nil))))))
      (pss_cons (ps_set (i := 3) nd rfl (.inl rfl) (pe_op op_catA (pv 3) (pe_tup (pa_cons (pe_tup (pa_cons pe_int (pa_cons pe_str (pa_cons pe_str (pa_cons pe_int pa_nil))))) (pa_cons (pe_tup (pa_cons pe_int (pa_cons pe_str (pa_cons pe_str (pa_cons pe_int pa_nil))))) pa_nil)))))
      (pss_cons (ps_set (i := 4) nd rfl (.inl rfl) (pe_lst (pa_cons (pe_tup (pa_cons pe_str (pa_cons (pe_disp (pps_cons pe_int pe_str (pps_cons pe_int pe_str pps_nil)) rfl rfl (fun z => nomatch z) (by decide)) (pa_cons (pe_callTy call_tuple_of (by rfl) T.b_tuple (by decide +kernel) (pa_cons (pv 1) pa_nil)) (pa_cons (pe_disp (pps_cons pe_int pe_str (pps_cons pe_int pe_str pps_nil)) rfl rfl (fun z => nomatch z) (by decide)) pa_nil))))) (pa_cons (pe_tup (pa_cons pe_str (pa_cons (pe_disp (pps_cons pe_int pe_str (pps_cons pe_int pe_str pps_nil)) rfl rfl (fun z => nomatch z) (by decide)) (pa_cons (pv 2) (pa_cons (pe_disp (pps_cons pe_int pe_str pps_nil) rfl rfl (fun z => nomatch z) (by decide)) pa_nil))))) pa_nil))))
      (pss_cons (ps_expr (pe_bm PySem.F.plainAttrs_list PySem.F.slot_list_append PySem.F.type_list_append mt_append (pv 4) (pa_cons (pe_tup (pa_cons pe_str (pa_cons (pe_disp (pps_cons pe_int pe_str pps_nil) rfl rfl (fun z => nomatch z) (by decide)) (pa_cons (pv 3) (pa_cons (pe_disp (pps_cons pe_int pe_str (pps_cons pe_int pe_str (pps_cons pe_int pe_str pps_nil))) rfl rfl (fun z => nomatch z) (by decide)) pa_nil))))) pa_nil)))
      (pss_cons (ps_expr (pe_bm PySem.F.plainAttrs_list PySem.F.slot_list_append PySem.F.type_list_append mt_append (pv 4) (pa_cons (pe_tup (pa_cons pe_str (pa_cons (pe_disp (pps_cons pe_int pe_str (pps_cons pe_int pe_str pps_nil)) rfl rfl (fun z => nomatch z) (by decide)) (pa_cons (pe_tup (pa_cons (pe_tup (pa_cons pe_int (pa_cons pe_str (pa_cons pe_str (pa_cons pe_int pa_nil))))) (pa_cons (pe_tup (pa_cons pe_int (pa_cons pe_str (pa_cons pe_str (pa_cons pe_int pa_nil))))) pa_nil))) (pa_cons (pe_disp (pps_cons pe_int pe_str (pps_cons pe_int pe_str pps_nil)) rfl rfl (fun z => nomatch z) (by decide)) pa_nil))))) pa_nil)))
      (pss_cons (ps_expr (pe_bm PySem.F.plainAttrs_list PySem.F.slot_list_append PySem.F.type_list_append mt_append (pv 4) (pa_cons (pe_tup (pa_cons pe_str (pa_cons (pe_disp (pps_cons pe_int pe_str pps_nil) rfl rfl (fun z => nomatch z) (by decide)) (pa_cons (pe_tup (pa_cons (pe_tup (pa_cons pe_int (pa_cons pe_str (pa_cons pe_str (pa_cons pe_int pa_nil))))) (pa_cons (pe_tup (pa_cons pe_int (pa_cons pe_str (pa_cons pe_str (pa_cons pe_int pa_nil))))) pa_nil))) (pa_cons (pe_disp (pps_cons pe_int pe_str pps_nil) rfl rfl (fun z => nomatch z) (by decide)) pa_nil))))) pa_nil)))
      (pss_cons (ps_expr (pe_bm PySem.F.plainAttrs_list PySem.F.slot_list_append PySem.F.type_list_append mt_append (pv 4) (pa_cons (pe_tup (pa_cons pe_str (pa_cons (pe_disp (pps_cons pe_int pe_str (pps_cons pe_int pe_str pps_nil)) rfl rfl (fun z => nomatch z) (by decide)) (pa_cons (pe_tup (pa_cons (pe_tup (pa_cons pe_int (pa_cons pe_str (pa_cons pe_str (pa_cons pe_int pa_nil))))) (pa_cons (pe_tup (pa_cons pe_int (pa_cons pe_str (pa_cons pe_str (pa_cons pe_int pa_nil))))) (pa_cons (pe_tup (pa_cons pe_int (pa_cons pe_str (pa_cons pe_str (pa_cons pe_int pa_nil))))) pa_nil)))) (pa_cons (pe_disp (pps_cons pe_int pe_str pps_nil) rfl rfl (fun z => nomatch z) (by decide)) pa_nil))))) pa_nil)))
      (pss_one (ps_ret (pe_call G__law_pick (hr.mono (by decide)) rfl T.g__law_pick F__law_pick.kp b__law_pick .nil pass0 (pa_cons (pv 0) (pa_cons (pv 4) pa_nil))))))))))))))), ?_⟩
    refine seq_edges (es := dbl1) (i := 1) (by decide) fun D1 ks1 H1 S1 _ d1 e1 k1 => ?_
    refine seq_edges2 (es := dbl2) (i := 1) (by decide) (by decide) rfl d1 e1 k1 fun D2 ks2 H2 S2 d2 e2 k2 => ?_
    refine seq_edgT (es := addE) (i := 2) (by decide) fun t3 ks3 H3 S3 d3 e3 k3 => ?_
    refine seq_edgT (es := swp1) (i := 3) (by decide) fun t4 ks4 H4 S4 d4 e4 k4 => ?_
    refine seq_edgT2 (K := K) (es := swp2) (es0 := swp1) (i := 3) (by decide) (by decide) (by decide) (by decide) rfl d4 e4 k4 fun t5 ks5 H5 S5 d5 e5 k5 => ?_
    have S45 := S4.trans S5
    have d2 := S45 _ _ (S3 _ _ d2)
    have k2 := (k2.same S3).same S45
    have d3 := S45 _ _ d3
    have k3 := k3.same S45
    have SA := S1.trans (S2.trans (S3.trans S45))
    refine seq_p2 (c := p1) (d := p2) (i := 4) (pln_run rfl (rdS_disp (st := p1.st) rfl (by decide)) (rdT_list (K := K) rfl d2 e2 k2) (rdS_disp (st := p1.en) rfl (by decide))) (pln_run rfl (rdS_disp (st := p2.st) rfl (by decide)) (rdT_var rfl d3 e3 k3) (rdS_disp (st := p2.en) rfl (by decide))) fun L H6 S6 nL l6 => ?_
    have nLH := SA.free nL
    have d5 := S6 _ _ d5
    have k5 := k5.same S6
    have SB := SA.trans S6
    refine seq_pa (K := K) (i := 4) (c := p3) rfl SB nLH l6 (by decide) (pln_run rfl (rdS_disp (st := p3.st) rfl (by decide)) (rdT_var rfl d5 e5 k5) (rdS_disp (st := p3.en) rfl (by decide))) fun H7 SC l7 => ?_
    refine seq_pa (K := K) (i := 4) (c := p4) rfl SC nLH l7 (by decide) (pln_run rfl (rdS_disp (st := p4.st) rfl (by decide)) (rdT_tup (es := p4.ed) (by decide)) (rdS_disp (st := p4.en) rfl (by decide))) fun H8 SD l8 => ?_
    refine seq_pa (K := K) (i := 4) (c := p5) rfl SD nLH l8 (by decide) (pln_run rfl (rdS_disp (st := p5.st) rfl (by decide)) (rdT_tup (es := p5.ed) (by decide)) (rdS_disp (st := p5.en) rfl (by decide))) fun H9 SE l9 => ?_
    refine seq_pa (K := K) (i := 4) (c := p6) rfl SE nLH l9 (by decide) (pln_run rfl (rdS_disp (st := p6.st) rfl (by decide)) (rdT_tup (es := p6.ed) (by decide)) (rdS_disp (st := p6.en) rfl (by decide))) fun H10 SF l10 => ?_
    obtain ⟨xs, hL, pr⟩ := l10
    have Lb : L ≠ b := bag_ne bag nLH
    refine ⟨_, rfl, _, rfl, ?_⟩
    (try unfold tCons); (try unfold tC); (try unfold tNil)
    show spPick K [V.ref b, V.ref L] _ _ _
    refine pick_list (bag.same SF) hL (by rw [List.length_map, Paired.length pr]; decide) (by rw [List.length_map, Paired.length pr]; decide) (fun y HZ kz bagz _ hy => ?_) Lb
    obtain ⟨x, hx, rfl⟩ := List.mem_map.mp hy
    obtain ⟨j, R, _, hR, hP⟩ := LiI.paired_ix pr hx
    have okR := sixP_ok R (List.mem_of_getElem? hR)
    exact kont x HZ R ((Keep.of SF).trans kz) bagz (okP_ok okR) okR.2.2.2.1 (hP.keep (bag.same SF) kz)
end
end K0
set_option maxRecDepth 100000
set_option maxHeartbeats 4000000
namespace K0
open PySem L2 FM He
section
variable {P : Program} {w : World} {K : PySem.W.Frag} {mg : Str → Option Value} {base : Heap}
def spMov (K : PySem.W.Frag) : Sp := fun vs H Q _ => ∃ (p : Addr) (C : RwP) (k : Nat), vs = [.ref p, .int (k : Nat)] ∧ C.Ok ∧ (RwP.mv k C).Ok ∧ PlnAt H p C ∧ ∀ q H', Same H H' → H q = none → PlnAt H' q (RwP.mv k C) → Q (.ref q) H'
theorem ok_law_moved {f : Addr} {fd : FuncData} (F : FnP K "_law_moved" s__law_moved f fd) (T : TP K mg) : FnOk P w K mg base CX0 1 f fd ["_law_plain", "_law_by"] (spMov K) := by

  refine F.ok sc__law_moved (fun vs H Q E h => ?_) (fun cdv A outer s H vs Q E hr h => ?_)
  · obtain ⟨p, C, k, rfl, _⟩ := h
    rfl
  · obtain ⟨p, C, k, rfl, ok, okM, hp, kont⟩ := h
    have nd := sc__law_moved.nd
    have hu64 := hr.units
    have hu1 := Nat.lt_of_le_of_lt (Nat.add_le_add_left (by decide : 1 ≤ 64) _) hu64
    have big : (100000 : Nat) ≤ sizeLine := by decide
    refine ⟨_, PSs.nox (pss_cons (ps_set (i := 2) nd rfl (.inl rfl) (pe_callTy (call_dictP rfl) (by rfl) T.b_dict (by decide +kernel) (pa_cons (pe_lock (pe_lc (own := [("_law_room", 3)]) rfl nd (pi_keys (pe_ix ix_seq (pv 0) pe_int (fun _ _ => rfl))) (blkOk_by (own := [("_law_room", 3)]) (N := ["_law_plain", "_law_by", "_law_first", "_law_room", "_law_last", "_law_edges", "_law_a", "_law_sign", "_law_word", "_law_b"]) (sc := defScope s__law_moved) (by decide +kernel)) (fun _ _ _ _ _ => (pg_name (i := 3) nd rfl (.inl rfl))) (fun _ _ _ _ _ => pts_nil) (fun _ _ _ _ _ => (pe_tup (pa_cons (pe_op op_add (pv 3) (pv 1)) (pa_cons (pe_dget hu1 (pe_ix (ix_seq : IxR _ (rIx K)) (pv 0) pe_int (fun _ _ => rfl)) (pv 3) (fun _ _ => rfl)) pa_nil)))))) pa_nil)))
      (pss_cons (ps_set (i := 4) nd rfl (.inl rfl) (pe_callTy (call_dictP rfl) (by rfl) T.b_dict (by decide +kernel) (pa_cons (pe_lock (pe_lc (own := [("_law_room", 3)]) rfl nd (pi_keys (pe_ix ix_seq (pv 0) pe_int (fun _ _ => rfl))) (blkOk_by (own := [("_law_room", 3)]) (N := ["_law_plain", "_law_by", "_law_first", "_law_room", "_law_last", "_law_edges", "_law_a", "_law_sign", "_law_word", "_law_b"]) (sc := defScope s__law_moved) (by decide +kernel)) (fun _ _ _ _ _ => (pg_name (i := 3) nd rfl (.inl rfl))) (fun _ _ _ _ _ => pts_nil) (fun _ _ _ _ _ => (pe_tup (pa_cons (pe_op op_add (pv 3) (pv 1)) (pa_cons (pe_dget hu1 (pe_ix (ix_seq : IxR _ (rIx K)) (pv 0) pe_int (fun _ _ => rfl)) (pv 3) (fun _ _ => rfl)) pa_nil)))))) pa_nil)))
      (pss_cons (ps_set (i := 5) nd rfl (.inl rfl) (pe_lst pa_nil))
      (pss_cons (ps_for PassesOwn.never rfl (pi_tup (pe_ix ix_seq (pv 0) pe_int (fun _ _ => rfl))) (pg_tup (by rfl) (pgs_cons (pg_name (i := 6) nd rfl (.inl rfl)) (pgs_cons (pg_name (i := 7) nd rfl (.inl rfl)) (pgs_cons (pg_name (i := 8) nd rfl (.inl rfl)) (pgs_cons (pg_name (i := 9) nd rfl (.inl rfl)) pgs_nil))))) (pss_one (ps_expr (pe_bm PySem.F.plainAttrs_list PySem.F.slot_list_append PySem.F.type_list_append mt_append (pv 5) (pa_cons (pe_tup (pa_cons (pe_op op_add (pv 6) (pv 1)) (pa_cons (pv 7) (pa_cons (pv 8) (pa_cons (pe_op op_add (pv 9) (pv 1)) pa_nil))))) pa_nil)))))
      (pss_one (ps_ret (pe_tup (pa_cons (pe_ix ix_seq (pv 0) pe_int (fun _ _ => rfl)) (pa_cons (pv 2) (pa_cons (pe_callTy call_tuple_of (by rfl) T.b_tuple (by decide +kernel) (pa_cons (pv 5) pa_nil)) (pa_cons (pv 4) pa_nil))))))))))), ?_⟩
    obtain ⟨a0, t0, b0, h1, h2, h3, ks, h4, h5, h6⟩ := id hp
    have hp0 := h1
    have pa0 : p ≠ a0 := fun z => by rw [z, h2] at h1; cases h1
    have pb0 : p ≠ b0 := fun z => by rw [z, h3] at h1; cases h1
    have okSt : TblOk (renS (· + k) C.st) := okM.st
    have okEn : TblOk (renS (· + k) C.en) := okM.en
    have lS := ents_len okSt
    have lE := ents_len okEn
    have few := ok.few
    -- the words before
    refine ⟨a0, _, h2, trivial, fun od => ?_⟩
    refine ⟨_, rfl, .inr (.inl ⟨p, _, 1, _, rfl, rfl, .of (by rw [upd_ne pa0]; exact h1), atI_nat (j := 1) rfl, a0, od, rfl, .inl ⟨_, upd_same, fun D nD => ?_⟩⟩)⟩
    refine lc_st (σ' := [some (.ref p), some (.int (k : Nat)), none, none, none, none, none, none, none, none]) walk_keys rfl (fun i H' => Same (upd H a0 (.frz od (.dK (entW C.st)))) H' ∧ PrL H' D ((entW (renS (· + k) C.st)).take i)) ⟨same_upd nD, PrL.nil⟩ (fun i H' _ h => h.1 _ _ upd_same) ?_ ?_
    · rintro i y H7' H7 hi ⟨S, zs, c1, c2, c3⟩ ⟨rfl, kk, v, he, rfl⟩
      unfold entW at he
      rw [List.getElem?_map] at he
      obtain ⟨q, hq, e⟩ := Option.map_eq_some_iff.mp he
      cases e
      have hn : (entW (renS (· + k) C.st))[i]? = some (.inl ((q.1 + k : Nat) : Int), .str q.2) := by
        unfold entW renS
        rw [List.getElem?_map, List.getElem?_map, hq]
        rfl
      have qm := List.mem_of_getElem? hq
      have gv : DGet H7 a0 (.int (q.1 : Int)) (valV (entW C.st) (.inl (q.1 : Int))) := .inl ⟨_, .inl (q.1 : Int), .inr ⟨od, S _ _ upd_same⟩, rfl, rfl⟩
      rw [entW_get ok.st (u := q.2) qm] at gv
      have hpF : upd H a0 (.frz od (.dK (entW C.st))) p = some (.tup [.str (sgTxt C.sg), .ref a0, .ref t0, .ref b0]) := by rw [upd_ne pa0]; exact h1
      refine ⟨rfl, _, rfl, _, rfl, _, _, rfl, rfl, _, rfl, .inr (.inl ⟨p, _, 1, _, rfl, rfl, .of (S _ _ hpF), atI_nat (j := 1) rfl, _, rfl, a0, _, rfl, gv, by show 2 ≤ _; decide, fun nb nnb => ?_⟩)⟩
      have SB := same_upd (o := .tup [.int ((q.1 : Int) + (k : Int)), .str q.2]) nnb
      have zl : zs.length ≤ 12 := by
        have := congrArg List.length c2
        rw [List.length_map, List.length_take] at this
        unfold entW at this
        rw [List.length_map] at this
        omega
      refine ⟨_, SB _ _ c1, by rw [List.length_map]; omega, upd_far nD (S.trans SB), ?_⟩
      rw [List.take_add_one, hn]
      exact PrL.push (SB _ _ c1) c2 (fun z hz => SB _ _ (c3 z hz)) upd_same
    rintro H7 ⟨S, hD⟩
    rw [show (entW C.st).length = (entW (renS (· + k) C.st)).length by unfold entW renS; simp, List.take_length] at hD
    refine ⟨S _ _ upd_same, ?_⟩
    have S7 := same_unlock h2 S
    have hD7 := hD.unlock (o2 := .dK (entW C.st)) (S _ _ upd_same)
    generalize upd H7 a0 (.dK (entW C.st)) = H7 at S7 hD7 ⊢
    clear S hD nD
    obtain ⟨tsD, sqD, prD⟩ := hD7.pairs (K := K)
    refine ⟨D, tsD, _, rfl, sqD, prD, fun da0 nda0 => ?_⟩
    rw [merge_nd (entW_nd okSt)]
    have nda := S7.free nda0
    have S8 := S7.trans (same_upd (o := .dK (entW (renS (· + k) C.st))) nda0)
    have hda0 : upd H7 da0 (.dK (entW (renS (· + k) C.st))) da0 = some (.dK (entW (renS (· + k) C.st))) := upd_same
    generalize upd H7 da0 (.dK (entW (renS (· + k) C.st))) = H8 at S8 hda0 ⊢
    clear S7 hD7 sqD prD nda0
    have h1 := S8 _ _ h1
    have h3 := S8 _ _ h3
    -- the words after
    refine ⟨b0, _, h3, trivial, fun od => ?_⟩
    refine ⟨_, rfl, .inr (.inl ⟨p, _, 3, _, rfl, rfl, .of (by rw [upd_ne pb0]; exact h1), atI_nat (j := 3) rfl, b0, od, rfl, .inl ⟨_, upd_same, fun D nD => ?_⟩⟩)⟩
    refine lc_st (σ' := [some (.ref p), some (.int (k : Nat)), some (.ref da0), none, none, none, none, none, none, none]) walk_keys rfl (fun i H' => Same (upd H8 b0 (.frz od (.dK (entW C.en)))) H' ∧ PrL H' D ((entW (renS (· + k) C.en)).take i)) ⟨same_upd nD, PrL.nil⟩ (fun i H' _ h => h.1 _ _ upd_same) ?_ ?_
    · rintro i y H7' H7 hi ⟨S, zs, c1, c2, c3⟩ ⟨rfl, kk, v, he, rfl⟩
      unfold entW at he
      rw [List.getElem?_map] at he
      obtain ⟨q, hq, e⟩ := Option.map_eq_some_iff.mp he
      cases e
      have hn : (entW (renS (· + k) C.en))[i]? = some (.inl ((q.1 + k : Nat) : Int), .str q.2) := by
        unfold entW renS
        rw [List.getElem?_map, List.getElem?_map, hq]
        rfl
      have qm := List.mem_of_getElem? hq
      have gv : DGet H7 b0 (.int (q.1 : Int)) (valV (entW C.en) (.inl (q.1 : Int))) := .inl ⟨_, .inl (q.1 : Int), .inr ⟨od, S _ _ upd_same⟩, rfl, rfl⟩
      rw [entW_get ok.en (u := q.2) qm] at gv
      have hpF : upd H8 b0 (.frz od (.dK (entW C.en))) p = some (.tup [.str (sgTxt C.sg), .ref a0, .ref t0, .ref b0]) := by rw [upd_ne pb0]; exact h1
      refine ⟨rfl, _, rfl, _, rfl, _, _, rfl, rfl, _, rfl, .inr (.inl ⟨p, _, 3, _, rfl, rfl, .of (S _ _ hpF), atI_nat (j := 3) rfl, _, rfl, b0, _, rfl, gv, by show 2 ≤ _; decide, fun nb nnb => ?_⟩)⟩
      have SB := same_upd (o := .tup [.int ((q.1 : Int) + (k : Int)), .str q.2]) nnb
      have zl : zs.length ≤ 12 := by
        have := congrArg List.length c2
        rw [List.length_map, List.length_take] at this
        unfold entW at this
        rw [List.length_map] at this
        omega
      refine ⟨_, SB _ _ c1, by rw [List.length_map]; omega, upd_far nD (S.trans SB), ?_⟩
      rw [List.take_add_one, hn]
      exact PrL.push (SB _ _ c1) c2 (fun z hz => SB _ _ (c3 z hz)) upd_same
    rintro H7 ⟨S, hD⟩
    rw [show (entW C.en).length = (entW (renS (· + k) C.en)).length by unfold entW renS; simp, List.take_length] at hD
    refine ⟨S _ _ upd_same, ?_⟩
    have S7 := same_unlock h3 S
    have hD7 := hD.unlock (o2 := .dK (entW C.en)) (S _ _ upd_same)
    generalize upd H7 b0 (.dK (entW C.en)) = H9 at S7 hD7 ⊢
    clear S hD nD
    obtain ⟨tsD, sqD, prD⟩ := hD7.pairs (K := K)
    refine ⟨D, tsD, _, rfl, sqD, prD, fun db0 ndb0 => ?_⟩
    rw [merge_nd (entW_nd okEn)]
    have S9 := S7.trans (same_upd (o := .dK (entW (renS (· + k) C.en))) ndb0)
    have hdb0 : upd H9 db0 (.dK (entW (renS (· + k) C.en))) db0 = some (.dK (entW (renS (· + k) C.en))) := upd_same
    generalize upd H9 db0 (.dK (entW (renS (· + k) C.en))) = H10 at S9 hdb0 ⊢
    clear S7 hD7 sqD prD ndb0
    have hda0 := S9 _ _ hda0
    have S10 := S8.trans S9
    have e1 : ks.length = C.ed.length := by rw [← h5, List.length_map]
    have h1 := S10 _ _ hp0
    have h4 := S10 _ _ h4
    have h6 : ∀ q ∈ ks, H10 q.1 = some (.tup (q.2.row.map kV)) := fun q hq => S10 _ _ (h6 q hq)
    refine ⟨by show 0 ≤ _; omega, fun L nL => ?_⟩
    have hL : upd H10 L (.lst []) L = some (.lst (([] : List (Addr × Edg)).map fun p => V.ref p.1)) := upd_same
    have SL := same_upd (o := .lst []) nL
    refine ⟨_, rfl, .inr (.inl ⟨p, _, 2, .ref t0, rfl, rfl, .of (SL _ _ h1), atI_nat (j := 2) rfl, t0, rfl, ⟨_, .of (SL _ _ h4)⟩, ?_⟩)⟩
    refine for_it walk_tup (fun i σ H' => ∃ (u6 u7 u8 u9 : Option V), σ = [some (.ref p), some (.int (k : Nat)), some (.ref da0), none, some (.ref db0), some (.ref L), u6, u7, u8, u9] ∧ Same H10 H' ∧ EdL H' L ((C.ed.take i).map (Edg.ren (· + k))))
      ⟨_, _, _, _, rfl, SL, [], hL, rfl, fun p hp => by cases hp⟩ (fun _ _ _ _ h => by obtain ⟨_, _, _, _, _, h, _⟩ := h; exact .of (h _ _ h4)) ?_ ?_
    · rintro i y σ H2 H2' hi ⟨u6, u7, u8, u9, rfl, S2, cs, c1, c2, c3⟩ ⟨rfl, hy⟩
      rw [List.getElem?_map] at hy
      obtain ⟨q, hq, rfl⟩ := Option.map_eq_some_iff.mp hy
      have qm := List.mem_of_getElem? hq
      have hk := S2 _ _ (h6 q qm)
      have ei : C.ed[i]? = some q.2 := by rw [← h5, List.getElem?_map, hq]; rfl
      have cl : cs.length ≤ 63 := by
        have := congrArg List.length c2
        rw [List.length_map, List.length_map, List.length_take] at this
        omega
      refine ⟨q.1, _, rfl, .of hk, rfl, _, _, rfl, _, _, rfl, _, _, rfl, _, _, rfl, rfl, ?_⟩
      refine ⟨_, rfl, .inl ⟨rfl, _, .of c1⟩, ?_⟩
      refine ⟨_, rfl, _, rfl, _, _, rfl, rfl, _, rfl, _, rfl, _, rfl, _, rfl, _, _, rfl, rfl, by show 4 ≤ _; omega, fun nb nnb => ?_⟩
      have SB := same_upd (o := .tup [.int ((q.2.a : Int) + (k : Int)), .str ⟨#[q.2.c]⟩, .str q.2.u, .int ((q.2.b : Int) + (k : Int))]) nnb
      refine ⟨L, _, _, rfl, rfl, SB _ _ c1, by rw [List.length_map]; omega, ?_⟩
      refine ⟨_, _, _, _, rfl, upd_far nL (S2.trans SB), ?_⟩
      rw [List.take_add_one, ei]
      show EdL _ L (List.map (Edg.ren (· + k)) (C.ed.take i ++ [q.2]))
      rw [List.map_append]
      exact EdL.push (SB _ _ c1) c2 (fun p hp => SB _ _ (c3 p hp)) upd_same
    · rintro σ H2 ⟨u6, u7, u8, u9, rfl, S2, cs, c1, c2, c3⟩
      rw [List.length_map, e1, List.take_length] at c2
      refine ⟨_, rfl, .inr (.inl ⟨p, _, 0, _, rfl, rfl, .of (S2 _ _ h1), atI_nat (j := 0) rfl, ?_⟩)⟩
      refine ⟨_, rfl, _, rfl, L, _, rfl, .inl ⟨.of c1, fun tf ntf => ?_⟩⟩
      have S12 := same_upd (o := .tup (cs.map fun p => V.ref p.1)) ntf
      refine ⟨_, rfl, by show 4 ≤ _; omega, fun r nr => ?_⟩
      have S13 := S12.trans (same_upd (o := .tup [.str (sgTxt C.sg), .ref da0, .ref tf, .ref db0]) nr)
      exact kont r _ (S10.trans (S2.trans S13)) (S10.free (S2.free (S12.free nr))) ⟨da0, tf, db0, upd_same, S13 _ _ (S2 _ _ hda0), S13 _ _ (S2 _ _ hdb0), cs, same_upd nr _ _ upd_same, c2, fun q hq => S13 _ _ (c3 q hq)⟩
end
end K0
set_option maxRecDepth 100000
set_option maxHeartbeats 4000000
namespace K0
open PySem L2 FM He
section
variable {P : Program} {w : World} {K : PySem.W.Frag} {mg : Str → Option Value} {base : Heap}
def spJoi (K : PySem.W.Frag) : Sp := fun vs H Q _ => ∃ (p q : Addr) (A B : RwP), vs = [.ref p, .ref q] ∧ A.Ok ∧ B.Ok ∧ (RwP.join A B).Ok ∧ PlnAt H p A ∧ PlnAt H q B ∧ ∀ r H', Same H H' → H r = none → PlnAt H' r (RwP.join A B) → Q (.ref r) H'
theorem ok_law_joined {f : Addr} {fd : FuncData} (F : FnP K "_law_joined" s__law_joined f fd) (T : TP K mg) : FnOk P w K mg base CX0 1 f fd ["_law_one", "_law_two"] (spJoi K) := by

  refine F.ok sc__law_joined (fun vs H Q E h => ?_) (fun cdv A outer s H vs Q E hr h => ?_)
  · obtain ⟨p, q, A, B, rfl, _⟩ := h
    rfl
  · obtain ⟨p, q, A, B, rfl, okA, okB, okJ, hp, hq, kont⟩ := h
    have nd := sc__law_joined.nd
    have hu64 := hr.units
    have hu1 := Nat.lt_of_le_of_lt (Nat.add_le_add_left (by decide : 1 ≤ 64) _) hu64
    have big : (100000 : Nat) ≤ sizeLine := by decide
    refine ⟨_, PSs.nox (pss_cons (ps_set (i := 2) nd rfl (.inl rfl) (pe_callTy (call_dictP rfl) (by rfl) T.b_dict (by decide +kernel) (pa_cons (pe_op op_cat (LiI.pe_listItems rfl (pe_ix ix_seq (pv 0) pe_int (fun _ _ => rfl)) (by rfl) T.b_list (by decide +kernel)) (LiI.pe_listItems rfl (pe_ix ix_seq (pv 1) pe_int (fun _ _ => rfl)) (by rfl) T.b_list (by decide +kernel))) pa_nil)))
      (pss_cons (ps_set (i := 3) nd rfl (.inl rfl) (pe_callTy (call_dictP rfl) (by rfl) T.b_dict (by decide +kernel) (pa_cons (pe_op op_cat (LiI.pe_listItems rfl (pe_ix ix_seq (pv 0) pe_int (fun _ _ => rfl)) (by rfl) T.b_list (by decide +kernel)) (LiI.pe_listItems rfl (pe_ix ix_seq (pv 1) pe_int (fun _ _ => rfl)) (by rfl) T.b_list (by decide +kernel))) pa_nil)))
      (pss_one (ps_ret (pe_tup (pa_cons (pe_ix ix_seq (pv 0) pe_int (fun _ _ => rfl)) (pa_cons (pv 2) (pa_cons (pe_op op_catA (pe_ix ix_seq (pv 0) pe_int (fun _ _ => rfl)) (pe_ix ix_seq (pv 1) pe_int (fun _ _ => rfl))) (pa_cons (pv 3) pa_nil))))))))), ?_⟩
    obtain ⟨a1, t1, b1, h1, h2, h3, e1⟩ := id hp
    obtain ⟨a2, t2, b2, g1, g2, g3, e2⟩ := id hq
    have l1 := ents_len okA.st
    have l2 := ents_len okB.st
    have l3 := ents_len okA.en
    have l4 := ents_len okB.en
    have ew : ∀ st : List (Nat × Str), (entW st).length = st.length := fun st => by unfold entW; rw [List.length_map]
    have oS : TblOk (A.st ++ B.st) := okJ.st
    have oE : TblOk (A.en ++ B.en) := okJ.en
    have fewA := okA.few
    have fewB := okB.few
    refine ⟨_, rfl, .inr (.inl ⟨p, _, 1, _, rfl, rfl, .of h1, atI_nat (j := 1) rfl, a1, _, rfl, h2, fun H1 M ts S1 nM nts Mts hM pr1 => ?_⟩)⟩
    have S1 : Same H H1 := S1
    refine ⟨_, rfl, .inr (.inl ⟨q, _, 1, _, rfl, rfl, .of (S1 _ _ g1), atI_nat (j := 1) rfl, a2, _, rfl, S1 _ _ g2, fun H2 N us S2 nN nus Nus hN pr2 => ?_⟩)⟩
    have S2 : Same H1 H2 := S2
    have lt1 := Paired.length pr1
    have lt2 := Paired.length pr2
    rw [ew] at lt1 lt2
    refine ⟨M, N, _, _, rfl, rfl, S2 _ _ hM, hN, by rw [List.length_map, List.length_map]; omega, fun r nr => ?_⟩
    have S3 := same_upd (o := .lst ((ts.map V.ref) ++ (us.map V.ref))) nr
    refine ⟨r, ts ++ us, entW A.st ++ entW B.st, rfl, .of (by rw [upd_same, List.map_append]), paired_cat (pairs_up (S2.trans S3) pr1) (pairs_up S3 pr2), fun d nd => ?_⟩
    rw [← entW_app, merge_ent oS]
    have S4 := ((S1.trans S2).trans S3).trans (same_upd (o := .dK (entW (A.st ++ B.st))) nd)
    have hd : upd (upd H2 r (.lst ((ts.map V.ref) ++ (us.map V.ref)))) d (.dK (entW (A.st ++ B.st))) d = some (.dK (entW (A.st ++ B.st))) := upd_same
    generalize upd (upd H2 r (.lst ((ts.map V.ref) ++ (us.map V.ref)))) d (.dK (entW (A.st ++ B.st))) = H4 at S4 hd ⊢
    clear S1 S2 S3 pr1 pr2 lt1 lt2 hM hN nM nN nr nts nus Mts Nus
    have f1 := S4 _ _ h1
    have f2 := S4 _ _ g1
    refine ⟨_, rfl, .inr (.inl ⟨p, _, 3, _, rfl, rfl, .of f1, atI_nat (j := 3) rfl, b1, _, rfl, S4 _ _ h3, fun H1 M ts S1 nM nts Mts hM pr1 => ?_⟩)⟩
    have S1 : Same H4 H1 := S1
    refine ⟨_, rfl, .inr (.inl ⟨q, _, 3, _, rfl, rfl, .of (S1 _ _ f2), atI_nat (j := 3) rfl, b2, _, rfl, S1 _ _ (S4 _ _ g3), fun H2 N us S2 nN nus Nus hN pr2 => ?_⟩)⟩
    have S2 : Same H1 H2 := S2
    have lt1 := Paired.length pr1
    have lt2 := Paired.length pr2
    rw [ew] at lt1 lt2
    refine ⟨M, N, _, _, rfl, rfl, S2 _ _ hM, hN, by rw [List.length_map, List.length_map]; omega, fun r nr => ?_⟩
    have S3 := same_upd (o := .lst ((ts.map V.ref) ++ (us.map V.ref))) nr
    refine ⟨r, ts ++ us, entW A.en ++ entW B.en, rfl, .of (by rw [upd_same, List.map_append]), paired_cat (pairs_up (S2.trans S3) pr1) (pairs_up S3 pr2), fun dn ndn => ?_⟩
    rw [← entW_app, merge_ent oE]
    have S5 := ((S1.trans S2).trans S3).trans (same_upd (o := .dK (entW (A.en ++ B.en))) ndn)
    have hdn : upd (upd H2 r (.lst ((ts.map V.ref) ++ (us.map V.ref)))) dn (.dK (entW (A.en ++ B.en))) dn = some (.dK (entW (A.en ++ B.en))) := upd_same
    generalize upd (upd H2 r (.lst ((ts.map V.ref) ++ (us.map V.ref)))) dn (.dK (entW (A.en ++ B.en))) = H5 at S5 hdn ⊢
    clear S1 S2 S3 pr1 pr2 lt1 lt2 hM hN nM nN nr nts nus Mts Nus
    have f1 := S5 _ _ f1
    have f2 := S5 _ _ f2
    have hd := S5 _ _ hd
    have S6 := S4.trans S5
    refine ⟨_, rfl, .inr (.inl ⟨p, _, 0, _, rfl, rfl, .of f1, atI_nat (j := 0) rfl, ?_⟩)⟩
    refine ⟨_, rfl, ?_⟩
    refine ⟨_, rfl, .inr (.inl ⟨p, _, 2, _, rfl, rfl, .of f1, atI_nat (j := 2) rfl, _, rfl, .inr (.inl ⟨q, _, 2, _, rfl, rfl, .of f2, atI_nat (j := 2) rfl, ?_⟩)⟩)⟩
    refine catA_eds (e1.same S6) (e2.same S6) (by omega) fun t H7 S7 ht => ?_
    refine ⟨_, rfl, by show 4 ≤ _; omega, fun r nr => ?_⟩
    have S8 := same_upd (o := .tup [.str (sgTxt A.sg), .ref d, .ref t, .ref dn]) nr
    exact kont r _ (S6.trans (S7.trans S8)) (S6.free (S7.free nr)) ⟨d, t, dn, upd_same, S8 _ _ (S7 _ _ hd), S8 _ _ (S7 _ _ hdn), ht.same S8⟩
end
end K0
set_option maxRecDepth 100000
set_option maxHeartbeats 8000000
namespace K0
open PySem L2 FM He
section
variable {P : Program} {w : World} {K : PySem.W.Frag} {mg : Str → Option Value} {base : Heap}
def spTwo (K : PySem.W.Frag) : Sp := fun vs H Q _ => ∃ (b p : Addr) (C : RwP) (N : Nat), vs = [.ref b, .ref p] ∧ BagAt b H ∧ C.Ok ∧ C.ed.length ≤ 40 ∧ Lim N C ∧ N ≤ 12 ∧ (∀ e ∈ C.ed, Over "ab" 2 e.u) ∧ (∀ p ∈ C.st, Over "ab" 1 p.2) ∧ C.ed ≠ [] ∧ PlnAt H p C ∧
  ∀ q x y H' A B, Keep (J b) H H' → BagAt b H' → H' q = some (.lst [.ref x, .ref y]) → PlnAt H' x A → PlnAt H' y B → A.Ok → B.Ok → A.sg = B.sg → A.ed.length = C.ed.length → B.ed.length = C.ed.length → Bel N A → Bel N B → Q (.ref q) H'
theorem ok_law_two_forms {f : Addr} {fd : FuncData} (F : FnP K "_law_two_forms" s__law_two_forms f fd) (T : TP K mg) : FnOk P w K mg base CX0 4 f fd ["_law_bag", "_law_plain"] (spTwo K) := by
  obtain ⟨d__law_pick, F__law_pick⟩ := T.f__law_pick
  have G__law_pick := ok_law_pick (P := P) (w := w) (base := base) F__law_pick T
  have b__law_pick : Binds K d__law_pick ["_law_bag", "_law_items"] [] := F__law_pick.bindsN fun _ _ _ _ _ _ us hl => match us, hl with | [_, _], _ => rfl
  refine F.ok sc__law_two_forms (fun vs H Q E h => ?_) (fun cdv A outer s H vs Q E hr h => ?_)
  · obtain ⟨b, p, C, N, rfl, _⟩ := h
    rfl
  · obtain ⟨b, p, C, N, rfl, bag, ok, e40, lim, n12, wd, ws, ne, hp, kont⟩ := h
    have nd := sc__law_two_forms.nd
    have hu64 := hr.units
    have hu1 := Nat.lt_of_le_of_lt (Nat.add_le_add_left (by decide : 1 ≤ 64) _) hu64
    have big : (100000 : Nat) ≤ sizeLine := by decide
    refine ⟨_, PSs.nox (pss_cons (ps_set (i := 2) nd rfl (.inl rfl) (pe_callB (cr_sortedSet2 (w := w) rfl rfl) (by rfl) T.b_sorted (by decide +kernel) (pa_cons (pe_callTy (cr_setLsI2 (K := K) (w := w) rfl rfl rfl) (by rfl) T.b_set (by decide +kernel) (pa_cons (pe_op op_cat (pe_lc (own := [("_law_edge", 3)]) rfl nd (pi_tup (pe_ix ix_seq (pv 1) pe_int (fun _ _ => rfl))) (blkOk_by (own := [("_law_edge", 3)]) (N := ["_law_bag", "_law_plain", "_law_rooms", "_law_edge", "_law_room", "_law_sign", "_law_late", "_law_soon", "_law_a", "_law_letter", "_law_word", "_law_b", "_law_first", "_law_last", "_law_other"]) (sc := defScope s__law_two_forms) (by decide +kernel)) (fun _ _ _ _ _ => (pg_name (i := 3) nd rfl (.inl rfl))) (fun _ _ _ _ _ => pts_nil) (fun _ _ _ _ _ => (pe_ix (ix_seq : IxR _ (rIx K)) (pv 3) pe_int (fun _ _ => rfl)))) (pe_callTy (call_listD rfl) (by rfl) T.b_list (by decide +kernel) (pa_cons (pe_ix ix_seq (pv 1) pe_int (fun _ _ => rfl)) pa_nil))) pa_nil)) pa_nil)))
      (pss_cons (ps_par (i := 4) (j := 5) (by rfl) nd rfl rfl (by decide) rfl rfl (pa_cons (pe_call G__law_pick (hr.mono (by decide)) rfl T.g__law_pick F__law_pick.kp b__law_pick .nil pass0 (pa_cons (pv 0) (pa_cons (pv 2) pa_nil))) (pa_cons (pe_call G__law_pick (hr.mono (by decide)) rfl T.g__law_pick F__law_pick.kp b__law_pick .nil pass0 (pa_cons (pv 0) (pa_cons pe_str pa_nil))) pa_nil)) (by rfl))
      (pss_cons (ps_set (i := 6) nd rfl (.inl rfl) (pe_lst pa_nil))
      (pss_cons (ps_set (i := 7) nd rfl (.inl rfl) (pe_lst pa_nil))
      (pss_cons (ps_for PassesOwn.never rfl (pi_tup (pe_ix ix_seq (pv 1) pe_int (fun _ _ => rfl))) (pg_tup (by rfl) (pgs_cons (pg_name (i := 8) nd rfl (.inl rfl)) (pgs_cons (pg_name (i := 9) nd rfl (.inl rfl)) (pgs_cons (pg_name (i := 10) nd rfl (.inl rfl)) (pgs_cons (pg_name (i := 11) nd rfl (.inl rfl)) pgs_nil))))) (pss_cons (ps_expr (pe_bm PySem.F.plainAttrs_list PySem.F.slot_list_append PySem.F.type_list_append mt_append (pv 6) (pa_cons (pe_tup (pa_cons (pv 8) (pa_cons (pv 9) (pa_cons (pe_op op_add_str (pe_op op_repS (pv 5) (pe_callTy call_intIB (by rfl) T.b_int (by decide +kernel) (pa_cons (pe_cmpR op_eq (pv 8) (pv 4) (nomark _)) pa_nil))) (pv 10)) (pa_cons (pv 11) pa_nil))))) pa_nil)))
      (pss_one (ps_expr (pe_bm PySem.F.plainAttrs_list PySem.F.slot_list_append PySem.F.type_list_append mt_append (pv 7) (pa_cons (pe_tup (pa_cons (pv 8) (pa_cons (pv 9) (pa_cons (pe_op op_add_str (pv 10) (pe_op op_repS (pv 5) (pe_callTy call_intIB (by rfl) T.b_int (by decide +kernel) (pa_cons (pe_cmpR op_eq (pv 11) (pv 4) (nomark _)) pa_nil)))) (pa_cons (pv 11) pa_nil))))) pa_nil))))))
      (pss_cons (ps_par (i := 12) (j := 13) (by rfl) nd rfl rfl (by decide) rfl rfl (pa_cons (pe_callTy (call_dictP rfl) (by rfl) T.b_dict (by decide +kernel) (pa_cons (LiI.pe_listItems rfl (pe_ix ix_seq (pv 1) pe_int (fun _ _ => rfl)) (by rfl) T.b_list (by decide +kernel)) pa_nil)) (pa_cons (pe_callTy (call_dictP rfl) (by rfl) T.b_dict (by decide +kernel) (pa_cons (LiI.pe_listItems rfl (pe_ix ix_seq (pv 1) pe_int (fun _ _ => rfl)) (by rfl) T.b_list (by decide +kernel)) pa_nil)) pa_nil)) (by rfl))
      (pss_cons (ps_if (pt_cmp (pc_din hu1 (pv 4) (pv 12)) rfl) (pss_one (ps_dput hu1 (pv 12) (pv 4) (pe_op op_add_str (pe_dget hu1 (pv 12) (pv 4) (fun _ _ => rfl)) (pv 5)) rfl)) pss_nil)
      (pss_cons (ps_if (pt_cmp (pc_din hu1 (pv 4) (pv 13)) rfl) (pss_one (ps_dput hu1 (pv 13) (pv 4) (pe_op op_add_str (pv 5) (pe_dget hu1 (pv 13) (pv 4) (fun _ _ => rfl))) rfl)) pss_nil)
      (pss_cons (ps_set (i := 14) nd rfl (.inl rfl) (pe_tup (pa_cons (pe_ix ix_seq (pv 1) pe_int (fun _ _ => rfl)) (pa_cons (pv 12) (pa_cons (pe_callTy call_tuple_of (by rfl) T.b_tuple (by decide +kernel) (pa_cons (pv 7) pa_nil)) (pa_cons (pe_ix ix_seq (pv 1) pe_int (fun _ _ => rfl)) pa_nil))))))
      (pss_one (ps_ret (pe_lst (pa_cons (pe_tup (pa_cons (pe_ix ix_seq (pv 1) pe_int (fun _ _ => rfl)) (pa_cons (pe_ix ix_seq (pv 1) pe_int (fun _ _ => rfl)) (pa_cons (pe_callTy call_tuple_of (by rfl) T.b_tuple (by decide +kernel) (pa_cons (pv 6) pa_nil)) (pa_cons (pv 13) pa_nil))))) (pa_cons (pv 14) pa_nil)))))))))))))), ?_⟩
    obtain ⟨a0, t0, b0, h1, h2, h3, ks, h4, h5, h6⟩ := id hp
    have lS := ents_len ok.st
    have lE := ents_len ok.en
    have lk : ks.length = C.ed.length := by rw [← h5, List.length_map]
    -- the rooms
    refine ⟨_, rfl, .inr (.inl ⟨p, _, 2, _, rfl, rfl, .of h1, atI_nat (j := 2) rfl, t0, rfl, ⟨_, .of h4⟩, fun D nD => ?_⟩)⟩
    refine lc_st (σ' := [some (.ref b), some (.ref p), none, none, none, none, none, none, none, none, none, none, none, none, none]) walk_tup rfl (fun i H' => Same H H' ∧ H' D = some (.lst (((ks.take i).map fun z => z.2.a).map fun (m : Nat) => V.int (m : Nat)))) ⟨same_upd nD, upd_same⟩ (fun i H' _ h => .of (h.1 _ _ h4)) ?_ ?_
    · rintro i y H' HG hi ⟨S, hD⟩ ⟨rfl, hy⟩
      rw [List.getElem?_map] at hy
      obtain ⟨z, hz, rfl⟩ := Option.map_eq_some_iff.mp hy
      have hk := S _ _ (h6 z (List.mem_of_getElem? hz))
      refine ⟨rfl, _, rfl, .inr (.inl ⟨z.1, _, 0, _, rfl, rfl, .of hk, atI_nat (j := 0) rfl, ?_⟩)⟩
      refine ⟨_, hD, by rw [List.length_map, List.length_map, List.length_take]; omega, upd_far nD S, ?_⟩
      rw [upd_same, List.take_add_one, hz, List.map_append, List.map_append]
      rfl
    rintro H2 ⟨S2, hD2⟩
    rw [List.length_map, List.take_length] at hD2
    refine ⟨_, rfl, .inr (.inl ⟨p, _, 3, .ref b0, rfl, rfl, .of (S2 _ _ h1), atI_nat (j := 3) rfl, b0, _, rfl, .inl (S2 _ _ h3), fun l2 nl2 => ?_⟩)⟩
    rw [entW_refs]
    have S3 := same_upd (o := .lst ((C.en.map (·.1)).map fun (m : Nat) => V.int (m : Nat))) nl2
    refine ⟨D, l2, _, _, rfl, rfl, S3 _ _ hD2, upd_same, by rw [List.length_map, List.length_map, List.length_map, List.length_map]; omega, fun L nL => ?_⟩
    rw [← List.map_append]
    have rlt : ∀ m ∈ (ks.map fun z => z.2.a) ++ C.en.map (·.1), m < N := fun m hm => by
      rcases List.mem_append.mp hm with h | h
      · obtain ⟨z, hz, rfl⟩ := List.mem_map.mp h
        exact (lim.ed z.2 (by rw [← h5]; exact List.mem_map.mpr ⟨z, hz, rfl⟩)).1
      · obtain ⟨z, hz, rfl⟩ := List.mem_map.mp h
        exact lim.en z hz
    have rle : ((ks.map fun z => z.2.a) ++ C.en.map (·.1)).length ≤ 52 := by rw [List.length_append, List.length_map, List.length_map]; omega
    have rne : ∃ m, m ∈ (ks.map fun z => z.2.a) ++ C.en.map (·.1) := by
      cases ks with
      | nil => exact absurd h5.symm ne
      | cons z _ => exact ⟨z.2.a, by simp⟩
    generalize (ks.map fun z => z.2.a) ++ C.en.map (·.1) = rs at rlt rle rne ⊢
    have S4 := S3.trans (same_upd (o := .lst (rs.map fun (m : Nat) => V.int (m : Nat))) nL)
    have hL : upd (upd H2 l2 (.lst ((C.en.map (·.1)).map fun (m : Nat) => V.int (m : Nat)))) L (.lst (rs.map fun (m : Nat) => V.int (m : Nat))) L = some (.lst (rs.map fun (m : Nat) => V.int (m : Nat))) := upd_same
    generalize upd (upd H2 l2 (.lst ((C.en.map (·.1)).map fun (m : Nat) => V.int (m : Nat)))) L (.lst (rs.map fun (m : Nat) => V.int (m : Nat))) = H4 at S4 hL ⊢
    refine ⟨L, rs.map fun (m : Nat) => (m : Int), rfl, by rw [List.map_map]; exact .of hL, by rw [List.length_map]; omega, fun s1 n1 ns1 nB => ?_⟩
    have n64 : n1 < 64 := by
      rw [List.length_map] at nB
      omega
    refine ⟨s1, _, n1, rfl, upd_same, n64, fun (ns : List Int) q pw mem2 nn nq => ?_⟩
    obtain ⟨ns, rfl, pw, mem2⟩ := rise_nats pw mem2
    have rin : ∀ m ∈ ns, m < N := fun m hm => rlt m ((mem2 m).mp hm)
    obtain ⟨m0, hm0⟩ := rne
    have nne : 0 < ns.length := List.length_pos_of_mem ((mem2 m0).mpr hm0)
    have nl : ns.length ≤ 12 := Nat.le_trans (rise_len pw rin) n12
    have SA := same_upd (o := SetO w s1 (fun j => decide (j ∈ rs.map fun (m : Nat) => (m : Int))) n1) ns1
    have S6 := (S2.trans S4).trans (SA.trans (same_upd (o := .lst ((ns.map fun (m : Nat) => (m : Int)).map V.int)) nq))
    have bag6 := bag.same S6
    have qb : q ≠ b := bag_ne ((bag.same (S2.trans S4)).same SA) nq
    refine ⟨_, rfl, _, rfl, ?_⟩
    (try unfold tCons); (try unfold tC); (try unfold tNil)
    show spPick K [V.ref b, V.ref q] _ _ _
    refine pick_list bag6 upd_same (by rw [List.length_map, List.length_map]; exact nne) (by rw [List.length_map, List.length_map]; omega) (fun y H7 k7 bag7 hq7 hy => ?_) qb
    obtain ⟨r', hr', rfl⟩ := List.mem_map.mp hy
    obtain ⟨r, hr, rfl⟩ := List.mem_map.mp hr'
    have rN := rin r hr
    refine ⟨_, rfl, ?_⟩
    (try unfold tCons); (try unfold tC); (try unfold tNil)
    show spPick K [V.ref b, V.str "ab"] _ _ _
    refine pick_text (z := "ab") bag7 (by decide) (by decide) fun d H8 k8 bag8 hd => ?_
    have dlet : 97 ≤ d ∧ d ≤ 122 := by
      have hd : d ∈ ([97, 98] : List Nat) := hd
      have : d = 97 ∨ d = 98 := by simpa using hd
      omega
    have KH : Keep (J b) H H8 := (Keep.of S6).trans (k7.trans k8)
    clear k7 k8 hq7 hy hr' bag6 qb SA S6 nn nq nB ns1 n64 hL S4 rle rlt hD2 S2 S3 nL nl2 hm0 bag7
    have hp8 := hp.keep bag KH
    obtain ⟨a0', t0', b0', h1', h2', h3', ks', h4', h5', h6'⟩ := id hp8
    clear h1 h2 h3 h4 h5 h6 lk
    have lk : ks'.length = C.ed.length := by rw [← h5', List.length_map]
    refine ⟨_, _, rfl, by show 0 ≤ _; omega, fun L1 nL1 => ?_⟩
    have SL1 := same_upd (o := .lst []) nL1
    have hL1 : upd H8 L1 (.lst []) L1 = some (.lst (([] : List (Addr × Edg)).map fun p => V.ref p.1)) := upd_same
    generalize upd H8 L1 (.lst []) = H9 at SL1 hL1 ⊢
    refine ⟨by show 0 ≤ _; omega, fun L2 nL2 => ?_⟩
    have SL2 := same_upd (o := .lst []) nL2
    have L12 : L1 ≠ L2 := ne_of_none hL1 nL2
    have hL12 := SL2 _ _ hL1
    have hL2 : upd H9 L2 (.lst []) L2 = some (.lst (([] : List (Addr × Edg)).map fun p => V.ref p.1)) := upd_same
    have nL28 := SL1.free nL2
    have SLL := SL1.trans SL2
    generalize upd H9 L2 (.lst []) = HA at SLL hL12 hL2 ⊢
    clear SL1 SL2 hL1 nL2
    refine ⟨_, rfl, .inr (.inl ⟨p, _, 2, _, rfl, rfl, .of (SLL _ _ h1'), atI_nat (j := 2) rfl, t0', rfl, ⟨_, .of (SLL _ _ h4')⟩, ?_⟩)⟩
    refine for_it walk_tup (fun i σ H' => ∃ (u8 u9 ua ub : Option V) (es fs : List Edg), σ = [some (.ref b), some (.ref p), some (.ref q), none, some (.int (r : Nat)), some (.str ⟨#[d]⟩), some (.ref L1), some (.ref L2), u8, u9, ua, ub, none, none, none] ∧ Same H8 H' ∧ EdL H' L1 es ∧ EdL H' L2 fs ∧ es.length = i ∧ fs.length = i ∧ (∀ e ∈ es, EdgOk C.sg e ∧ e.a < N ∧ e.b < N) ∧ (∀ e ∈ fs, EdgOk C.sg e ∧ e.a < N ∧ e.b < N))
      ⟨_, _, _, _, [], [], rfl, SLL, ⟨[], hL12, rfl, fun p hp => by cases hp⟩, ⟨[], hL2, rfl, fun p hp => by cases hp⟩, rfl, rfl, (fun e he => by cases he), fun e he => by cases he⟩ (fun _ _ _ _ h => by obtain ⟨_, _, _, _, _, _, _, h, _⟩ := h; exact .of (h _ _ h4')) ?_ ?_
    · rintro i y σ HB HB' hi ⟨u8, u9, ua, ub, es, fs, rfl, S, ⟨cs, c1, c2, c3⟩, ⟨ds, d1, d2, d3⟩, l1, l2, g1, g2⟩ ⟨rfl, hy⟩
      rw [List.getElem?_map] at hy
      obtain ⟨z, hz, rfl⟩ := Option.map_eq_some_iff.mp hy
      have zm := List.mem_of_getElem? hz
      have hk := S _ _ (h6' z zm)
      have zC : z.2 ∈ C.ed := by rw [← h5']; exact List.mem_map.mpr ⟨z, zm, rfl⟩
      have zok := ok.ed _ zC
      have zl := lim.ed _ zC
      have zw := wd _ zC
      have il : i < ks'.length := by
        have := hi
        rwa [List.length_map] at this
      have ll1 : cs.length = i := by rw [← List.length_map (f := (·.2)), c2]; exact l1
      have ll2 : ds.length = i := by rw [← List.length_map (f := (·.2)), d2]; exact l2
      refine ⟨z.1, _, rfl, .of hk, rfl, _, _, rfl, _, _, rfl, _, _, rfl, _, _, rfl, rfl, ?_⟩
      -- late
      obtain ⟨cA, hcA⟩ : ∃ c, decide (V.int (z.2.a : Nat) = V.int (r : Nat)) = c := ⟨_, rfl⟩
      obtain ⟨cB, hcB⟩ : ∃ c, decide (V.int (z.2.b : Nat) = V.int (r : Nat)) = c := ⟨_, rfl⟩
      have num : ∀ c : Bool, ∃ n : Nat, n ≤ 1 ∧ (V.int (if c = true then 1 else 0) : V) = .int (n : Nat) := fun c => by
        cases c
        · exact ⟨0, by decide, rfl⟩
        · exact ⟨1, by decide, rfl⟩
      obtain ⟨nA, nA1, eA⟩ := num cA
      obtain ⟨nB, nB1, eB⟩ := num cB
      have one : (⟨#[d]⟩ : Str).length = 1 := rfl
      have lA : (repS ⟨#[d]⟩ nA).length ≤ 1 := by rw [repS_length, one]; omega
      have lB : (repS ⟨#[d]⟩ nB).length ≤ 1 := by rw [repS_length, one]; omega
      have zu : z.2.u.length ≤ 2 := zw.1
      refine ⟨_, rfl, .inl ⟨rfl, _, .of c1⟩, ?_⟩
      refine ⟨_, rfl, _, rfl, _, rfl, _, rfl, _, rfl, rfl, .inr ⟨_, rfl, ?_⟩⟩
      refine ⟨_, nA, rfl, (by show V.int (if decide (V.int (z.2.a : Nat) = V.int (r : Nat)) = true then 1 else 0) = _; rw [hcA]; exact eA), by rw [one]; decide, by omega, _, rfl, _, _, rfl, rfl, by omega, ?_⟩
      refine ⟨_, rfl, by show 4 ≤ _; omega, fun na nna => ?_⟩
      have SB := same_upd (o := .tup [.int (z.2.a : Nat), .str ⟨#[z.2.c]⟩, .str (repS ⟨#[d]⟩ nA ++ z.2.u), .int (z.2.b : Nat)]) nna
      have c1B := SB _ _ c1
      refine ⟨L1, _, _, rfl, rfl, c1B, by rw [List.length_map]; omega, ?_⟩
      have E1 := EdL.push (e := ⟨z.2.a, z.2.c, repS ⟨#[d]⟩ nA ++ z.2.u, z.2.b⟩) c1B c2 (fun p hp => SB _ _ (c3 p hp)) upd_same
      have S2' := upd_far (o := .lst ((cs.map fun p => V.ref p.1) ++ [.ref na])) nL1 (S.trans SB)
      have d1' : upd (upd HB' na (.tup [.int (z.2.a : Nat), .str ⟨#[z.2.c]⟩, .str (repS ⟨#[d]⟩ nA ++ z.2.u), .int (z.2.b : Nat)])) L1 (.lst ((cs.map fun p => V.ref p.1) ++ [.ref na])) L2 = some (.lst (ds.map fun p => V.ref p.1)) := by rw [upd_ne L12.symm]; exact SB _ _ d1
      have d3' : ∀ p ∈ ds, upd (upd HB' na (.tup [.int (z.2.a : Nat), .str ⟨#[z.2.c]⟩, .str (repS ⟨#[d]⟩ nA ++ z.2.u), .int (z.2.b : Nat)])) L1 (.lst ((cs.map fun p => V.ref p.1) ++ [.ref na])) p.1 = some (.tup (p.2.row.map kV)) := fun p hp => by
        have := SB _ _ (d3 p hp)
        rw [upd_ne fun q => by rw [q, c1B] at this; cases this]
        exact this
      -- soon
      refine ⟨_, rfl, .inl ⟨rfl, _, .of d1'⟩, ?_⟩
      refine ⟨_, rfl, _, rfl, _, rfl, _, rfl, _, rfl, _, rfl, rfl, .inr ⟨_, rfl, ?_⟩⟩
      refine ⟨_, nB, rfl, (by show V.int (if decide (V.int (z.2.b : Nat) = V.int (r : Nat)) = true then 1 else 0) = _; rw [hcB]; exact eB), by rw [one]; decide, by omega, _, _, rfl, rfl, by omega, ?_⟩
      refine ⟨_, rfl, by show 4 ≤ _; omega, fun nb nnb => ?_⟩
      have SC := same_upd (o := .tup [.int (z.2.a : Nat), .str ⟨#[z.2.c]⟩, .str (z.2.u ++ repS ⟨#[d]⟩ nB), .int (z.2.b : Nat)]) nnb
      have d1C := SC _ _ d1'
      refine ⟨L2, _, _, rfl, rfl, d1C, by rw [List.length_map]; omega, ?_⟩
      have E2 := EdL.push (e := ⟨z.2.a, z.2.c, z.2.u ++ repS ⟨#[d]⟩ nB, z.2.b⟩) d1C d2 (fun p hp => SC _ _ (d3' p hp)) upd_same
      have S3' := upd_far (o := .lst ((ds.map fun p => V.ref p.1) ++ [.ref nb])) nL28 (S2'.trans SC)
      have E1' : EdL (upd (upd (upd (upd HB' na (.tup [.int (z.2.a : Nat), .str ⟨#[z.2.c]⟩, .str (repS ⟨#[d]⟩ nA ++ z.2.u), .int (z.2.b : Nat)])) L1 (.lst ((cs.map fun p => V.ref p.1) ++ [.ref na]))) nb (.tup [.int (z.2.a : Nat), .str ⟨#[z.2.c]⟩, .str (z.2.u ++ repS ⟨#[d]⟩ nB), .int (z.2.b : Nat)])) L2 (.lst ((ds.map fun p => V.ref p.1) ++ [.ref nb]))) L1 (es ++ [⟨z.2.a, z.2.c, repS ⟨#[d]⟩ nA ++ z.2.u, z.2.b⟩]) := by
        obtain ⟨cs', x1, x2, x3⟩ := E1
        exact ⟨cs', by rw [upd_ne L12]; exact SC _ _ x1, x2, fun p hp => by
          have := SC _ _ (x3 p hp)
          rw [upd_ne fun q => by rw [q, d1C] at this; cases this]
          exact this⟩
      refine ⟨_, _, _, _, _, _, rfl, S3', E1', E2, by rw [List.length_append, l1]; rfl, by rw [List.length_append, l2]; rfl, fun e he => ?_, fun e he => ?_⟩
      · rcases List.mem_append.mp he with he | he
        · exact g1 e he
        · rw [List.mem_singleton.mp he]
          exact ⟨⟨zok.a, zok.b, zok.c, (repS_let dlet).app zok.u, by show (repS ⟨#[d]⟩ nA ++ z.2.u).length ≤ 8; rw [app_len]; omega⟩, zl⟩
      · rcases List.mem_append.mp he with he | he
        · exact g2 e he
        · rw [List.mem_singleton.mp he]
          exact ⟨⟨zok.a, zok.b, zok.c, zok.u.app (repS_let dlet), by show (z.2.u ++ repS ⟨#[d]⟩ nB).length ≤ 8; rw [app_len]; omega⟩, zl⟩
    · rintro σ HB ⟨u8, u9, ua, ub, es, fs, rfl, S, E1, E2, l1, l2, g1, g2⟩
      rw [List.length_map, lk] at l1 l2
      have f1 := S _ _ h1'
      refine ⟨_, rfl, .inr (.inl ⟨p, _, 1, _, rfl, rfl, .of f1, atI_nat (j := 1) rfl, a0', _, rfl, S _ _ h2', fun H1 M ts S1 nM nts Mts hM pr1 => ?_⟩)⟩
      have S1 : Same HB H1 := S1
      refine ⟨M, ts, _, rfl, .of hM, pairs_up (Same.refl _) pr1, fun da nda => ?_⟩
      rw [merge_ent ok.st]
      have SA := S1.trans (same_upd (o := .dK (entW C.st)) nda)
      have hda : upd H1 da (.dK (entW C.st)) da = some (.dK (entW C.st)) := upd_same
      have nda0 : HB da = none := S1.free nda
      generalize upd H1 da (.dK (entW C.st)) = HD at SA hda ⊢
      clear S1 nM nts Mts hM pr1 nda
      refine ⟨_, rfl, .inr (.inl ⟨p, _, 3, _, rfl, rfl, .of (SA _ _ f1), atI_nat (j := 3) rfl, b0', _, rfl, SA _ _ (S _ _ h3'), fun H1 M ts S1 nM nts Mts hM pr1 => ?_⟩)⟩
      have S1 : Same HD H1 := S1
      refine ⟨M, ts, _, rfl, .of hM, pairs_up (Same.refl _) pr1, fun db ndb => ?_⟩
      rw [merge_ent ok.en]
      have SE := S1.trans (same_upd (o := .dK (entW C.en)) ndb)
      have hdb : upd H1 db (.dK (entW C.en)) db = some (.dK (entW C.en)) := upd_same
      have dab : da ≠ db := ne_of_none (S1 _ _ hda) ndb
      have ndb0 : HB db = none := SA.free (S1.free ndb)
      have hda := SE _ _ hda
      generalize upd H1 db (.dK (entW C.en)) = HE at SE hdb hda ⊢
      clear S1 nM nts Mts hM pr1 ndb
      have SBE := SA.trans SE
      have dL : Let ⟨#[d]⟩ := fun c hc => by
        have : c = d := by simpa using hc
        rw [this]
        exact dlet
      have one : (⟨#[d]⟩ : Str).length = 1 := rfl
      refine ⟨_, _, rfl, ?_⟩
      refine if_put (i := 4) (j := 12) (k := 4) rfl rfl rfl hda ok.st (Nat.lt_of_lt_of_le rN n12) (fun u hu gu => ⟨u ++ ⟨#[d]⟩, ⟨(ok.st.word _ hu).1.app dL, by have := (ws _ hu).1; rw [app_len, one]; show u.length + 1 ≤ 8; have h2 : u.length ≤ 1 := this; omega⟩, fun Q kq => ⟨_, rfl, _, rfl, da, _, rfl, gu, _, rfl, u, ⟨#[d]⟩, rfl, rfl, by have h2 : u.length ≤ 1 := (ws _ hu).1; rw [one]; omega, kq⟩⟩) fun st' okS' inS' => ?_
      have hdb2 : upd HE da (.dK (entW st')) db = some (.dK (entW C.en)) := by rw [upd_ne dab.symm]; exact hdb
      refine if_put (i := 4) (j := 13) (k := 4) rfl rfl rfl hdb2 ok.en (Nat.lt_of_lt_of_le rN n12) (fun u hu gu => ⟨⟨#[d]⟩ ++ u, ⟨dL.app (ok.en.word _ hu).1, by have := (lim.we _ hu).1; rw [app_len, one]; show 1 + u.length ≤ 8; have h2 : u.length ≤ 1 := this; omega⟩, fun Q kq => ⟨_, rfl, _, rfl, _, rfl, db, _, rfl, gu, ⟨#[d]⟩, u, rfl, rfl, by have h2 : u.length ≤ 1 := (lim.we _ hu).1; rw [one]; omega, kq⟩⟩) fun en' okE' inE' => ?_
      have SF : Same HB (upd (upd HE da (.dK (entW st'))) db (.dK (entW en'))) := upd_far ndb0 (upd_far nda0 SBE)
      have hdaF : upd (upd HE da (.dK (entW st'))) db (.dK (entW en')) da = some (.dK (entW st')) := by rw [upd_ne dab]; exact upd_same
      have hdbF : upd (upd HE da (.dK (entW st'))) db (.dK (entW en')) db = some (.dK (entW en')) := upd_same
      generalize upd (upd HE da (.dK (entW st'))) db (.dK (entW en')) = HF at SF hdaF hdbF ⊢
      obtain ⟨cs, x1, x2, x3⟩ := E1.same SF
      obtain ⟨ds, y1, y2, y3⟩ := E2.same SF
      have f1 := SF _ _ f1
      have S8F := S.trans SF
      refine ⟨_, rfl, .inr (.inl ⟨p, _, 0, _, rfl, rfl, .of f1, atI_nat (j := 0) rfl, ?_⟩)⟩
      refine ⟨_, rfl, _, rfl, L2, _, rfl, .inl ⟨.of y1, fun tf ntf => ?_⟩⟩
      have T1 := same_upd (o := .tup (ds.map fun p => V.ref p.1)) ntf
      refine ⟨_, rfl, .inr (.inl ⟨p, _, 3, _, rfl, rfl, .of (T1 _ _ f1), atI_nat (j := 3) rfl, by show 4 ≤ _; omega, fun y ny => ?_⟩)⟩
      have T2 := same_upd (o := .tup [.str (sgTxt C.sg), .ref da, .ref tf, .ref b0']) ny
      refine ⟨_, rfl, .inr (.inl ⟨p, _, 0, _, rfl, rfl, .of (T2 _ _ (T1 _ _ f1)), atI_nat (j := 0) rfl, ?_⟩)⟩
      refine ⟨_, rfl, .inr (.inl ⟨p, _, 1, _, rfl, rfl, .of (T2 _ _ (T1 _ _ f1)), atI_nat (j := 1) rfl, ?_⟩)⟩
      refine ⟨_, rfl, L1, _, rfl, .inl ⟨.of (T2 _ _ (T1 _ _ x1)), fun te nte => ?_⟩⟩
      have T3 := same_upd (o := .tup (cs.map fun p => V.ref p.1)) nte
      refine ⟨_, rfl, by show 4 ≤ _; omega, fun x nx => ?_⟩
      have T4 := same_upd (o := .tup [.str (sgTxt C.sg), .ref a0', .ref te, .ref db]) nx
      refine ⟨_, rfl, by show 2 ≤ _; omega, fun q2 nq2 => ?_⟩
      have T5 := same_upd (o := .lst [.ref x, .ref y]) nq2
      have TF := T1.trans (T2.trans (T3.trans (T4.trans T5)))
      refine kont q2 x y _ ⟨C.sg, C.st, es, en'⟩ ⟨C.sg, st', fs, C.en⟩ (KH.trans (Keep.of (S8F.trans TF))) (bag8.same (S8F.trans TF)) upd_same
        ⟨a0', te, db, T5 _ _ upd_same, TF _ _ (S8F _ _ h2'), TF _ _ hdbF, cs, T5 _ _ (T4 _ _ upd_same), x2, fun q hq => TF _ _ (x3 q hq)⟩
        ⟨da, tf, b0', T5 _ _ (T4 _ _ (T3 _ _ upd_same)), TF _ _ hdaF, TF _ _ (S8F _ _ h3'), ds, T5 _ _ (T4 _ _ (T3 _ _ (T2 _ _ upd_same))), y2, fun q hq => TF _ _ (y3 q hq)⟩
        ⟨ok.sg, ok.st, fun e he => (g1 e he).1, by show es.length ≤ 63; omega, okE'⟩ ⟨ok.sg, okS', fun e he => (g2 e he).1, by show fs.length ≤ 63; omega, ok.en⟩ rfl l1 l2
        ⟨fun e he => (g1 e he).2, lim.st, fun p hp => ?_⟩ ⟨fun e he => (g2 e he).2, fun p hp => ?_, lim.en⟩
      · rcases inE' p hp with h | h
        · exact lim.en p h
        · rw [h]
          exact rN
      · rcases inS' p hp with h | h
        · exact lim.st p h
        · rw [h]
          exact rN
end
end K0
set_option maxRecDepth 100000
set_option maxHeartbeats 4000000
namespace K0
open PySem L2 FM He
theorem Lim.up {n m : Nat} {R : RwP} (h : Lim n R) (l : n ≤ m) : Lim m R := ⟨fun e he => ⟨Nat.lt_of_lt_of_le (h.ed e he).1 l, Nat.lt_of_lt_of_le (h.ed e he).2 l⟩, fun p hp => Nat.lt_of_lt_of_le (h.st p hp) l, fun p hp => Nat.lt_of_lt_of_le (h.en p hp) l, h.we⟩
theorem way_size : ∀ w : Nat, w < 9 → ∃ n : Nat, ([.int 1, .int 1, .int 2, .int 2, .int 2, .int 3, .int 3, .int 2, .int 1] : List V)[w]? = some (.int (n : Nat)) ∧ 1 ≤ n ∧ n ≤ 3 ∧ (w < 5 → n ≤ 2) ∧ (w = 5 → n = 3) ∧ (6 < w → n ≤ 2) := fun w h => by
  match w, h with
  | 0, _ => exact ⟨1, rfl, by decide, by decide, fun _ => by decide, fun z => by omega, fun z => by omega⟩
  | 1, _ => exact ⟨1, rfl, by decide, by decide, fun _ => by decide, fun z => by omega, fun z => by omega⟩
  | 2, _ => exact ⟨2, rfl, by decide, by decide, fun _ => by decide, fun z => by omega, fun z => by omega⟩
  | 3, _ => exact ⟨2, rfl, by decide, by decide, fun _ => by decide, fun z => by omega, fun z => by omega⟩
  | 4, _ => exact ⟨2, rfl, by decide, by decide, fun _ => by decide, fun z => by omega, fun z => by omega⟩
  | 5, _ => exact ⟨3, rfl, by decide, by decide, fun z => by omega, fun _ => rfl, fun z => by omega⟩
  | 6, _ => exact ⟨3, rfl, by decide, by decide, fun z => by omega, fun z => by omega, fun z => by omega⟩
  | 7, _ => exact ⟨2, rfl, by decide, by decide, fun z => by omega, fun z => by omega, fun _ => by decide⟩
  | 8, _ => exact ⟨1, rfl, by decide, by decide, fun z => by omega, fun z => by omega, fun _ => by decide⟩
theorem dec_int (w k : Nat) : decide (V.int (w : Nat) = V.int (k : Nat)) = decide (w = k) := by
  rw [Bool.eq_iff_iff, decide_eq_true_iff, decide_eq_true_iff]
  refine ⟨fun z => ?_, fun z => by rw [z]⟩
  injection z with z
  omega
theorem dec_lt (w k : Nat) : decide ((w : Int) < (k : Int)) = decide (w < k) := by
  rw [Bool.eq_iff_iff, decide_eq_true_iff, decide_eq_true_iff]
  omega
theorem dec_lt6 (w : Nat) : decide ((6 : Int) < (w : Int)) = decide (6 < w) := by
  rw [Bool.eq_iff_iff, decide_eq_true_iff, decide_eq_true_iff]
  omega
section
variable {P : Program} {w : World} {K : PySem.W.Frag} {mg : Str → Option Value} {base : Heap}
theorem ok_law_drawn_single {f : Addr} {fd : FuncData} (F : FnP K "_law_drawn_single" s__law_drawn_single f fd) (T : TP K mg) : FnOk P w K mg base CX0 6 f fd ["_law_bag"] (spSgl K) := by
  obtain ⟨d__law_guesser, F__law_guesser⟩ := T.f__law_guesser
  have G__law_guesser := ok_law_guesser (P := P) (w := w) (base := base) F__law_guesser T
  have b__law_guesser : Binds K d__law_guesser ["_law_bag", "_law_signs", "_law_size", "_law_copies", "_law_most"] [] := F__law_guesser.bindsN fun _ _ _ _ _ _ us hl => match us, hl with | [_, _, _, _, _], _ => rfl
  obtain ⟨d__law_throw, F__law_throw⟩ := T.f__law_throw
  have G__law_throw := ok_law_throw (P := P) (w := w) (base := base) F__law_throw T
  have b__law_throw : Binds K d__law_throw ["_law_bag", "_law_total"] [] := F__law_throw.bindsN fun _ _ _ _ _ _ us hl => match us, hl with | [_, _], _ => rfl
  obtain ⟨d__law_pick, F__law_pick⟩ := T.f__law_pick
  have G__law_pick := ok_law_pick (P := P) (w := w) (base := base) F__law_pick T
  have b__law_pick : Binds K d__law_pick ["_law_bag", "_law_items"] [] := F__law_pick.bindsN fun _ _ _ _ _ _ us hl => match us, hl with | [_, _], _ => rfl
  obtain ⟨d__law_told_one, F__law_told_one⟩ := T.f__law_told_one
  have G__law_told_one := ok_law_told_one (P := P) (w := w) (base := base) F__law_told_one T
  have b__law_told_one : Binds K d__law_told_one ["_law_bag"] [] := F__law_told_one.bindsN fun _ _ _ _ _ _ us hl => match us, hl with | [_], _ => rfl
  obtain ⟨d__law_two_forms, F__law_two_forms⟩ := T.f__law_two_forms
  have G__law_two_forms := ok_law_two_forms (P := P) (w := w) (base := base) F__law_two_forms T
  have b__law_two_forms : Binds K d__law_two_forms ["_law_bag", "_law_plain"] [] := F__law_two_forms.bindsN fun _ _ _ _ _ _ us hl => match us, hl with | [_, _], _ => rfl
  obtain ⟨d__law_joined, F__law_joined⟩ := T.f__law_joined
  have G__law_joined := ok_law_joined (P := P) (w := w) (base := base) F__law_joined T
  have b__law_joined : Binds K d__law_joined ["_law_one", "_law_two"] [] := F__law_joined.bindsN fun _ _ _ _ _ _ us hl => match us, hl with | [_, _], _ => rfl
  obtain ⟨d__law_split, F__law_split⟩ := T.f__law_split
  have G__law_split := ok_law_split (P := P) (w := w) (base := base) F__law_split T
  have b__law_split : Binds K d__law_split ["_law_bag", "_law_plain", "_law_fresh"] [] := F__law_split.bindsN fun _ _ _ _ _ _ us hl => match us, hl with | [_, _, _], _ => rfl
  obtain ⟨d__law_thinned, F__law_thinned⟩ := T.f__law_thinned
  have G__law_thinned := ok_law_thinned (P := P) (w := w) (base := base) F__law_thinned T
  have b__law_thinned : Binds K d__law_thinned ["_law_bag", "_law_plain"] [] := F__law_thinned.bindsN fun _ _ _ _ _ _ us hl => match us, hl with | [_, _], _ => rfl
  obtain ⟨d__law_moved, F__law_moved⟩ := T.f__law_moved
  have G__law_moved := ok_law_moved (P := P) (w := w) (base := base) F__law_moved T
  have b__law_moved : Binds K d__law_moved ["_law_plain", "_law_by"] [] := F__law_moved.bindsN fun _ _ _ _ _ _ us hl => match us, hl with | [_, _], _ => rfl
  refine F.ok sc__law_drawn_single (fun vs H Q E h => ?_) (fun cdv A outer s H vs Q E hr h => ?_)
  · obtain ⟨b, rfl, _⟩ := h
    rfl
  · obtain ⟨b, rfl, bag, kont⟩ := h
    have nd := sc__law_drawn_single.nd
    have hu64 := hr.units
    have hu1 := Nat.lt_of_le_of_lt (Nat.add_le_add_left (by decide : 1 ≤ 64) _) hu64
    have big : (100000 : Nat) ≤ sizeLine := by decide
    refine ⟨_, PSs.nox (pss_cons (ps_par (i := 1) (j := 2) (by rfl) nd rfl rfl (by decide) rfl rfl (pa_cons (pe_call G__law_throw (hr.mono (by decide)) rfl T.g__law_throw F__law_throw.kp b__law_throw .nil pass0 (pa_cons (pv 0) (pa_cons pe_int pa_nil))) (pa_cons (pe_call G__law_pick (hr.mono (by decide)) rfl T.g__law_pick F__law_pick.kp b__law_pick .nil pass0 (pa_cons (pv 0) (pa_cons (pe_lst (pa_cons pe_str (pa_cons pe_str (pa_cons pe_str (pa_cons pe_str (pa_cons pe_str pa_nil)))))) pa_nil))) pa_nil)) (by rfl))
      (pss_cons (ps_if (pt_cmpR op_eq (pv 1) pe_int (nomark _)) (pss_one (ps_ret (pe_call G__law_told_one (hr.mono (by decide)) rfl T.g__law_told_one F__law_told_one.kp b__law_told_one .nil pass0 (pa_cons (pv 0) pa_nil)))) pss_nil)
      (pss_cons (ps_set (i := 3) nd rfl (.inl rfl) (pe_call G__law_guesser (hr.mono (by decide)) rfl T.g__law_guesser F__law_guesser.kp b__law_guesser .nil pass0 (pa_cons (pv 0) (pa_cons (pv 2) (pa_cons (pe_ix ix_seq (pe_lst (pa_cons pe_int (pa_cons pe_int (pa_cons pe_int (pa_cons pe_int (pa_cons pe_int (pa_cons pe_int (pa_cons pe_int (pa_cons pe_int (pa_cons pe_int pa_nil)))))))))) (pv 1) (fun _ _ => rfl)) (pa_cons (pe_ifExp (pt_cmpR op_lt (pv 1) pe_int (nomark _)) pe_int pe_int) (pa_cons pe_int pa_nil)))))))
      (pss_cons (ps_if (pt_cmpR op_eq (pv 1) pe_int (nomark _)) (pss_one (ps_set (i := 3) nd rfl (.inl rfl) (pe_call G__law_guesser (hr.mono (by decide)) rfl T.g__law_guesser F__law_guesser.kp b__law_guesser .nil pass0 (pa_cons (pv 0) (pa_cons (pv 2) (pa_cons pe_int (pa_cons pe_int (pa_cons pe_int pa_nil)))))))) pss_nil)
      (pss_cons (ps_if (pt_cmpR op_gt (pv 1) pe_int (nomark _)) (pss_cons (ps_set (i := 4) nd rfl (.inl rfl) (pe_call G__law_two_forms (hr.mono (by decide)) rfl T.g__law_two_forms F__law_two_forms.kp b__law_two_forms .nil pass0 (pa_cons (pv 0) (pa_cons (pv 3) pa_nil))))
      (pss_one (ps_set (i := 3) nd rfl (.inl rfl) (pe_call G__law_joined (hr.mono (by decide)) rfl T.g__law_joined F__law_joined.kp b__law_joined .nil pass0 (pa_cons (pe_ix ix_seq (pv 4) pe_int (fun _ _ => rfl)) (pa_cons (pe_call G__law_moved (hr.mono (by decide)) rfl T.g__law_moved F__law_moved.kp b__law_moved .nil pass0 (pa_cons (pe_ix ix_seq (pv 4) pe_int (fun _ _ => rfl)) (pa_cons pe_int pa_nil))) pa_nil)))))) pss_nil)
      (pss_cons (ps_if (pt_cmpR op_eq (pv 1) pe_int (nomark _)) (pss_one (ps_set (i := 3) nd rfl (.inl rfl) (pe_call G__law_split (hr.mono (by decide)) rfl T.g__law_split F__law_split.kp b__law_split .nil pass0 (pa_cons (pv 0) (pa_cons (pv 3) (pa_cons pe_int pa_nil)))))) pss_nil)
      (pss_one (ps_ret (pe_ifExp (pt_cmpR op_eq (pe_call G__law_throw (hr.mono (by decide)) rfl T.g__law_throw F__law_throw.kp b__law_throw .nil pass0 (pa_cons (pv 0) (pa_cons pe_int pa_nil))) pe_int (nomark _)) (pe_call G__law_thinned (hr.mono (by decide)) rfl T.g__law_thinned F__law_thinned.kp b__law_thinned .nil pass0 (pa_cons (pv 0) (pa_cons (pv 3) pa_nil))) (pv 3)))))))))), ?_⟩
    -- the way and the signs
    refine seq_via (fun σ' H' => ∃ (w : Nat) (sg : List Nat), σ' = [some (.ref b), some (.int (w : Nat)), some (.str (sgTxt sg)), none, none] ∧ w < 9 ∧ SgOk sg ∧ sg.length ≤ 3 ∧ Keep (J b) H H' ∧ BagAt b H') (fun N kN => ?_) ?_
    · obtain ⟨g, s', c, hb⟩ := id bag
      refine ⟨_, rfl, b, g, s', c, 9, rfl, hb, by decide, by decide, fun r g' c' r0 r1 => ?_⟩
      obtain ⟨w, rfl⟩ : ∃ j : Nat, r = j := ⟨r.toNat, by omega⟩
      obtain ⟨k1, bag1⟩ := thrown (b := b) (H := H) g' s' c'
      generalize upd H b (bagO g' s' c') = H1 at k1 bag1 ⊢
      refine ⟨_, rfl, by show 5 ≤ _; omega, fun L nL => ?_⟩
      have S2 := same_upd (o := .lst [.str "a", .str "ab", .str "ab", .str "ab", .str "abc"]) nL
      obtain ⟨gb, sb, cb, hbb, i1, i2, l0, l1, kk⟩ := pick_cond (K := K) (bag1.same S2) (upd_same (o := .lst [.str "a", .str "ab", .str "ab", .str "ab", .str "abc"])) (bag_ne bag1 nL) (by decide) (by decide)
      refine ⟨b, gb, sb, cb, .ref L, _, rfl, hbb, i1, i2, l0, l1, fun y g' c' hy => ?_⟩
      obtain ⟨k3, bag3, _⟩ := kk g' c'
      have k3 := (k1.trans (Keep.of S2)).trans k3
      generalize upd (upd H1 L (.lst [.str "a", .str "ab", .str "ab", .str "ab", .str "abc"])) b (bagO g' sb c') = H3 at k3 bag3 ⊢
      have ysg : ∃ sg, SgOk sg ∧ sg.length ≤ 3 ∧ y = .str (sgTxt sg) := by
        rcases List.mem_cons.mp hy with rfl | hy
        · exact ⟨[97], ⟨by decide, by decide, by decide, by decide⟩, by decide, rfl⟩
        rcases List.mem_cons.mp hy with rfl | hy
        · exact ⟨[97, 98], ⟨by decide, by decide, by decide, by decide⟩, by decide, rfl⟩
        rcases List.mem_cons.mp hy with rfl | hy
        · exact ⟨[97, 98], ⟨by decide, by decide, by decide, by decide⟩, by decide, rfl⟩
        rcases List.mem_cons.mp hy with rfl | hy
        · exact ⟨[97, 98], ⟨by decide, by decide, by decide, by decide⟩, by decide, rfl⟩
        rw [List.mem_singleton.mp hy]
        exact ⟨[97, 98, 99], ⟨by decide, by decide, by decide, by decide⟩, by decide, rfl⟩
      obtain ⟨sg, okS, l3, rfl⟩ := ysg
      exact ⟨_, _, rfl, kN _ _ ⟨w, sg, rfl, by omega, okS, l3, k3, bag3⟩⟩
    rintro σ' H1 ⟨w, sg, rfl, w9, okS, l3, k1, bag1⟩
    -- the told ones
    refine seq_via (fun σ' H' => σ' = [some (.ref b), some (.int (w : Nat)), some (.str (sgTxt sg)), none, none] ∧ H' = H1) (fun N kN => ?_) ?_
    · refine ⟨_, rfl, rfl, _, rfl, iteB (dec_int w 0) (fun _ => ?_) fun _ => kN _ _ ⟨rfl, rfl⟩⟩
      exact ⟨_, rfl, b, rfl, bag1, fun p H' R k' bag' okR l40 hp => kont p H' R (k1.trans k') bag' okR l40 hp⟩
    rintro σ' H' ⟨rfl, rfl⟩
    -- a guesser
    let Gd : L2.St → Hp → Prop := fun σ' H' => ∃ (p : Addr) (R : RwP), σ' = [some (.ref b), some (.int (w : Nat)), some (.str (sgTxt sg)), some (.ref p), none] ∧ Keep (J b) H H' ∧ BagAt b H' ∧ PlnAt H' p R ∧ R.Ok ∧ Sml R ∧ R.ed ≠ [] ∧ (w = 5 → R.ed.length ≤ 10 ∧ Lim 12 R) ∧ (6 < w → R.ed.length ≤ 6 ∧ Lim 4 R)
    refine seq_via Gd (fun N kN => ?_) ?_
    · obtain ⟨n, en, n1, n3, nw, nw5, nw6⟩ := way_size w w9
      refine ⟨_, rfl, _, rfl, by show 9 ≤ _; omega, fun x nx => ?_⟩
      have S2 := same_upd (o := .lst [.int 1, .int 1, .int 2, .int 2, .int 2, .int 3, .int 3, .int 2, .int 1]) nx
      refine ⟨_, rfl, .inl ⟨x, _, w, .int (n : Nat), rfl, rfl, .of upd_same, atI_nat (j := w) en, ?_⟩⟩
      have k2 := k1.trans (Keep.of S2)
      have bag2 := bag1.same S2
      generalize upd H' x (.lst [.int 1, .int 1, .int 2, .int 2, .int 2, .int 3, .int 3, .int 2, .int 1]) = H2 at k2 bag2 ⊢
      have eN : ((n : Nat) : Int).toNat = n := Int.toNat_natCast n
      refine ⟨_, rfl, _, _, rfl, rfl, _, rfl, iteB (dec_lt w 5) (fun h => ?_) fun h => ?_⟩
      · have h := of_decide_eq_true h
        have := nw h
        exact ⟨b, sg, n, 2, rfl, okS, by omega, by omega, by decide, by decide, by rw [eN]; omega, bag2, fun p H3 R k3 bag3 np okR sml thn edne lim edM hp => kN _ _ ⟨p, R, rfl, k2.trans k3, bag3, hp, okR, sml, edne, fun z => by omega, fun z => by omega⟩⟩
      · have h := of_decide_eq_false h
        refine ⟨b, sg, n, 1, rfl, okS, by omega, by omega, by decide, by decide, by rw [eN]; omega, bag2, fun p H3 R k3 bag3 np okR sml thn edne lim edM hp => kN _ _ ⟨p, R, rfl, k2.trans k3, bag3, hp, okR, sml, edne, fun z => ?_, fun z => ?_⟩⟩
        · rw [eN, nw5 z] at lim edM
          exact ⟨by omega, lim.up (by decide)⟩
        · rw [eN] at lim edM
          have n2 := nw6 z
          have : n * sg.length ≤ 2 * 3 := Nat.mul_le_mul n2 l3
          exact ⟨by omega, lim.up (by omega)⟩
    rintro σ' H2 ⟨p, R, rfl, k2, bag2, hp, okR, sml, edne, c5, c6⟩
    -- three copies
    refine seq_via Gd (fun N kN => ?_) ?_
    · refine ⟨_, rfl, rfl, _, rfl, iteB (dec_int w 1) (fun h => ?_) fun _ => kN _ _ ⟨p, R, rfl, k2, bag2, hp, okR, sml, edne, c5, c6⟩⟩
      have h := of_decide_eq_true h
      exact ⟨_, rfl, _, rfl, b, sg, 1, 3, rfl, okS, by decide, by decide, by decide, by decide, by decide, bag2, fun p H3 R k3 bag3 np okR sml thn edne lim edM hp => kN _ _ ⟨p, R, rfl, k2.trans k3, bag3, hp, okR, sml, edne, fun z => by omega, fun z => by omega⟩⟩
    clear c5 c6 edne sml okR hp bag2 k2
    rintro σ' H2 ⟨p, R, rfl, k2, bag2, hp, okR, sml, edne, c5, c6⟩
    -- two forms
    refine seq_via (fun σ' H' => ∃ (p : Addr) (R : RwP) (u : Option V), σ' = [some (.ref b), some (.int (w : Nat)), some (.str (sgTxt sg)), some (.ref p), u] ∧ Keep (J b) H H' ∧ BagAt b H' ∧ PlnAt H' p R ∧ R.Ok ∧ R.ed.length ≤ 40 ∧ (w = 5 → R.ed.length ≤ 10 ∧ Lim 12 R ∧ R.ed ≠ [])) (fun N kN => ?_) ?_
    · refine ⟨_, rfl, _, _, rfl, rfl, _, rfl, iteB (dec_lt6 w) (fun h => ?_) fun _ => kN _ _ ⟨p, R, _, rfl, k2, bag2, hp, okR, Nat.le_trans sml.n (by decide), fun z => ⟨(c5 z).1, (c5 z).2, edne⟩⟩⟩
      have h := of_decide_eq_true h
      obtain ⟨e6, l4⟩ := c6 h
      refine ⟨_, rfl, _, rfl, b, p, R, 4, rfl, bag2, okR, by omega, l4, by decide, sml.wd, sml.ws, edne, hp, fun q x y H5 A B k5 bag5 hq hA hB okA okB sgE lA lB bA bB => ?_⟩
      refine ⟨_, rfl, .inl ⟨q, _, 0, .ref x, rfl, rfl, .of hq, atI_nat (j := 0) rfl, ?_⟩⟩
      have okM : (RwP.mv 4 B).Ok := mv_ok okB bB (by decide)
      refine ⟨_, rfl, .inl ⟨q, _, 1, .ref y, rfl, rfl, .of hq, atI_nat (j := 1) rfl, y, B, 4, rfl, okB, okM, hB, fun z H6 S6 nz hz => ?_⟩⟩
      have fewJ : A.ed.length + (RwP.mv 4 B).ed.length ≤ 12 := by
        show A.ed.length + (B.ed.map _).length ≤ 12
        rw [List.length_map]
        omega
      have okJ : (RwP.join A (RwP.mv 4 B)).Ok := join_ok okA okM sgE (fun p hp q hq => by
        obtain ⟨q0, _, rfl⟩ := List.mem_map.mp hq
        have := bA.st p hp
        show p.1 ≠ q0.1 + 4
        omega) (fun p hp q hq => by
        obtain ⟨q0, _, rfl⟩ := List.mem_map.mp hq
        have := bA.en p hp
        show p.1 ≠ q0.1 + 4
        omega) (by omega)
      exact ⟨x, z, A, RwP.mv 4 B, rfl, okA, okM, okJ, hA.same S6, hz, fun r H7 S7 nr hr => kN _ _ ⟨r, _, _, rfl, (k2.trans k5).trans (Keep.of (S6.trans S7)), bag5.same (S6.trans S7), hr, okJ, by show (A.ed ++ (RwP.mv 4 B).ed).length ≤ 40; rw [List.length_append]; omega, fun z => by omega⟩⟩
    clear c5 c6 edne sml okR hp bag2 k2
    rintro σ' H2 ⟨p, R, u, rfl, k2, bag2, hp, okR, l40, c5⟩
    -- split
    refine seq_via (fun σ' H' => ∃ (p : Addr) (R : RwP), σ' = [some (.ref b), some (.int (w : Nat)), some (.str (sgTxt sg)), some (.ref p), u] ∧ Keep (J b) H H' ∧ BagAt b H' ∧ PlnAt H' p R ∧ R.Ok ∧ R.ed.length ≤ 40) (fun N kN => ?_) ?_
    · refine ⟨_, rfl, rfl, _, rfl, iteB (dec_int w 5) (fun h => ?_) fun _ => kN _ _ ⟨p, R, rfl, k2, bag2, hp, okR, l40⟩⟩
      obtain ⟨l10, lim, edne⟩ := c5 (of_decide_eq_true h)
      exact ⟨_, rfl, _, rfl, b, p, R, 12, 11, rfl, bag2, okR, l10, lim, by decide, by decide, edne, hp, fun q H' A k' bag' hA okA lA => kN _ _ ⟨q, A, rfl, k2.trans k', bag', hA, okA, lA⟩⟩
    clear c5 l40 okR hp bag2 k2
    rintro σ' H2 ⟨p, R, rfl, k2, bag2, hp, okR, l40⟩
    obtain ⟨g, s', c, hb⟩ := id bag2
    refine ⟨_, rfl, b, g, s', c, 4, rfl, hb, by decide, by decide, fun r g' c' r0 r1 => ?_⟩
    obtain ⟨r, rfl⟩ : ∃ j : Nat, r = j := ⟨r.toNat, by omega⟩
    obtain ⟨k3, bag3⟩ := thrown (b := b) (H := H2) g' s' c'
    have hp := hp.keep bag2 k3
    have k3 := k2.trans k3
    generalize upd H2 b (bagO g' s' c') = H3 at k3 bag3 hp ⊢
    refine ⟨rfl, _, rfl, iteB (dec_int r 0) (fun _ => ?_) fun _ => ?_⟩
    · exact ⟨_, rfl, _, rfl, b, p, R, rfl, bag3, okR, hp, fun q H' A k' bag' pt hA => kont q H' A (k3.trans k') bag' (part_ok pt okR) (Nat.le_trans pt.few l40) hA⟩
    · exact ⟨_, rfl, kont p H3 R k3 bag3 okR l40 hp⟩
end
end K0
set_option maxRecDepth 100000
set_option maxHeartbeats 1000000
namespace FM
open PySem PySem.Spec PyProof.Rows L2
section
variable {X : Cx}
def rEqD0 : R2 := fun x y H Q => ∃ (a b : Addr) (ks : List (Key × V)), x = .ref a ∧ y = .ref b ∧ H a = some (.dK ks) ∧ H b = some (.dK []) ∧ Q (.bl ks.isEmpty) H
theorem op_eq_d0 (hu : X.A.units < cLine) : OpR X (compareOp .Eq) rEqD0 := by
  intro pins s σ H x y v u Q I rx ry h
  obtain ⟨a, b, ks, rfl, rfl, ea, eb, q⟩ := h
  obtain rfl : v = Value.ref a := rx
  obtain rfl : u = Value.ref b := ry
  obtain ⟨_, ya, va, ra, da⟩ := (show ObjOk X.prog X.w H s.heap a (.dK ks) from I.hok a _ ea)
  obtain ⟨_, yb, vb, rb, db⟩ := (show ObjOk X.prog X.w H s.heap b (.dK []) from I.hok b _ eb)
  have lb : vb.length = 0 := by rw [← rb.length]; rfl
  have la : va.length = ks.length := ra.length.symm
  refine PySem.W.keq_eq (knd := mixKind X.prog X.w) (r := true) ya yb da db hu (fun hl => ?_) (fin_bl I q ?_)
  · have e : ks = [] := List.eq_nil_of_length_eq_zero (by omega)
    subst e
    exact hits_all rb ra fun p hp => nomatch hp
  · cases ks <;> simp_all
end
end FM
set_option maxRecDepth 100000
set_option maxHeartbeats 1000000
namespace FM
open PySem PySem.Spec PyProof.Rows L2
theorem flat_nats : ∀ ns : List Nat, PyData.hasDictAll (ns.map fun n => .int (n : Nat)) = false
  | [] => by simp [PyData.hasDictAll]
  | n :: ns => by simp [PyData.hasDictAll, PyData.hasDict, flat_nats ns]
end FM
set_option maxRecDepth 100000
set_option maxHeartbeats 1000000
namespace FM
open PySem PySem.Spec PyProof.Rows L2
def rReprN : List V → Hp → VK → Prop := fun xs H Q => ∃ (x : V) (d : PyData) (as : List Addr), xs = [x] ∧ DV H x d as ∧ d.showable = true ∧ d.hasDict = false ∧ d.depth ≤ 10 ∧ d.shown.length ≤ sizeLine ∧ Q (.str d.shown) H
theorem cr_reprN {X : Cx} (hg : X.A.guards = some []) (hu : X.A.units + 20 < cLine) : CallR X (.builtin "repr") rReprN := by
  intro pins s σ H xs us Q I r h
  obtain ⟨x, d, as, rfl, hd, h1, nh, h2, h3, q⟩ := h
  have whole : ∀ {p : Addr}, DV H (.ref p) d as → Vals [V.ref p] us → wpAny (model X.prog X.w) X.A (call (.builtin "repr") us) (EP X pins σ Q) X.xe s := fun {p} hd r => by
    obtain ⟨u, rfl, r1⟩ := vals1 r
    cases r1
    have R : Reads s.heap (.ref p) d as := hd.reads I.hok rfl
    exact repr_of_reads' R h1 (fun z => by rw [nh] at z; cases z) hg (by omega) (fun _ _ z => z) (fun h' u tk kp => ⟨.str d.shown, H, I.kept kp, ⟨u, rfl⟩, q⟩) h3
  cases hd with
  | non =>
    obtain ⟨u, rfl, r1⟩ := vals1 r
    cases r1
    exact PySem.P.repr_of_none ⟨.str _, H, I.tok _, ⟨_, rfl⟩, q⟩
  | bl b =>
    obtain ⟨u, rfl, r1⟩ := vals1 r
    cases r1
    cases b
    · exact PySem.P.repr_of_bool ⟨.str _, H, I.tok _, ⟨_, rfl⟩, q⟩
    · exact PySem.P.repr_of_bool ⟨.str _, H, I.tok _, ⟨_, rfl⟩, q⟩
  | int i =>
    obtain ⟨u, rfl, t, rfl⟩ := vals1 r
    exact PySem.P.repr_of_int (of_decide_eq_true h1) ⟨.str _, H, I.tok _, ⟨_, rfl⟩, q⟩
  | str z =>
    obtain ⟨u, rfl, t, rfl⟩ := vals1 r
    exact PySem.P.repr_of_str ⟨.str _, H, I.tok _, ⟨_, rfl⟩, q⟩ (hsz := h3)
  | lst e t => exact whole (.lst e t) r
  | tup e t => exact whole (.tup e t) r
  | dS e t => exact whole (.dS e t) r
  | dT e t => exact whole (.dT e t) r
  | dE e => exact whole (.dE e) r
end FM
set_option maxRecDepth 100000
set_option maxHeartbeats 8000000
namespace K0
open PySem L2 FM He
def qLam (x : Str) (sc : Scope) : Str := (PyProof.Rows.envOfC x sc 0 0 .none).qual ++ "<lambda>"
section
variable {P : Program} {w : World} {K : PySem.W.Frag} {mg : Str → Option Value} {base : Heap}
def spRgt (K : PySem.W.Frag) (Ts : List (Addr × Str)) : List V → Hp → VK → Prop := fun vs H Q => ∃ b : Addr, vs = [.ref b] ∧ BagAt b H ∧ LamX.Tabs Ts H ∧ ∀ H', KeepN b H H' → BagAt b H' → LamX.Tabs Ts H' → Q (.bl true) H'
theorem ok_law_right {f c Tb : Addr} {fd : FuncData} {Ts : List (Addr × Str)} (F : FnP K "_law_right" s__law_right f fd) (T0 : TO K mg) (hc : fd.code = .ref c) (tab : LamX.TabB base mg c Tb)
    (hmT : (Tb, qLam "_law_right" (defScope s__law_right)) ∈ Ts) (huT : ∀ p ∈ Ts, p.1 = Tb → p.2 = qLam "_law_right" (defScope s__law_right)) : FnG P w K mg base 10 f fd ["_law_bag"] (spRgt K Ts) := by
  have T : TP K mg := T0.toTP
  obtain ⟨d__law_drawn_path, F__law_drawn_path⟩ := T.f__law_drawn_path
  have G__law_drawn_path := ok_law_drawn_path (P := P) (w := w) (base := base) F__law_drawn_path T
  have b__law_drawn_path : Binds K d__law_drawn_path ["_law_bag", "_law_plain", "_law_most"] [] := F__law_drawn_path.bindsN fun _ _ _ _ _ _ us hl => match us, hl with | [_, _, _], _ => rfl
  obtain ⟨d__law_drawn_single, F__law_drawn_single⟩ := T.f__law_drawn_single
  have G__law_drawn_single := ok_law_drawn_single (P := P) (w := w) (base := base) F__law_drawn_single T
  have b__law_drawn_single : Binds K d__law_drawn_single ["_law_bag"] [] := F__law_drawn_single.bindsN fun _ _ _ _ _ _ us hl => match us, hl with | [_], _ => rfl
  obtain ⟨d__law_drawn_any, F__law_drawn_any⟩ := T.f__law_drawn_any
  have G__law_drawn_any := ok_law_drawn_any (P := P) (w := w) (base := base) F__law_drawn_any T
  have b__law_drawn_any : Binds K d__law_drawn_any ["_law_bag"] [] := F__law_drawn_any.bindsN fun _ _ _ _ _ _ us hl => match us, hl with | [_], _ => rfl
  obtain ⟨d__law_built, F__law_built⟩ := T.f__law_built
  have G__law_built := ok_law_built (P := P) (w := w) (base := base) F__law_built T
  have b__law_built : Binds K d__law_built ["_law_plain"] [] := F__law_built.bindsN fun _ _ _ _ _ _ us hl => match us, hl with | [_], _ => rfl
  obtain ⟨d__law_useful, F__law_useful⟩ := T.f__law_useful
  have G__law_useful := ok_law_useful (P := P) (w := w) (base := base) F__law_useful T
  have b__law_useful : Binds K d__law_useful ["_law_plain"] [] := F__law_useful.bindsN fun _ _ _ _ _ _ us hl => match us, hl with | [_], _ => rfl
  obtain ⟨d__law_near, F__law_near⟩ := T.f__law_near
  have G__law_near := ok_law_near (P := P) (w := w) (base := base) F__law_near T
  have b__law_near : Binds K d__law_near ["_law_bag", "_law_plain", "_law_path"] [] := F__law_near.bindsN fun _ _ _ _ _ _ us hl => match us, hl with | [_, _, _], _ => rfl
  obtain ⟨d__law_is_path, F__law_is_path⟩ := T.f__law_is_path
  have G__law_is_path := ok_law_is_path (P := P) (w := w) (base := base) F__law_is_path T
  have b__law_is_path : Binds K d__law_is_path ["_law_plain", "_law_value"] [] := F__law_is_path.bindsN fun _ _ _ _ _ _ us hl => match us, hl with | [_, _], _ => rfl
  obtain ⟨d__law_throw, F__law_throw⟩ := T.f__law_throw
  have G__law_throw := ok_law_throw (P := P) (w := w) (base := base) F__law_throw T
  have b__law_throw : Binds K d__law_throw ["_law_bag", "_law_total"] [] := F__law_throw.bindsN fun _ _ _ _ _ _ us hl => match us, hl with | [_, _], _ => rfl
  obtain ⟨d_is_path, F_is_path⟩ := T.f_is_path
  have G_is_path := ok_is_path (P := P) (w := w) (base := base) F_is_path T
  have b_is_path : Binds K d_is_path ["rewriter", "value"] [] := F_is_path.bindsN fun _ _ _ _ _ _ us hl => match us, hl with | [_, _], _ => rfl
  obtain ⟨d__law_met, F__law_met⟩ := T.f__law_met
  have b__law_met : Binds K d__law_met ["_law_call"] [] := F__law_met.bindsN fun _ _ _ _ _ _ us hl => match us, hl with | [_], _ => rfl
  obtain ⟨d__law_room_at, F__law_room_at⟩ := T.f__law_room_at
  have G__law_room_at := ok_law_room_at (P := P) (w := w) (base := base) F__law_room_at T
  have b__law_room_at : Binds K d__law_room_at ["_law_path", "_law_size"] [] := F__law_room_at.bindsN fun _ _ _ _ _ _ us hl => match us, hl with | [_, _], _ => rfl
  obtain ⟨d_reads, F_reads⟩ := T.f_reads
  have G_reads := ok_reads (P := P) (w := w) (base := base) F_reads T0
  have b_reads : Binds K d_reads ["rewriter", "path"] [] := F_reads.bindsN fun _ _ _ _ _ _ us hl => match us, hl with | [_, _], _ => rfl
  obtain ⟨d_writes, F_writes⟩ := T.f_writes
  have G_writes := ok_writes (P := P) (w := w) (base := base) F_writes T0
  have b_writes : Binds K d_writes ["rewriter", "path"] [] := F_writes.bindsN fun _ _ _ _ _ _ us hl => match us, hl with | [_, _], _ => rfl
  obtain ⟨d__law_read_by, F__law_read_by⟩ := T.f__law_read_by
  have G__law_read_by := ok_law_read_by (P := P) (w := w) (base := base) F__law_read_by T
  have b__law_read_by : Binds K d__law_read_by ["_law_path"] [] := F__law_read_by.bindsN fun _ _ _ _ _ _ us hl => match us, hl with | [_], _ => rfl
  obtain ⟨d__law_wrote, F__law_wrote⟩ := T.f__law_wrote
  have G__law_wrote := ok_law_wrote (P := P) (w := w) (base := base) F__law_wrote T
  have b__law_wrote : Binds K d__law_wrote ["_law_plain", "_law_path", "_law_size"] [] := F__law_wrote.bindsN fun _ _ _ _ _ _ us hl => match us, hl with | [_, _, _], _ => rfl
  have gTk := T.g__law_met
  have kTk := F__law_met.kp
  have bTk := b__law_met
  obtain ⟨oc, od, dV, kV, doc, pm, an, cdT, ct, osl, efd, lkT, hcT, _, _⟩ := id F__law_met.ex
  subst efd
  refine FnG.of F sc__law_right (fun vs H Q h => ?_) (fun cdv A outer s H vs Q hcd hg hr h => ?_)
  · obtain ⟨b, rfl, _⟩ := h
    rfl
  · obtain ⟨b, rfl, bag, tb0, kont⟩ := h
    have hcode : cdv = .ref c := hcd.symm.trans hc
    subst hcode
    have nd := sc__law_right.nd
    have hu64 := hr.units
    have hu0 : (A.deeper (PyProof.Rows.envOfC "_law_right" (defScope s__law_right) s.heap.objs.size f (.ref c))).units < cLine := Nat.lt_of_le_of_lt (Nat.le_add_right _ 64) hu64
    have hu1 := Nat.lt_of_le_of_lt (Nat.add_le_add_left (by decide : 1 ≤ 64) _) hu64
    have hu20 := Nat.lt_of_le_of_lt (Nat.add_le_add_left (by decide : 20 ≤ 64) _) hu64
    have hcode : (Value.ref c) = .ref c := rfl
    refine ⟨_, PSs.nox (pss_cons (ps_set (i := 1) nd rfl (.inl rfl) (pe_ifExp (pt_cmpR op_gt (pe_call G__law_throw (hr.mono (by decide)) rfl T.g__law_throw F__law_throw.kp b__law_throw .nil pass0 (pa_cons (pv 0) (pa_cons pe_int pa_nil))) pe_int (nomark _)) (pe_call G__law_drawn_single (hr.mono (by decide)) rfl T.g__law_drawn_single F__law_drawn_single.kp b__law_drawn_single .nil pass0 (pa_cons (pv 0) pa_nil)) (pe_call G__law_drawn_any (hr.mono (by decide)) rfl T.g__law_drawn_any F__law_drawn_any.kp b__law_drawn_any .nil pass0 (pa_cons (pv 0) pa_nil))))
      (pss_cons (ps_asg (pe_tup (pa_cons (pe_call G__law_built (hr.mono (by decide)) rfl T.g__law_built F__law_built.kp b__law_built .nil pass0 (pa_cons (pv 1) pa_nil)) (pa_cons (pe_call G__law_useful (hr.mono (by decide)) rfl T.g__law_useful F__law_useful.kp b__law_useful .nil pass0 (pa_cons (pv 1) pa_nil)) pa_nil))) (pg_tup (by rfl) (pgs_cons (pg_name (i := 2) nd rfl (.inr rfl)) (pgs_cons (pg_name (i := 3) nd rfl (.inl rfl)) pgs_nil))))
      (pss_cons (ps_if (pt_cmpR (op_eq_d0 hu0) (pe_ix ix_seq (pv 3) pe_int (fun _ _ => rfl)) pe_dnewK (nomark _)) (pss_one (ps_ret (pe_cmpR (op_isBl : OpR _ _ rIsB) (pe_call G_is_path (hr.mono (by decide)) rfl T.g_is_path F_is_path.kp b_is_path .nil pass0 (pa_cons (pv 2) (pa_cons (pe_tup (pa_cons pe_int (pa_cons (pe_tup pa_nil) pa_nil))) pa_nil))) pe_bl (nomark _)))) pss_nil)
      (pss_cons (ps_set (i := 4) nd rfl (.inl rfl) (pe_call G__law_drawn_path (hr.mono (by decide)) rfl T.g__law_drawn_path F__law_drawn_path.kp b__law_drawn_path .nil pass0 (pa_cons (pv 0) (pa_cons (pv 3) (pa_cons pe_int pa_nil)))))
      (pss_cons (ps_for PassesOwn.never rfl (pi_list (pe_op op_cat (pe_call G__law_near (hr.mono (by decide)) rfl T.g__law_near F__law_near.kp b__law_near .nil pass0 (pa_cons (pv 0) (pa_cons (pv 3) (pa_cons (pv 4) pa_nil)))) (pe_lst (pa_cons (pv 4) pa_nil)))) (pg_name (i := 5) nd rfl (.inr rfl)) (pss_cons (ps_set (i := 6) nd rfl (.inl rfl) (pe_call G__law_is_path (hr.mono (by decide)) rfl T.g__law_is_path F__law_is_path.kp b__law_is_path .nil pass0 (pa_cons (pv 3) (pa_cons (pv 5) pa_nil))))
      (pss_cons (ps_if (pt_cmpR op_ne (pe_callB (cr_reprN hg hu20) (by rfl) T.b_repr (by decide +kernel) (pa_cons (pe_call G_is_path (hr.mono (by decide)) rfl T.g_is_path F_is_path.kp b_is_path .nil pass0 (pa_cons (pv 2) (pa_cons (pv 5) pa_nil))) pa_nil)) (pe_callB (cr_reprN hg hu20) (by rfl) T.b_repr (by decide +kernel) (pa_cons (pv 6) pa_nil)) (nomark _)) (pss_one (ps_ret pe_bl)) pss_nil)
      (pss_cons (ps_set (i := 7) nd rfl (.inl rfl) (pe_lst (pa_cons (LamX.pe_lamcall (k := 6) rfl gTk kTk lkT hcT bTk sc__law_met rfl (.inl rfl) (met_gives T0.g_IO) tab hcode hmT huT (hr.mono (by decide)) (LamX.lamS_by (sc := defScope s__law_right) (by decide +kernel)) (by rfl) (fun _ _ _ _ _ => rfl) (fun _ _ _ _ E _ _ hrl => (pe_call G_reads (hrl.mono (by decide)) rfl T.g_reads F_reads.kp b_reads .nil (passes_call (takes_of rfl rfl rfl rfl) (fun _ _ _ _ h => h)) (pa_cons (pv 2) (pa_cons (pv 5) pa_nil))))) pa_nil)))
      (pss_cons (ps_expr (pe_bm PySem.F.plainAttrs_list PySem.F.slot_list_append PySem.F.type_list_append mt_append (pv 7) (pa_cons (LamX.pe_lamcall (k := 6) rfl gTk kTk lkT hcT bTk sc__law_met rfl (.inl rfl) (met_gives T0.g_IO) tab hcode hmT huT (hr.mono (by decide)) (LamX.lamS_by (sc := defScope s__law_right) (by decide +kernel)) (by rfl) (fun _ _ _ _ _ => rfl) (fun _ _ _ _ E _ _ hrl => (pe_call G_writes (hrl.mono (by decide)) rfl T.g_writes F_writes.kp b_writes .nil (passes_call (takes_of rfl rfl rfl rfl) (fun _ _ _ _ h => h)) (pa_cons (pv 2) (pa_cons (pv 5) pa_nil))))) pa_nil)))
      (pss_cons (ps_if (PW.pt (pw_and (pt_not (pt_val (pv 6))) (pw_and1 (pt_cmpR (op_neS hu64) (pv 7) (pe_op op_rep (pe_lst (pa_cons pe_str pa_nil)) pe_int) (nomark _))))) (pss_one (ps_ret pe_bl)) pss_nil)
      (pss_one (ps_if (pt_val (pv 6)) (pss_cons (ps_set (i := 8) nd rfl (.inl rfl) (pe_dget2 hu1 (pe_ix ix_seq (pv 3) pe_int (fun _ _ => rfl)) (pe_call G__law_room_at (hr.mono (by decide)) rfl T.g__law_room_at F__law_room_at.kp b__law_room_at .nil pass0 (pa_cons (pv 5) (pa_cons (pe_callB call_len (by rfl) T.b_len (by decide +kernel) (pa_cons (pe_ix ix_seq (pv 5) pe_int (fun _ _ => rfl)) pa_nil)) pa_nil))) pe_str ⟨rfl, rfl, rfl, rfl⟩))
      (pss_one (ps_if (pt_cmpR (op_neS hu64) (pv 7) (pe_lst (pa_cons (pe_call G__law_read_by (hr.mono (by decide)) rfl T.g__law_read_by F__law_read_by.kp b__law_read_by .nil pass0 (pa_cons (pv 5) pa_nil)) (pa_cons (pe_op op_add_str (pe_call G__law_wrote (hr.mono (by decide)) rfl T.g__law_wrote F__law_wrote.kp b__law_wrote .nil pass0 (pa_cons (pv 3) (pa_cons (pv 5) (pa_cons (pe_callB call_len (by rfl) T.b_len (by decide +kernel) (pa_cons (pe_ix ix_seq (pv 5) pe_int (fun _ _ => rfl)) pa_nil)) pa_nil)))) (pv 8)) pa_nil))) (nomark _)) (pss_one (ps_ret pe_bl)) pss_nil))) pss_nil))))))))
      (pss_one (ps_ret pe_bl))))))), ?_⟩
    have big : (100000 : Nat) ≤ sizeLine := by decide
    -- the draw
    refine seq_via (fun σ' H' => ∃ p R, σ' = [some (.ref b), some (.ref p), none, none, none, none, none, none, none] ∧ Keep (J b) H H' ∧ BagAt b H' ∧ R.Ok ∧ R.ed.length ≤ 40 ∧ PlnAt H' p R) (fun N kN => ?_) ?_
    · obtain ⟨g, s', cc, hb⟩ := bag
      refine ⟨_, rfl, b, g, s', cc, 3, rfl, hb, by decide, by decide, fun r g' c' r0 r1 => ?_⟩
      obtain ⟨k1, bag1⟩ := thrown (b := b) (H := H) g' s' c'
      refine ⟨_, _, rfl, rfl, _, rfl, iteB (d := decide (0 < r)) rfl (fun _ => ?_) fun _ => ?_⟩
      · exact ⟨_, rfl, b, rfl, bag1, fun p H' R k2 bag2 okR l40 pl => kN _ _ ⟨p, R, rfl, k1.trans k2, bag2, okR, l40, pl⟩⟩
      · exact ⟨_, rfl, b, rfl, bag1, fun p H' R k2 bag2 np okR sm _ pl => kN _ _ ⟨p, R, rfl, k1.trans k2, bag2, okR, Nat.le_trans sm.n (by decide), pl⟩⟩
    rintro σ1 H1 ⟨p, R, rfl, k1, bag1, okR, l40, pl⟩
    -- the object, its useful part
    refine ⟨_, rfl, p, R, rfl, okR, pl, fun x H2 us ed S2 nx kept M2 => ?_⟩
    refine ⟨_, rfl, p, R, rfl, okR, l40, pl.same S2, fun q H3 us' ed' S3 nq kept' plq => ?_⟩
    obtain ⟨rfl, rfl⟩ := kept'.one kept
    clear kept'
    refine ⟨by show 2 ≤ _; omega, fun ap nap => ⟨ap, _, rfl, .of upd_same, rfl, _, _, rfl, _, _, rfl, rfl, ?_⟩⟩
    have S4 := same_upd (o := .tup [.ref x, .ref q]) nap
    have M4 := (M2.same S3).same S4
    have plq4 := plq.same S4
    have k4 : KeepN b H _ := (KeepN.keep k1).trans (KeepN.same ((S2.trans S3).trans S4))
    have tb4 := ((tabs_keep tb0 bag k1).ext ((S2.trans S3).trans S4))
    have bag4 := bag1.same ((S2.trans S3).trans S4)
    generalize upd H3 ap (.tup [.ref x, .ref q]) = H4 at M4 plq4 k4 tb4 bag4 ⊢
    clear S4 nap plq S3 nq M2 S2 nx pl bag1 k1
    have ndu : us'.Nodup := kept.rise.imp fun h => Nat.ne_of_lt h
    have okS : TblOk (atS R.st us') := atS_ok okR.st ndu
    have okE : TblOk (atS R.en us') := atS_ok okR.en ndu
    have oks : ∀ e ∈ ed', EdgOk R.sg e := fun e he => okR.ed e ((kept.eds e).mp he).1
    have l63 : ed'.length ≤ 63 := Nat.le_trans (kept_len kept) (Nat.le_trans l40 (by decide))
    obtain ⟨a0, t0, b0, c1, c2, c3, c4⟩ := id plq4
    refine ⟨_, rfl, .inr (.inl ⟨q, _, 1, _, rfl, rfl, .of c1, atI_nat (j := 1) rfl, ?_⟩)⟩
    refine fun d0 nd0 => ⟨a0, d0, entW (atS R.st us'), rfl, rfl, (same_upd nd0) _ _ c2, upd_same, _, rfl, ?_⟩
    have S5 := same_upd (o := .dK []) nd0
    refine iteB rfl (fun hE => ?_) fun hN => ?_
    · have e0 : atS R.st us' = [] := by
        have := List.isEmpty_iff.mp hE
        exact List.map_eq_nil_iff.mp this
      have M5 := M4.same S5
      refine ⟨_, rfl, (eld_tup (K := K) (els_cons (eld_int 0) (els_cons (eld_tup els_nil) els_nil))) _ _ (.refl _) fun v H6 S6 dv => ?_⟩
      refine ⟨x, v, R, us', ed', _, rfl, okR, kept, M5.same S6, dv, by decide +kernel, fun H7 S7 => ⟨_, _, rfl, rfl, ?_⟩⟩
      have eF : trB (atS R.st us') ed' (.tuple [.int 0, .tuple []]) = false := by
        cases z : trB (atS R.st us') ed' (.tuple [.int 0, .tuple []]) with
        | false => rfl
        | true =>
          obtain ⟨_, _, _, hm, _⟩ := trB_of z
          rw [e0] at hm
          cases hm
      rw [eF]
      have S57 := S5.trans (S6.trans S7)
      exact kont _ (k4.trans (KeepN.same S57)) (bag4.same S57) (tb4.ext S57)
    have neS : atS R.st us' ≠ [] := fun e => by
      rw [e] at hN
      cases hN
    -- a path
    have M5 := M4.same S5
    have plq5 := plq4.same S5
    have k5 := k4.trans (KeepN.same S5)
    have tb5 := tb4.ext S5
    have bag5 := bag4.same S5
    generalize upd H4 d0 (.dK []) = H5 at M5 plq5 k5 tb5 bag5 ⊢
    clear S5 nd0 c1 c2 c3 c4 a0 t0 b0 bag4 tb4 k4 plq4 M4
    refine ⟨_, rfl, _, rfl, b, q, RwP.cut R us' ed', rfl, bag5, plq5, okS, neS, l63, fun vp H6 s0 u0 es0 k6 bag6 dp6 hs0 ch0 in0 l6 => ?_⟩
    have M6 := M5.keep bag5 k6
    have plq6 := plq5.keep bag5 k6
    have tb6 := tabs_keep tb5 bag5 k6
    -- values near it
    refine ⟨_, rfl, _, rfl, _, rfl, b, q, vp, RwP.cut R us' ed', s0, es0, rfl, bag6, plq6, okR.sg, oks, l63, dp6, okS.few _ hs0, in0, l6, fun L H7 k7 bag7 near7 => ?_⟩
    have M7 := M6.keep bag6 k7
    have plq7 := plq6.keep bag6 k7
    have tb7 := tabs_keep tb6 bag6 k7
    have dp7 := Dp.keepB bag6 k7 (nb_path s0 es0) dp6
    have k07 := (k5.trans (KeepN.keep k6)).trans (KeepN.keep k7)
    clear M5 M6 plq5 plq6 tb5 tb6 dp6 k5 k6 k7 bag5 bag6
    refine ⟨_, rfl, by show 1 ≤ _; omega, fun LB nLB => ?_⟩
    have S8 := same_upd (o := .lst [vp]) nLB
    obtain ⟨ys, ds, hL, dL, gL, lL⟩ := near7.same S8
    refine ⟨L, LB, ys, _, rfl, rfl, hL, upd_same, by show ys.length + 1 ≤ _; omega, fun LC nLC => ?_⟩
    have S9 := S8.trans (same_upd (o := .lst (ys ++ [vp])) nLC)
    have hLC : upd (upd H7 LB (.lst [vp])) LC (.lst (ys ++ [vp])) LC = some (.lst (ys ++ [vp])) := upd_same
    have dLC : DpAll K (upd (upd H7 LB (.lst [vp])) LC (.lst (ys ++ [vp]))) (ys ++ [vp]) (ds ++ [pathD s0 es0]) := dpAll_app (DpAll.same (same_upd nLC) dL) (.cons (Dp.same S9 dp7) .nil)
    have gLC : ∀ d ∈ ds ++ [pathD s0 es0], GoodD d := fun d hd => by
      rcases List.mem_append.mp hd with hd | hd
      · exact gL d hd
      · rw [List.mem_singleton.mp hd]
        exact good_two (Lays.tup (Lay.cons (lay_int (n := 3) _) (Lay.cons (lays_rows okR.sg fun e he => oks e (in0 e he)).tup lays_nil))) (by rw [List.length_map]; omega)
    have M8 := M7.same S9
    have plq8 := plq7.same S9
    have tb8 := tb7.ext S9
    have bag8 := bag7.same S9
    have k8 := k07.trans (KeepN.same S9)
    generalize upd (upd H7 LB (.lst [vp])) LC (.lst (ys ++ [vp])) = H8 at hLC dLC M8 plq8 tb8 bag8 k8 ⊢
    clear S9 nLC S8 nLB hL dL gL lL near7 M7 plq7 tb7 bag7 k07 dp7
    generalize ys ++ [vp] = zs at hLC dLC
    generalize ds ++ [pathD s0 es0] = dz at dLC gLC
    refine ⟨LC, rfl, ⟨_, .of hLC⟩, ?_⟩
    refine for_it walk_list (fun i σ H' => ∃ u5 u6 u7 u8 : Option V, σ = [some (.ref b), some (.ref p), some (.ref x), some (.ref q), some vp, u5, u6, u7, u8] ∧ LamX.ExtN H8 H' ∧ LamX.Tabs Ts H') ⟨_, _, _, _, rfl, .refl _, tb8⟩ (fun _ _ _ _ h => by obtain ⟨_, _, _, _, _, h, _⟩ := h; exact sqL_ext h (.of hLC)) ?_ ?_
    · rintro i v σ H9 H9' hi ⟨u5, u6, u7, u8, rfl, e9, t9⟩ ⟨rfl, hv⟩
      obtain ⟨d, hdz, pv⟩ := dpAll_get dLC hv
      have gd := gLC d (List.mem_of_getElem? hdz)
      have pv9 := Dp.ext e9 pv
      have M9 := M8.ext e9
      have plq9 := plq8.ext e9
      obtain ⟨t, et⟩ : ∃ t, trB (atS R.st us') ed' d = t := ⟨_, rfl⟩
      refine ⟨_, rfl, _, rfl, q, v, RwP.cut R us' ed', d, rfl, okR.sg, oks, okS, plq9, pv9, gd.2.1, ?_⟩
      rw [show trB (RwP.cut R us' ed').st (RwP.cut R us' ed').ed d = t from et]
      refine ⟨_, rfl, _, rfl, x, v, R, us', ed', d, rfl, okR, kept, M9, pv9, gd.2.1, fun HA SA => ?_⟩
      rw [et]
      have shb : (PyData.bool t).shown.length ≤ sizeLine := by cases t <;> decide +kernel
      refine ⟨.bl t, .bool t, _, rfl, .bl t, rfl, rfl, by rw [PyData.depth]; decide, shb, _, rfl, .bl t, .bool t, _, rfl, .bl t, rfl, rfl, by rw [PyData.depth]; decide, shb, rfl, _, rfl, iteB (d := false) (by simp) (fun h => absurd h Bool.false_ne_true) fun _ => ?_⟩
      have eA := e9.same SA
      have tA := t9.ext SA
      have pvA := Dp.same SA pv9
      have MA := M9.same SA
      have plqA := plq9.same SA
      clear pv9 M9 plq9 SA t9 e9 shb
      cases t with
      | false =>
        refine two_told (K := K) (s1 := "no path") (s2 := "no path") tA (fun _ => rfl) (fun H1 Q1 e1 k1 => ?_) (fun L1 H1 e1 H2 Q1 e2 k1 => ?_) fun L1 HB eB tB hB => ?_
        · exact ⟨_, rfl, _, rfl, x, v, R, us', ed', d, rfl, okR, kept, MA.ext e1, Dp.ext e1 pvA, gd.2.1, .inl ⟨et, met_err T0 k1⟩⟩
        · exact ⟨_, rfl, _, rfl, x, v, R, us', ed', d, rfl, okR, kept, MA.ext (e1.trans e2), Dp.ext (e1.trans e2) pvA, gd.2.1, .inl ⟨et, met_err T0 k1⟩⟩
        · refine ⟨_, rfl, _, rfl, iteT ⟨_, rfl, rep_mk (by decide) fun L2 HC SC hC => ⟨L1, L2, ["no path", "no path"], List.replicate 2 "no path", rfl, rfl, .of (SC _ _ hB), .of hC, _, rfl, iteB (d := false) (by simp) (fun h => absurd h Bool.false_ne_true) fun _ => ?_⟩⟩⟩
          exact ⟨_, rfl, _, rfl, iteF ⟨_, _, _, _, rfl, (eA.trans eB).same SC, tB.ext SC⟩⟩
      | true =>
        obtain ⟨s1, u1, es1, hs1, rfl, ch1, in1⟩ := trB_of et
        have l200 : es1.length ≤ 200 := gd.2.2 s1 es1 rfl
        have u8 : ∀ e ∈ es1, e.u.length ≤ 8 := fun e he => (oks e (in1 e he)).len
        refine two_told (K := K) (s1 := cT es1) (s2 := u1 ++ uT es1 ++ endW (atS R.en us') (lastS s1 es1)) tA (fun _ => rfl) (fun H1 Q1 e1 k1 => ?_) (fun L1 H1 e1 H2 Q1 e2 k1 => ?_) fun L1 HB eB tB hB => ?_
        · exact ⟨_, rfl, _, rfl, x, v, R, us', ed', _, rfl, okR, kept, MA.ext e1, Dp.ext e1 pvA, gd.2.1, .inr ⟨et, s1, es1, rfl, l200, k1⟩⟩
        · exact ⟨_, rfl, _, rfl, x, v, R, us', ed', _, rfl, okR, kept, MA.ext (e1.trans e2), Dp.ext (e1.trans e2) pvA, gd.2.1, .inr ⟨et, s1, u1, es1, rfl, hs1, l200, u8, k1⟩⟩
        · refine ⟨_, rfl, _, rfl, iteF (iteF ?_)⟩
          have pvB := Dp.ext eB pvA
          have plqB := plqA.ext eB
          have eAB := eA.trans eB
          clear pvA MA plqA tA eA eB
          obtain ⟨a0, t0, b0, c1, c2, c3, c4⟩ := id plqB
          obtain ⟨tv, rv, xs, rfl, ht, hr1, da⟩ := path_parts pvB
          have lx : es1.length = xs.length := by rw [dpAll_len da, List.length_map]
          refine ⟨_, rfl, _, rfl, iteT ?_⟩
          refine ⟨_, rfl, .inr (.inl ⟨q, _, 3, _, rfl, rfl, .of c1, atI_nat (j := 3) rfl, b0, rfl, .inl ⟨_, .inl c3⟩, ?_⟩)⟩
          refine ⟨_, rfl, _, rfl, .inr (.inl ⟨tv, _, 1, _, rfl, rfl, ht, atI_nat (j := 1) rfl, _, es1.length, rfl, .inr ⟨xs, hr1, lx⟩, ?_⟩)⟩
          refine ⟨_, s1, es1, rfl, pvB, _, DGet.k (k := (.inl (lastS s1 es1 : Int) : Key)) c3, ?_⟩
          obtain ⟨g1, g2⟩ := endW_get okE (lastS s1 es1)
          rw [show (RwP.cut R us' ed').en = atS R.en us' from rfl]
          rw [g1]
          refine ⟨_, rfl, _, rfl, _, s1, es1, rfl, pvB, l200, fun HC SC => ?_⟩
          refine ⟨_, rfl, _, rfl, _, rfl, .inr (.inl ⟨tv, _, 1, _, rfl, rfl, sqT_same SC ht, atI_nat (j := 1) rfl, _, es1.length, rfl, .inr ⟨xs, sqT_same SC hr1, lx⟩, ?_⟩)⟩
          refine ⟨q, _, RwP.cut R us' ed', s1, u1, es1, rfl, plqB.same SC, okS, Dp.same SC pvB, hs1, l200, u8, fun HD SD => ?_⟩
          have l1 := uT_len (es := es1) l200 u8
          have ul : u1.length ≤ 8 := (okS.word _ hs1).2
          refine ⟨_, rfl, u1 ++ uT es1, endW (atS R.en us') (lastS s1 es1), rfl, rfl, by rw [app_len]; omega, by show 2 ≤ sizeLine; decide, fun LD nLD => ?_⟩
          have SE := (SC.trans SD).trans (same_upd (o := .lst [.str (cT es1), .str (u1 ++ uT es1 ++ endW (atS R.en us') (lastS s1 es1))]) nLD)
          refine ⟨L1, LD, [cT es1, u1 ++ uT es1 ++ endW (atS R.en us') (lastS s1 es1)], [cT es1, u1 ++ uT es1 ++ endW (atS R.en us') (lastS s1 es1)], rfl, rfl, .of (SE _ _ hB), .of upd_same, _, rfl, iteB (d := false) (by simp) (fun h => absurd h Bool.false_ne_true) fun _ => ?_⟩
          exact ⟨_, _, _, _, rfl, eAB.same SE, tB.ext SE⟩
    · rintro σ H9 ⟨u5, u6, u7, u8, rfl, e9, t9⟩
      exact kont _ (k8.trans (KeepN.ext e9)) (bag8.ext e9) t9
end
end K0
set_option maxRecDepth 100000
set_option maxHeartbeats 2000000
namespace K0
open PySem L2 FM He
theorem seq_edgesT {es : List Edg} {i : Nat} {rest : TS} {D : Ends} {σ : St} {H : Hp} (l : es.length ≤ 1000)
    (q : ∀ t ks H', Same H H' → H' t = some (.tup (ks.map fun p => V.ref p.1)) → ks.map (·.2) = es → EdsAt H' ks → rest D (σ.set i (some (.ref t))) H') : tSeq (tAsg (tTup (taE es)) (gName i)) rest D σ H := by
  refine taE_run es fun ks H' S e1 hk => ?_
  have l2 : ks.length = es.length := by
    have := congrArg List.length e1
    rwa [List.length_map] at this
  have big : (1000 : Nat) ≤ sizeLine := by decide
  refine ⟨by rw [List.length_map]; omega, fun p np => ?_⟩
  exact q p ks _ (S.trans (same_upd np)) upd_same e1 (hk.same (same_upd np))
/-- name = Rewriter(..) -/
theorem seq_make {K : PySem.W.Frag} {te : L2.TE} {i : Nat} {rest : TS} {D : Ends} {σ : St} {H : Hp} {c : Cas} (hm : ∀ Q : VK, (∀ x H', Same H H' → RwAt K H' x c.R c.us c.ed → Q (.ref x) H') → te σ H Q)
    (q : ∀ x H', Same H H' → RwAt K H' x c.R c.us c.ed → rest D (σ.set i (some (.ref x))) H') : tSeq (tAsg te (gName i)) rest D σ H := hm _ q
theorem rdE_varT {K : PySem.W.Frag} {σ : St} {H0 : Hp} {es : List Edg} {t : Addr} {i : Nat} {ks : List (Addr × Edg)} (e4 : σ[i]? = some (some (.ref t))) (ht : SqT K H0 t (ks.map fun q => V.ref q.1)) (ek : ks.map (·.2) = es) (hk : EdsAt H0 ks) : RdE K σ H0 (tVar i) es :=
  fun H Q S q => ⟨_, e4, q t ks H (.refl _) (sqT_same S ht) ek (hk.same S)⟩
/-- (edge,): one edge that a name holds -/
theorem rdE_oneT {K : PySem.W.Frag} {σ : St} {H0 : Hp} {e : Edg} {a : Addr} {i : Nat} (e4 : σ[i]? = some (some (.ref a))) (ha : H0 a = some (.tup (e.row.map kV))) : RdE K σ H0 (tTup (tCons (tVar i) tNil)) [e] :=
  fun H Q S q => ⟨_, e4, by show 1 ≤ sizeLine; decide, fun p np => q p [(a, e)] _ (same_upd np) (.of upd_same) rfl fun z hz => by
    rw [List.mem_singleton.mp hz]
    exact same_upd np _ _ (S _ _ ha)⟩
/-- name = an edge -/
theorem seq_edge {e : Edg} {i : Nat} {rest : TS} {D : Ends} {σ : St} {H : Hp} (q : ∀ a H', Same H H' → H' a = some (.tup (e.row.map kV)) → rest D (σ.set i (some (.ref a))) H') :
    tSeq (tAsg (tTup (tCons (tC (.int (e.a : Nat))) (tCons (tC (.str ⟨#[e.c]⟩)) (tCons (tC (.str e.u)) (tCons (tC (.int (e.b : Nat))) tNil))))) (gName i)) rest D σ H := ⟨by show 4 ≤ sizeLine; decide, fun p np => q p _ (same_upd np) upd_same⟩
def sE : Str := ⟨#[]⟩
def sX : Str := ⟨#[120]⟩
def sA : Str := ⟨#[97]⟩
def sB : Str := ⟨#[98]⟩
def sY : Str := ⟨#[121]⟩
def e1_ : Edg := ⟨0, 97, sA, 1⟩
def e2_ : Edg := ⟨1, 98, sE, 0⟩
def e3_ : Edg := ⟨1, 98, sB, 1⟩
def lp : Edg := ⟨0, 97, sA, 0⟩
def g1 : Cas := ⟨⟨[97, 98], [(0, sX)], [e1_, e2_, e3_], [(1, sY)]⟩, [0, 1], [e1_, e2_, e3_]⟩
def g2 : Cas := ⟨⟨[97], [(0, sE)], [lp], [(0, sB)]⟩, [0], [lp]⟩
def g3 : Cas := ⟨⟨[97], [(0, sE)], [], []⟩, [], []⟩
theorem g1A : g1.A := by constructor <;> decide +kernel
theorem g2A : g2.A := by constructor <;> decide +kernel
theorem g3A : g3.A := by constructor <;> decide +kernel
section
variable {K : PySem.W.Frag} {σ : L2.St} {H0 : Hp} {c : Cas} {i : Nat} {x : Addr} {tv : L2.TE} {d : PyData}
theorem eld_is_path {b : Bool} {E : XK} (ca : c.A) (ex : σ[i]? = some (some (.ref x))) (M : RwAt K H0 x c.R c.us c.ed) (h : ElD K σ H0 tv d) (sd : SeqAt.shaped d = true) (e : trB (atS c.R.st c.us) c.ed d = b) :
    ElD K σ H0 (tCall (spPth K) [] E (tCons (tVar i) (tCons tv tNil))) (.bool b) := fun H Q S q =>
  ⟨_, ex, h H _ S fun v H1 S1 dv => ⟨x, v, c.R, c.us, c.ed, d, rfl, ca.ok, ca.kept, M.same (S.trans S1), dv, sd, fun H2 S2 => by rw [e]; exact q _ H2 (S1.trans S2) (.bl b)⟩⟩
theorem eld_reads {s : Nat} {es : List Edg} {z : Str} {E : XK} (ca : c.A) (ex : σ[i]? = some (some (.ref x))) (M : RwAt K H0 x c.R c.us c.ed) (h : ElD K σ H0 tv d) (ed : d = pathD s es) (sd : SeqAt.shaped d = true) (e : trB (atS c.R.st c.us) c.ed d = true) (l : es.length ≤ 200) (ez : cT es = z) :
    ElD K σ H0 (tCall (spRds K) [] E (tCons (tVar i) (tCons tv tNil))) (.str z) := fun H Q S q =>
  ⟨_, ex, h H _ S fun v H1 S1 dv => ⟨x, v, c.R, c.us, c.ed, d, rfl, ca.ok, ca.kept, M.same (S.trans S1), dv, sd, .inr ⟨e, s, es, ed, l, fun H2 S2 => by rw [ez]; exact q _ H2 (S1.trans S2) (.str z)⟩⟩⟩
theorem eld_writes {s : Nat} {u : Str} {es : List Edg} {z : Str} {E : XK} (ca : c.A) (ex : σ[i]? = some (some (.ref x))) (M : RwAt K H0 x c.R c.us c.ed) (h : ElD K σ H0 tv d) (ed : d = pathD s es) (sd : SeqAt.shaped d = true) (e : trB (atS c.R.st c.us) c.ed d = true) (hu : (s, u) ∈ atS c.R.st c.us) (l : es.length ≤ 200) (u8 : ∀ e ∈ es, e.u.length ≤ 8) (ez : u ++ uT es ++ endW (atS c.R.en c.us) (lastS s es) = z) :
    ElD K σ H0 (tCall (spWrs K) [] E (tCons (tVar i) (tCons tv tNil))) (.str z) := fun H Q S q =>
  ⟨_, ex, h H _ S fun v H1 S1 dv => ⟨x, v, c.R, c.us, c.ed, d, rfl, ca.ok, ca.kept, M.same (S.trans S1), dv, sd, .inr ⟨e, s, u, es, ed, hu, l, u8, fun H2 S2 => by rw [ez]; exact q _ H2 (S1.trans S2) (.str z)⟩⟩⟩
theorem eld_bl (b : Bool) : ElD K σ H0 (tC (.bl b)) (.bool b) := fun H Q S q => q _ H (.refl _) (.bl b)
theorem eld_ixd {j : Nat} {ds : List PyData} {e : PyData} (h : ElD K σ H0 tv (.tuple ds)) (hj : ds[j]? = some e) : ElD K σ H0 (tOp (rIx K) tv (tC (.int (j : Nat)))) e := fun H Q S q =>
  h H _ S fun v H1 S1 dv => by
    obtain ⟨p, ys, rfl, hp, da⟩ := dp_tup dv
    obtain ⟨y, hy, dy⟩ := dpAll_at da hj
    exact .inr (.inl ⟨p, _, (j : Nat), y, rfl, rfl, hp, atI_nat hy, q y H1 S1 dy⟩)
theorem dpAll_rep {H : Hp} : ∀ (n : Nat) {xs : List V} {ds : List PyData}, DpAll K H xs ds → DpAll K H (List.replicate n xs).flatten (List.replicate n ds).flatten
  | 0, _, _, _ => .nil
  | n + 1, _, _, h => by
    rw [List.replicate_succ, List.flatten_cons, List.replicate_succ, List.flatten_cons]
    exact dpAll_app h (dpAll_rep n h)
theorem eld_rep {n : Nat} {ds : List PyData} (h : ElD K σ H0 tv (.tuple ds)) (ne : ds ≠ []) (l : ds.length ≤ 1000) (n2 : 2 ≤ n) (n1 : n ≤ 1000) : ElD K σ H0 (tOp (rRepT K) tv (tC (.int (n : Nat)))) (.tuple (List.replicate n ds).flatten) := fun H Q S q =>
  h H _ S fun v H1 S1 dv => by
    obtain ⟨p, ys, rfl, hp, da⟩ := dp_tup dv
    refine ⟨p, (n : Nat), ys, rfl, rfl, hp, fun e => ne ?_, by omega, by omega, by rw [dpAll_len da]; exact l, fun r nr => ?_⟩
    · subst e
      cases da
      rfl
    · rw [Int.toNat_natCast]
      exact q _ _ (S1.trans (same_upd nr)) (.tup (.of upd_same) (DpAll.same (same_upd nr) (dpAll_rep n da)))
theorem eld_repS {z : Str} {n : Nat} (l : z.length ≤ 1000) (n1 : n ≤ 1000) (h : ElD K σ H0 tv (.str z)) : ElD K σ H0 (tOp (fun x y H Q => ∃ (z : Str) (n : Nat), x = .str z ∧ y = .int (n : Nat) ∧ z.length ≤ 1000 ∧ n ≤ 1000 ∧ Q (.str (repS z n)) H) tv (tC (.int (n : Nat)))) (.str (repS z n)) := fun H Q S q =>
  h H _ S fun v H1 S1 dv => by
    obtain rfl := dp_str dv
    exact ⟨z, n, rfl, rfl, l, n1, q _ H1 S1 (.str _)⟩
/-- told != [..], alike -/
theorem ne_dat {i : Nat} {L : Addr} {ys : List V} {ts : L2.TA} {ds : List PyData} {H : Hp} {Q : Bool → Hp → Prop} (e : σ[i]? = some (some (.ref L))) (hL : H L = some (.lst ys)) (dL : DpAll K H ys ds) (h : ElD K σ H (tLst ts) (.list ds)) (s : SeqAt.shaped (.list ds) = true)
    (q : ∀ H', Same H H' → Q false H') : tTest (tOp (rNeD K) (tVar i) (tLst ts)) σ H Q :=
  ⟨_, e, h _ _ (.refl _) fun v H1 S1 dv => ⟨_, _, .lst (.of (S1 _ _ hL)) (DpAll.same S1 dL), dv, s, s, _, rfl, by
    rw [SeqAt.eqv_refl _ (SeqAt.canLay_of_shaped s)]
    exact q H1 S1⟩⟩
theorem dp_edges {t : Addr} {es : List Edg} {ks : List (Addr × Edg)} (ht : H0 t = some (.tup (ks.map fun p => V.ref p.1))) (ek : ks.map (·.2) = es) (hk : EdsAt H0 ks) : Dp K H0 (.ref t) (.tuple (es.map fun e => keysD e.row)) := by
  have e1 : (ks.map fun p => keysD p.2.row) = es.map fun e => keysD e.row := by rw [← ek, List.map_map]; rfl
  rw [← e1]
  exact .tup (.of ht) (dpAll_rows hk)
theorem eld_upto {ds : List PyData} {j : Int} (h : ElD K σ H0 tv (.tuple ds)) : ElD K σ H0 (L2.tSl (rSlA K) tv tNoPart (tPart (tC (.int j)))) (.tuple (cutD ds none (some j))) := eld_sl h (fun _ _ q => q) (fun _ _ q => ⟨_, rfl, q⟩)
theorem eld_from {ds : List PyData} {j : Int} (h : ElD K σ H0 tv (.tuple ds)) : ElD K σ H0 (L2.tSl (rSlA K) tv (tPart (tC (.int j))) tNoPart) (.tuple (cutD ds (some j) none)) := eld_sl h (fun _ _ q => ⟨_, rfl, q⟩) (fun _ _ q => q)
end
/-- the rows of the written edges -/
def rw1 : List PyData := g1.R.ed.map fun e => keysD e.row
def p0 : PyData := .tuple [.int 0, .tuple []]
def lp100 : List Edg := List.replicate 100 lp
theorem loop_path : (PyData.tuple [.int 0, .tuple (List.replicate 100 [keysD lp.row]).flatten]) = pathD 0 lp100 := by kernel_rfl
theorem loop_shaped : SeqAt.shaped (.tuple [.int 0, .tuple (List.replicate 100 [keysD lp.row]).flatten]) = true := by decide +kernel
theorem loop_tr : trB (atS g2.R.st g2.us) g2.ed (.tuple [.int 0, .tuple (List.replicate 100 [keysD lp.row]).flatten]) = true := by decide +kernel
theorem loop_reads : cT lp100 = repS sA 100 := by decide +kernel
theorem loop_writes : sE ++ uT lp100 ++ endW (atS g2.R.en g2.us) (lastS 0 lp100) = repS sA 100 ++ sB := by decide +kernel
end K0
set_option maxRecDepth 100000
set_option maxHeartbeats 8000000
namespace K0
open PySem L2 FM He
section
variable {P : Program} {w : World} {K : PySem.W.Frag} {mg : Str → Option Value} {base : Heap}
def spLaw (K : PySem.W.Frag) (Ts : List (Addr × Str)) : List V → Hp → VK → Prop := fun vs H Q => ∃ (a : Addr) (ns : List Int), vs = [.ref a] ∧ SqL K H a (ns.map V.int) ∧ (∀ p ∈ Ts, H p.1 = some (.tbl #[])) ∧ ∀ H', Q (.bl true) H'
theorem ok_law {f c Tb cR tR : Addr} {fd fdR : FuncData} {Ts : List (Addr × Str)} (F : FnP K "law" s_law f fd) (T0 : TO K mg) (hc : fd.code = .ref c) (tab : LamX.TabB base mg c Tb)
    (F__law_right : FnP K "_law_right" s__law_right (ga K "_law_right") fdR) (hcR : fdR.code = .ref cR) (tabR : LamX.TabB base mg cR tR)
    (eT : Ts = [(Tb, qLam "law" (defScope s_law)), (tR, qLam "_law_right" (defScope s__law_right))]) (dT : (Ts.map Prod.fst).Nodup) : FnG P w K mg base 14 f fd ["_law_script"] (spLaw K Ts) := by
  have T : TP K mg := T0.toTP
  have hmT : (Tb, qLam "law" (defScope s_law)) ∈ Ts := by rw [eT]; exact List.mem_cons_self
  have hmR : (tR, qLam "_law_right" (defScope s__law_right)) ∈ Ts := by rw [eT]; exact List.mem_cons_of_mem _ List.mem_cons_self
  have ne : Tb ≠ tR := by
    rw [eT] at dT
    simpa using dT
  have huT : ∀ p ∈ Ts, p.1 = Tb → p.2 = qLam "law" (defScope s_law) := fun p hp e => by
    rw [eT] at hp
    rcases List.mem_cons.mp hp with rfl | hp
    · rfl
    · rw [List.mem_singleton.mp hp] at e
      exact absurd e.symm ne
  have huR : ∀ p ∈ Ts, p.1 = tR → p.2 = qLam "_law_right" (defScope s__law_right) := fun p hp e => by
    rw [eT] at hp
    rcases List.mem_cons.mp hp with rfl | hp
    · exact absurd e ne
    · rw [List.mem_singleton.mp hp]
  have G__law_right : FnG P w K mg base 10 _ _ _ _ := ok_law_right (P := P) (w := w) (base := base) F__law_right T0 hcR tabR hmR huR
  obtain ⟨d__law_start, F__law_start⟩ := T.f__law_start
  have G__law_start := ok_law_start (P := P) (w := w) (base := base) F__law_start T
  have b__law_start : Binds K d__law_start ["_law_script", "_law_at"] [] := F__law_start.bindsN fun _ _ _ _ _ _ us hl => match us, hl with | [_, _], _ => rfl
  obtain ⟨d_is_path, F_is_path⟩ := T.f_is_path
  have G_is_path := ok_is_path (P := P) (w := w) (base := base) F_is_path T
  have b_is_path : Binds K d_is_path ["rewriter", "value"] [] := F_is_path.bindsN fun _ _ _ _ _ _ us hl => match us, hl with | [_, _], _ => rfl
  obtain ⟨d_writes, F_writes⟩ := T.f_writes
  have G_writes := ok_writes (P := P) (w := w) (base := base) F_writes T0
  have b_writes : Binds K d_writes ["rewriter", "path"] [] := F_writes.bindsN fun _ _ _ _ _ _ us hl => match us, hl with | [_, _], _ => rfl
  obtain ⟨d_reads, F_reads⟩ := T.f_reads
  have G_reads := ok_reads (P := P) (w := w) (base := base) F_reads T0
  have b_reads : Binds K d_reads ["rewriter", "path"] [] := F_reads.bindsN fun _ _ _ _ _ _ us hl => match us, hl with | [_, _], _ => rfl
  obtain ⟨d__law_met, F__law_met⟩ := T.f__law_met
  have b__law_met : Binds K d__law_met ["_law_call"] [] := F__law_met.bindsN fun _ _ _ _ _ _ us hl => match us, hl with | [_], _ => rfl
  have b__law_right : Binds K fdR ["_law_bag"] [] := F__law_right.bindsN fun _ _ _ _ _ _ us hl => match us, hl with | [_], _ => rfl
  obtain ⟨f_init, d_init, MkR, F_init⟩ := T.i_init
  have G_init := ok_init (P := P) (w := w) (base := base) F_init T
  have b_init : Binds K d_init ["self", "letters", "starts", "edges", "ends"] [] := F_init.bindsN fun _ _ _ _ _ _ us hl => match us, hl with | [_, _, _, _, _], _ => rfl
  have gTk := T.g__law_met
  have kTk := F__law_met.kp
  have bTk := b__law_met
  obtain ⟨oc, od, dV, kV0, doc, pm, an, cdT, ct, osl, efd, lkT, hcT, _, _⟩ := id F__law_met.ex
  subst efd
  refine FnG.of F sc_law (fun vs H Q h => ?_) (fun cdv A outer s H vs Q hcd hg hr h => ?_)
  · obtain ⟨a, ns, rfl, _⟩ := h
    rfl
  · obtain ⟨a, ns, rfl, ha, hT, k⟩ := h
    have hcode : cdv = .ref c := hcd.symm.trans hc
    subst hcode
    have nd := sc_law.nd
    have hu64 := hr.units
    have hu0 : (A.deeper (PyProof.Rows.envOfC "law" (defScope s_law) s.heap.objs.size f (.ref c))).units < cLine := Nat.lt_of_le_of_lt (Nat.le_add_right _ 64) hu64
    have hu1 := Nat.lt_of_le_of_lt (Nat.add_le_add_left (by decide : 1 ≤ 64) _) hu64
    have hcode : (Value.ref c) = .ref c := rfl
    refine ⟨_, PSs.nox (pss_cons (ps_for PassesOwn.never rfl (pi_range1 (by rfl) T.b_range (pa_cons (pe_callB (call_max2 rfl) (by rfl) T.b_max (by decide +kernel) (pa_cons pe_int (pa_cons (pe_callB (call_min2 rfl) (by rfl) T.b_min (by decide +kernel) (pa_cons pe_int (pa_cons (pe_callB call_len (by rfl) T.b_len (by decide +kernel) (pa_cons (pv 0) pa_nil)) pa_nil))) pa_nil))) pa_nil)) (pg_name (i := 1) nd rfl (.inl rfl)) (pss_cons (ps_set (i := 2) nd rfl (.inl rfl) (pe_call G__law_start (hr.mono (by decide)) rfl T.g__law_start F__law_start.kp b__law_start .nil pass0 (pa_cons (pv 0) (pa_cons (pv 1) pa_nil))))
      (pss_one (ps_for PassesOwn.never rfl (pi_range1 (by rfl) T.b_range (pa_cons pe_int pa_nil)) (pg_name (i := 3) nd rfl (.inl rfl)) (pss_one (ps_if (pt_not (pt_val (pe_callG G__law_right hg (hr.mono (by decide)) (by rfl) T.g__law_right F__law_right.kp b__law_right (pa_cons (pv 2) pa_nil)))) (pss_one (ps_ret pe_bl)) pss_nil))))))
      (pss_cons (ps_set (i := 4) nd rfl (.inl rfl) (pe_tup (pa_cons (pe_tup (pa_cons pe_int (pa_cons pe_str (pa_cons pe_str (pa_cons pe_int pa_nil))))) (pa_cons (pe_tup (pa_cons pe_int (pa_cons pe_str (pa_cons pe_str (pa_cons pe_int pa_nil))))) (pa_cons (pe_tup (pa_cons pe_int (pa_cons pe_str (pa_cons pe_str (pa_cons pe_int pa_nil))))) pa_nil)))))
      (pss_cons (ps_set (i := 5) nd rfl (.inl rfl) (pe_make MkR G_init (hr.mono (by decide)) (by rfl) T.g_Rewriter b_init .nil pass0 (pa_cons pe_str (pa_cons (pe_disp (pps_cons pe_int pe_str pps_nil) rfl rfl (fun z => nomatch z) (by decide)) (pa_cons (pv 4) (pa_cons (pe_disp (pps_cons pe_int pe_str pps_nil) rfl rfl (fun z => nomatch z) (by decide)) pa_nil))))))
      (pss_cons (ps_set (i := 6) nd rfl (.inl rfl) (pe_lst (pa_cons (pe_call G_is_path (hr.mono (by decide)) rfl T.g_is_path F_is_path.kp b_is_path .nil pass0 (pa_cons (pv 5) (pa_cons (pe_tup (pa_cons pe_int (pa_cons (pe_slice (sl_tupA : SlR _ (rSlA K)) (pv 4) po_none (po_some pe_int)) pa_nil))) pa_nil))) (pa_cons (pe_call G_is_path (hr.mono (by decide)) rfl T.g_is_path F_is_path.kp b_is_path .nil pass0 (pa_cons (pv 5) (pa_cons (pe_tup (pa_cons pe_int (pa_cons (pe_slice (sl_tupA : SlR _ (rSlA K)) (pv 4) (po_some pe_int) po_none) pa_nil))) pa_nil))) (pa_cons (pe_call G_is_path (hr.mono (by decide)) rfl T.g_is_path F_is_path.kp b_is_path .nil pass0 (pa_cons (pv 5) (pa_cons (pe_tup (pa_cons pe_int (pa_cons (pv 4) pa_nil))) pa_nil))) pa_nil)))))
      (pss_cons (ps_set (i := 6) nd rfl (.inl rfl) (pe_op op_cat (pv 6) (pe_lst (pa_cons (pe_call G_is_path (hr.mono (by decide)) rfl T.g_is_path F_is_path.kp b_is_path .nil pass0 (pa_cons (pv 5) (pa_cons (pe_tup (pa_cons pe_bl (pa_cons (pe_tup pa_nil) pa_nil))) pa_nil))) (pa_cons (pe_call G_is_path (hr.mono (by decide)) rfl T.g_is_path F_is_path.kp b_is_path .nil pass0 (pa_cons (pv 5) (pa_cons (pe_tup (pa_cons pe_int (pa_cons (pe_tup (pa_cons (pe_tup (pa_cons pe_int (pa_cons pe_str (pa_cons pe_str (pa_cons pe_bl pa_nil))))) pa_nil)) pa_nil))) pa_nil))) (pa_cons (pe_call G_is_path (hr.mono (by decide)) rfl T.g_is_path F_is_path.kp b_is_path .nil pass0 (pa_cons (pv 5) (pa_cons (pe_tup (pa_cons pe_int (pa_cons (pe_tup pa_nil) pa_nil))) pa_nil))) pa_nil))))))
      (pss_cons (ps_if (pt_cmpR (op_neD hu64 : OpR _ _ (rNeD K)) (pv 6) (pe_lst (pa_cons pe_bl (pa_cons pe_bl (pa_cons pe_bl (pa_cons pe_bl (pa_cons pe_bl (pa_cons pe_bl pa_nil))))))) (nomark _)) (pss_one (ps_ret pe_bl)) pss_nil)
      (pss_cons (ps_set (i := 6) nd rfl (.inl rfl) (pe_lst (pa_cons (pe_call G_writes (hr.mono (by decide)) rfl T.g_writes F_writes.kp b_writes .nil (passes_call LamX.takes0 (fun _ _ _ _ h => h)) (pa_cons (pv 5) (pa_cons (pe_tup (pa_cons pe_int (pa_cons (pe_tup pa_nil) pa_nil))) pa_nil))) (pa_cons (pe_call G_writes (hr.mono (by decide)) rfl T.g_writes F_writes.kp b_writes .nil (passes_call LamX.takes0 (fun _ _ _ _ h => h)) (pa_cons (pv 5) (pa_cons (pe_tup (pa_cons pe_int (pa_cons (pe_slice (sl_tupA : SlR _ (rSlA K)) (pv 4) po_none (po_some pe_int)) pa_nil))) pa_nil))) (pa_cons (pe_call G_reads (hr.mono (by decide)) rfl T.g_reads F_reads.kp b_reads .nil (passes_call LamX.takes0 (fun _ _ _ _ h => h)) (pa_cons (pv 5) (pa_cons (pe_tup (pa_cons pe_int (pa_cons (pe_tup (pa_cons (pe_ix ix_seq (pv 4) pe_int (fun _ _ => rfl)) (pa_cons (pe_ix ix_seq (pv 4) pe_int (fun _ _ => rfl)) (pa_cons (pe_ix ix_seq (pv 4) pe_int (fun _ _ => rfl)) pa_nil)))) pa_nil))) pa_nil))) pa_nil)))))
      (pss_cons (ps_if (PW.pt (pw_or (pt_cmpR (op_neD hu64 : OpR _ _ (rNeD K)) (pv 6) (pe_lst (pa_cons pe_str (pa_cons pe_str (pa_cons pe_str pa_nil)))) (nomark _)) (pw_or1 (pt_cmpR op_ne (pe_call G_writes (hr.mono (by decide)) rfl T.g_writes F_writes.kp b_writes .nil (passes_call LamX.takes0 (fun _ _ _ _ h => h)) (pa_cons (pv 5) (pa_cons (pe_tup (pa_cons pe_int (pa_cons (pe_slice (sl_tupA : SlR _ (rSlA K)) (pv 4) po_none (po_some pe_int)) pa_nil))) pa_nil))) pe_str (nomark _))))) (pss_one (ps_ret pe_bl)) pss_nil)
      (pss_cons (ps_set (i := 7) nd rfl (.inl rfl) (pe_tup (pa_cons pe_int (pa_cons pe_str (pa_cons pe_str (pa_cons pe_int pa_nil))))))
      (pss_cons (ps_set (i := 5) nd rfl (.inl rfl) (pe_make MkR G_init (hr.mono (by decide)) (by rfl) T.g_Rewriter b_init .nil pass0 (pa_cons pe_str (pa_cons (pe_disp (pps_cons pe_int pe_str pps_nil) rfl rfl (fun z => nomatch z) (by decide)) (pa_cons (pe_tup (pa_cons (pv 7) pa_nil)) (pa_cons (pe_disp (pps_cons pe_int pe_str pps_nil) rfl rfl (fun z => nomatch z) (by decide)) pa_nil))))))
      (pss_cons (ps_set (i := 6) nd rfl (.inl rfl) (pe_lst (pa_cons (pe_call G_is_path (hr.mono (by decide)) rfl T.g_is_path F_is_path.kp b_is_path .nil pass0 (pa_cons (pv 5) (pa_cons (pe_tup (pa_cons pe_int (pa_cons (pe_op (op_repT : OpR _ _ (rRepT K)) (pe_tup (pa_cons (pv 7) pa_nil)) pe_int) pa_nil))) pa_nil))) (pa_cons (pe_call G_reads (hr.mono (by decide)) rfl T.g_reads F_reads.kp b_reads .nil (passes_call LamX.takes0 (fun _ _ _ _ h => h)) (pa_cons (pv 5) (pa_cons (pe_tup (pa_cons pe_int (pa_cons (pe_op (op_repT : OpR _ _ (rRepT K)) (pe_tup (pa_cons (pv 7) pa_nil)) pe_int) pa_nil))) pa_nil))) (pa_cons (pe_call G_writes (hr.mono (by decide)) rfl T.g_writes F_writes.kp b_writes .nil (passes_call LamX.takes0 (fun _ _ _ _ h => h)) (pa_cons (pv 5) (pa_cons (pe_tup (pa_cons pe_int (pa_cons (pe_op (op_repT : OpR _ _ (rRepT K)) (pe_tup (pa_cons (pv 7) pa_nil)) pe_int) pa_nil))) pa_nil))) pa_nil)))))
      (pss_cons (ps_if (pt_cmpR (op_neD hu64 : OpR _ _ (rNeD K)) (pv 6) (pe_lst (pa_cons pe_bl (pa_cons (pe_op op_repS pe_str pe_int) (pa_cons (pe_op op_add_str (pe_op op_repS pe_str pe_int) pe_str) pa_nil)))) (nomark _)) (pss_one (ps_ret pe_bl)) pss_nil)
      (pss_cons (ps_set (i := 8) nd rfl (.inr rfl) (pe_make MkR G_init (hr.mono (by decide)) (by rfl) T.g_Rewriter b_init .nil pass0 (pa_cons pe_str (pa_cons (pe_disp (pps_cons pe_int pe_str pps_nil) rfl rfl (fun z => nomatch z) (by decide)) (pa_cons (pe_tup pa_nil) (pa_cons pe_dnewK pa_nil))))))
      (pss_one (ps_ret (pe_and (pe_cmpR (op_isBl : OpR _ _ rIsB) (pe_call G_is_path (hr.mono (by decide)) rfl T.g_is_path F_is_path.kp b_is_path .nil pass0 (pa_cons (pv 8) (pa_cons (pe_tup (pa_cons pe_int (pa_cons (pe_tup pa_nil) pa_nil))) pa_nil))) pe_bl (nomark _)) (pe_one (pe_cmpR op_eq (LamX.pe_lamcall (k := 6) rfl gTk kTk lkT hcT bTk sc__law_met rfl (.inl rfl) (met_gives T0.g_IO) tab hcode hmT huT (hr.mono (by decide)) (LamX.lamS_by (sc := defScope s_law) (by decide +kernel)) (by rfl) (fun _ _ _ _ _ => rfl) (fun _ _ _ _ E _ _ hrl => (pe_call G_reads (hrl.mono (by decide)) rfl T.g_reads F_reads.kp b_reads .nil (passes_call (takes_of rfl rfl rfl rfl) (fun _ _ _ _ h => h)) (pa_cons (pv 8) (pa_cons (pe_tup (pa_cons pe_int (pa_cons (pe_tup pa_nil) pa_nil))) pa_nil))))) pe_str (nomark _))))))))))))))))))), ?_⟩
    have big : (100000 : Nat) ≤ sizeLine := by decide
    have tabs0 : LamX.Tabs Ts H := fun p hp => LamX.TabS.nil (hT p hp)
    have hnn : (ns.map V.int).length = ns.length := by simp
    refine ⟨_, rfl, _, _, rfl, .inl ⟨_, ha, rfl⟩, _, _, rfl, _, _, rfl, _, rfl, ?_, ?_, ?_⟩
    · split <;> split <;> omega
    · rw [hnn]
      have : (ns.length : Int) < 2 ^ 62 ∨ ¬ (ns.length : Int) < 2 ^ 62 := Decidable.em _
      split <;> split <;> omega
    refine for_it walk_range (fun i σ H' => ∃ u1 u2 u3 : Option V, σ = [some (.ref a), u1, u2, u3, none, none, none, none, none] ∧ SqL K H' a (ns.map V.int) ∧ LamX.Tabs Ts H') ⟨_, _, _, rfl, ha, tabs0⟩ (fun _ _ _ _ _ => trivial) ?_ ?_
    · rintro i y σ H1 H1' hi ⟨u1, u2, u3, rfl, sq1, tb1⟩ ⟨rfl, hy⟩
      obtain rfl : y = V.int (i : Nat) := hy.trans (congrArg V.int (Int.zero_add _))
      refine ⟨_, rfl, _, rfl, a, ns, i, rfl, sq1, fun b g s c nb => ?_⟩
      have bag2 : BagAt b (upd H1' b (bagO g s c)) := ⟨g, s, c, upd_same⟩
      have tb2 : LamX.Tabs Ts (upd H1' b (bagO g s c)) := tb1.ext (same_upd nb)
      have far : ∀ Hf, KeepN b (upd H1' b (bagO g s c)) Hf → SqL K Hf a (ns.map V.int) := fun Hf k => sql_far sq1 nb k
      generalize upd H1' b (bagO g s c) = H2 at bag2 far tb2 ⊢
      refine ⟨3, rfl, by decide, by decide, ?_⟩
      refine for_it walk_range (fun j σ H' => ∃ u3 : Option V, σ = [some (.ref a), some (.int (i : Nat)), some (.ref b), u3, none, none, none, none, none] ∧ KeepN b H2 H' ∧ BagAt b H' ∧ LamX.Tabs Ts H') ⟨_, rfl, .refl, bag2, tb2⟩ (fun _ _ _ _ _ => trivial) ?_ ?_
      · rintro j y σ H3 H3' hj ⟨u3, rfl, kp, bag3, tb3⟩ ⟨rfl, rfl⟩
        exact ⟨_, rfl, b, rfl, bag3, tb3, fun H4 k4 bag4 tb4 => ⟨true, rfl, iteF ⟨_, rfl, kp.trans k4, bag4, tb4⟩⟩⟩
      · rintro σ H3 ⟨u3, rfl, kp, bag3, tb3⟩
        exact ⟨_, _, _, rfl, far _ kp, tb3⟩
    · rintro σ H1 ⟨u1, u2, u3, rfl, sq1, tb1⟩
      have ea : Str.ofString "a" = sA := by decide +kernel
      have eb : Str.ofString "b" = sB := by decide +kernel
      have eab : Str.ofString "ab" = ⟨#[97, 98]⟩ := by decide +kernel
      have ee : Str.ofString "" = sE := by decide +kernel
      have ex : Str.ofString "x" = sX := by decide +kernel
      have ey : Str.ofString "y" = sY := by decide +kernel
      rw [ea, eb, eab, ee, ex, ey]
      refine seq_edgesT (es := g1.R.ed) (by decide) fun t ks H2 S2 ht ek hk => ?_
      have tb2 := tb1.ext S2
      have dE2 : Dp K H2 (.ref t) (.tuple rw1) := dp_edges ht ek hk
      refine seq_make (c := g1) (fun Q q => mk_run rfl g1A (rdS_disp (st := g1.R.st) rfl (by decide)) (rdE_varT (i := 4) rfl (.of ht) ek hk) (rdS_disp (st := g1.R.en) rfl (by decide)) q) fun x H3 S3 M => ?_
      have tb3 := tb2.ext S3
      have dE3 := Dp.same S3 dE2
      clear dE2 S3 tb2 hk ht S2 tb1 sq1
      refine seq_dat (K := K) (i := 6) (ds := [.bool true, .bool false, .bool false]) (els_cons (eld_is_path g1A rfl M (eld_tup (els_cons (eld_int 0) (els_cons (eld_upto (eld_var rfl dE3)) els_nil))) (by decide +kernel) (by decide +kernel)) (els_cons (eld_is_path g1A rfl M (eld_tup (els_cons (eld_int 1) (els_cons (eld_from (eld_var rfl dE3)) els_nil))) (by decide +kernel) (by decide +kernel)) (els_cons (eld_is_path g1A rfl M (eld_tup (els_cons (eld_int 0) (els_cons (eld_var rfl dE3) els_nil))) (by decide +kernel) (by decide +kernel)) els_nil))) (by decide) fun L1 H4 ys1 S4 hL1 dL1 => ?_
      have M := M.same S4
      have tb4 := tb3.ext S4
      have dE4 := Dp.same S4 dE3
      clear S4 tb3 dE3
      refine dat_cat (K := K) (i := 6) (ds := [.bool false, .bool false, .bool true]) rfl hL1 dL1 (els_cons (eld_is_path g1A rfl M (eld_tup (els_cons (eld_bl false) (els_cons (eld_tup els_nil) els_nil))) (by decide +kernel) (by decide +kernel)) (els_cons (eld_is_path g1A rfl M (eld_tup (els_cons (eld_int 0) (els_cons (eld_tup (els_cons (eld_tup (els_cons (eld_int 0) (els_cons (eld_str sA) (els_cons (eld_str sA) (els_cons (eld_bl true) els_nil))))) els_nil)) els_nil))) (by decide +kernel) (by decide +kernel)) (els_cons (eld_is_path g1A rfl M (eld_tup (els_cons (eld_int 0) (els_cons (eld_tup els_nil) els_nil))) (by decide +kernel) (by decide +kernel)) els_nil))) (by decide) fun Lb H5 ys2 S5 hL2 dL2 => ?_
      have M := M.same S5
      have tb5 := tb4.ext S5
      have dE5 := Dp.same S5 dE4
      clear S5 tb4 dE4 hL1 dL1
      refine ne_dat (K := K) (i := 6) rfl hL2 dL2 (eld_lst (els_cons (eld_bl true) (els_cons (eld_bl false) (els_cons (eld_bl false) (els_cons (eld_bl false) (els_cons (eld_bl false) (els_cons (eld_bl true) els_nil))))))) (by decide +kernel) fun H6 S6 => iteF ?_
      have M := M.same S6
      have tb6 := tb5.ext S6
      have dE6 := Dp.same S6 dE5
      clear S6 tb5 dE5 hL2 dL2
      refine seq_dat (K := K) (i := 6) (ds := [.str sX, .str ⟨#[120, 97, 121]⟩, .str ⟨#[97, 98, 98]⟩]) (els_cons (eld_writes (s := 0) (u := sX) (es := []) g1A rfl M (eld_tup (els_cons (eld_int 0) (els_cons (eld_tup els_nil) els_nil))) rfl (by decide +kernel) (by decide +kernel) (by decide +kernel) (by decide) (by decide) (by decide +kernel)) (els_cons (eld_writes (s := 0) (u := sX) (es := [e1_]) g1A rfl M (eld_tup (els_cons (eld_int 0) (els_cons (eld_upto (eld_var rfl dE6)) els_nil))) rfl (by decide +kernel) (by decide +kernel) (by decide +kernel) (by decide) (by decide +kernel) (by decide +kernel)) (els_cons (eld_reads (s := 0) (es := [e1_, e3_, e3_]) g1A rfl M (eld_tup (els_cons (eld_int 0) (els_cons (eld_tup (els_cons (eld_ixd (j := 0) (eld_var rfl dE6) rfl) (els_cons (eld_ixd (j := 2) (eld_var rfl dE6) rfl) (els_cons (eld_ixd (j := 2) (eld_var rfl dE6) rfl) els_nil)))) els_nil))) rfl (by decide +kernel) (by decide +kernel) (by decide) (by decide +kernel)) els_nil))) (by decide) fun L3 H7 ys3 S7 hL3 dL3 => ?_
      have M := M.same S7
      have tb7 := tb6.ext S7
      have dE7 := Dp.same S7 dE6
      clear S7 tb6 dE6
      have exay : Str.ofString "xay" = ⟨#[120, 97, 121]⟩ := by decide +kernel
      have eabb : Str.ofString "abb" = ⟨#[97, 98, 98]⟩ := by decide +kernel
      have exa : Str.ofString "xa" = ⟨#[120, 97]⟩ := by decide +kernel
      rw [exay, eabb, exa]
      refine ne_dat (K := K) (i := 6) rfl hL3 dL3 (eld_lst (els_cons (eld_str _) (els_cons (eld_str _) (els_cons (eld_str _) els_nil)))) (by decide +kernel) fun H8 S8 => iteF ?_
      have M := M.same S8
      have tb8 := tb7.ext S8
      have dE8 := Dp.same S8 dE7
      clear S8 tb7 dE7 hL3 dL3
      refine (eld_writes (K := K) (s := 0) (u := sX) (es := [e1_, e2_]) (z := ⟨#[120, 97]⟩) g1A rfl M (eld_tup (els_cons (eld_int 0) (els_cons (eld_upto (eld_var rfl dE8)) els_nil))) rfl (by decide +kernel) (by decide +kernel) (by decide +kernel) (by decide) (by decide +kernel) (by decide +kernel)) _ _ (.refl _) fun v H9 S9 dv => ?_
      obtain rfl := dp_str dv
      refine ⟨rfl, _, rfl, iteB (d := false) (by simp) (fun h => absurd h Bool.false_ne_true) fun _ => ?_⟩
      have tb9 := tb8.ext S9
      clear dv S9 tb8 dE8 M
      refine seq_edge (e := lp) fun al HA Sa hal => ?_
      have tba := tb9.ext Sa
      clear Sa tb9
      refine seq_make (c := g2) (fun Q q => mk_run rfl g2A (rdS_disp (st := g2.R.st) rfl (by decide)) (rdE_oneT (σ := [some (.ref a), u1, u2, u3, some (.ref t), some (.ref x), some (.ref L3), some (.ref al), none]) (i := 7) rfl hal) (rdS_disp (st := g2.R.en) rfl (by decide)) q) fun x2 HB SB M => ?_
      have tbB := tba.ext SB
      have dL : Dp K HB (.ref al) (keysD lp.row) := .tup (.of (SB _ _ hal)) (.cons (.int _) (.cons (.str _) (.cons (.str _) (.cons (.int _) .nil))))
      clear SB tba hal
      have vp : ∀ {σ : L2.St}, σ[7]? = some (some (.ref al)) → ElD K σ HB (tTup (tCons (tC (.int 0)) (tCons (tOp (rRepT K) (tTup (tCons (tVar 7) tNil)) (tC (.int (100 : Nat)))) tNil))) (.tuple [.int 0, .tuple (List.replicate 100 [keysD lp.row]).flatten]) := fun {σ} e7 => eld_tup (els_cons (eld_int 0) (els_cons (eld_rep (eld_tup (els_cons (eld_var e7 dL) els_nil)) (by simp) (by decide) (by decide) (by decide)) els_nil))
      refine seq_dat (K := K) (i := 6) (ds := [.bool true, .str (repS sA 100), .str (repS sA 100 ++ sB)]) (els_cons (eld_is_path g2A rfl M (vp rfl) loop_shaped loop_tr) (els_cons (eld_reads g2A rfl M (vp rfl) loop_path loop_shaped loop_tr (by decide) loop_reads) (els_cons (eld_writes (u := sE) g2A rfl M (vp rfl) loop_path loop_shaped loop_tr (by decide +kernel) (by decide) (by decide +kernel) loop_writes) els_nil))) (by decide) fun L4 HC ys4 SC hL4 dL4 => ?_
      have tbC := tbB.ext SC
      clear vp dL SC tbB M
      refine ne_dat (K := K) (i := 6) rfl hL4 dL4 (eld_lst (els_cons (eld_bl true) (els_cons (eld_repS (n := 100) (by decide) (by decide) (eld_str _)) (els_cons (eld_addstr (by decide +kernel) (eld_repS (n := 100) (by decide) (by decide) (eld_str _))) els_nil)))) (by decide +kernel) fun HD SD => iteF ?_
      have tbD := tbC.ext SD
      clear SD tbC hL4 dL4
      refine seq_make (c := g3) (fun Q q => mk_run rfl g3A (rdS_disp (st := g3.R.st) rfl (by decide)) (rdE_tup (es := []) (by decide)) rdS_new q) fun x3 HE SE M => ?_
      have tbE := tbD.ext SE
      clear SE tbD
      refine (eld_is_path (K := K) (b := false) g3A rfl M (eld_tup (els_cons (eld_int 0) (els_cons (eld_tup els_nil) els_nil))) (by decide +kernel) (by decide +kernel)) _ _ (.refl _) fun v HF SF dv => ?_
      cases dv
      have tbF := tbE.ext SF
      have M := M.same SF
      refine ⟨false, false, rfl, rfl, _, rfl, iteT (told_lam (s := "no path") tbF (.refl _) (fun H1 Q1 e1 k1 => ?_) fun HG eG tG => ⟨rfl, ?_⟩)⟩
      · exact ⟨_, rfl, (eld_tup (K := K) (els_cons (eld_int 0) (els_cons (eld_tup els_nil) els_nil))) _ _ (.refl _) fun v2 H2 S2 dv2 => ⟨x3, v2, g3.R, g3.us, g3.ed, _, rfl, g3A.ok, g3A.kept, (M.ext e1).same S2, dv2, by decide +kernel, .inl ⟨by decide +kernel, met_err T0 fun H3 S3 => k1 _ (S2.trans S3)⟩⟩⟩
      · rw [decide_eq_true rfl]
        exact k HG
end
end K0
set_option maxRecDepth 100000
set_option maxHeartbeats 4000000
namespace FM
open PySem PySem.Spec PyProof.Rows L2
end FM
set_option maxRecDepth 100000
set_option maxHeartbeats 4000000
namespace K0H
open PySem PySem.Spec PyProof.Rows L2 FM He K0
theorem facts {w : World} {K : PySem.W.Frag} {h : Heap} {mg : Str → Option Value} (X : K.In h) (G : h.Ns mainGlobals mg) (c : SaysX fa fn [] tf ex w h K) (cp : (pr.map fun d => fnWA K (prA K d)) = pr.map DefD.val) : TO K mg := by
  have d := c.t.d
  have m := c.more
  unfold ex at m
  obtain ⟨x_y_a, m⟩ := ba m
  obtain ⟨x_y_b, m⟩ := ba m
  obtain ⟨x_y_c, m⟩ := ba m
  obtain ⟨x_y_m, m⟩ := ba m
  obtain ⟨x_k_self, m⟩ := ba m
  obtain ⟨x_ex_IO, m⟩ := ba m
  obtain ⟨x_kp_IO, m⟩ := ba m
  obtain ⟨x_ty_IO, m⟩ := ba m
  obtain ⟨x_sub_IO, m⟩ := ba m
  obtain ⟨x_exm_IO, m⟩ := ba m
  obtain ⟨x_dt, m⟩ := ba m
  have x_prs := m
  have gl : ∀ {x : Str} (i : Nat), fa[i]? = some (.glo x) → mg x = some (.ref (ga K x)) := fun i e => glo_ok X G (d.fact i e)
  have fr : ∀ {x : Str} (i : Nat), fa[i]? = some (.free x) → mg x = none := fun i e => free_ok X G (d.fact i e)
  obtain ⟨p_letters, q_letters, v_letters, P_letters, Q_letters⟩ := prAt cp x_prs 0 (d := dp_letters) rfl
  obtain ⟨p_states, q_states, v_states, P_states, Q_states⟩ := prAt cp x_prs 1 (d := dp_states) rfl
  obtain ⟨p_starts, q_starts, v_starts, P_starts, Q_starts⟩ := prAt cp x_prs 2 (d := dp_starts) rfl
  obtain ⟨p_edges, q_edges, v_edges, P_edges, Q_edges⟩ := prAt cp x_prs 3 (d := dp_edges) rfl
  obtain ⟨p_ends, q_ends, v_ends, P_ends, Q_ends⟩ := prAt cp x_prs 4 (d := dp_ends) rfl
  obtain ⟨e___init__, F___init__⟩ : ∃ fd, FnM K "__init__" "Rewriter.__init__" s_Rewriter___init__ (ma K (ga K "Rewriter") "__init__") fd := d.def_ 64 (d := dm___init__) rfl
  obtain ⟨e___call__, F___call__⟩ : ∃ fd, FnM K "__call__" "Rewriter.__call__" s_Rewriter___call__ (ma K (ga K "Rewriter") "__call__") fd := d.def_ 65 (d := dm___call__) rfl
  have M___call__ := meth_ok (d.fact 99 (f := .meth "Rewriter" "__call__") rfl)
  obtain ⟨e___getitem__, F___getitem__⟩ : ∃ fd, FnM K "__getitem__" "Rewriter.__getitem__" s_Rewriter___getitem__ (ma K (ga K "Rewriter") "__getitem__") fd := d.def_ 66 (d := dm___getitem__) rfl
  have M___getitem__ := meth_ok (d.fact 100 (f := .meth "Rewriter" "__getitem__") rfl)
  obtain ⟨e___len__, F___len__⟩ : ∃ fd, FnM K "__len__" "Rewriter.__len__" s_Rewriter___len__ (ma K (ga K "Rewriter") "__len__") fd := d.def_ 67 (d := dm___len__) rfl
  have M___len__ := meth_ok (d.fact 101 (f := .meth "Rewriter" "__len__") rfl)
  obtain ⟨e___bool__, F___bool__⟩ : ∃ fd, FnM K "__bool__" "Rewriter.__bool__" s_Rewriter___bool__ (ma K (ga K "Rewriter") "__bool__") fd := d.def_ 68 (d := dm___bool__) rfl
  have M___bool__ := meth_ok (d.fact 102 (f := .meth "Rewriter" "__bool__") rfl)
  obtain ⟨e___eq__, F___eq__⟩ : ∃ fd, FnM K "__eq__" "Rewriter.__eq__" s_Rewriter___eq__ (ma K (ga K "Rewriter") "__eq__") fd := d.def_ 69 (d := dm___eq__) rfl
  have M___eq__ := meth_ok (d.fact 103 (f := .meth "Rewriter" "__eq__") rfl)
  exact {
    b_isinstance := fr 0 rfl
    b_int := fr 1 rfl
    b_bool := fr 2 rfl
    b_tuple := fr 3 rfl
    b_len := fr 4 rfl
    b_str := fr 5 rfl
    b_list := fr 6 rfl
    b_sorted := fr 7 rfl
    b_set := fr 8 rfl
    b_enumerate := fr 9 rfl
    b_any := fr 10 rfl
    b_dict := fr 11 rfl
    b_all := fr 12 rfl
    b_max := fr 13 rfl
    b_abs := fr 14 rfl
    b_range := fr 15 rfl
    b_repr := fr 16 rfl
    b_min := fr 17 rfl
    g_Rewriter := gl 18 rfl
    g_is_integer := gl 21 rfl
    g_is_below := gl 22 rfl
    g_is_tuple_of := gl 23 rfl
    g_is_letter_of := gl 24 rfl
    g_is_state_of := gl 25 rfl
    g_is_edge_of := gl 26 rfl
    g_is_word := gl 27 rfl
    g_is_text := gl 28 rfl
    g_is_letters := gl 29 rfl
    g_sorted_words := gl 30 rfl
    g_check_text := gl 31 rfl
    g_check_state := gl 32 rfl
    g_nodes_from := gl 33 rfl
    g_nodes_between := gl 34 rfl
    g_edges_by_start := gl 35 rfl
    g_edges_by_end := gl 36 rfl
    g_sources_of := gl 37 rfl
    g_lefts_along := gl 38 rfl
    g_some_results := gl 39 rfl
    g__written_on := gl 40 rfl
    g_is_trail := gl 41 rfl
    g_last_state := gl 42 rfl
    g_text_of := gl 43 rfl
    g_written_before_end := gl 44 rfl
    g_written_by := gl 45 rfl
    g_check_rewriter := gl 46 rfl
    g__is_short := gl 47 rfl
    g__is_table := gl 48 rfl
    g__is_edge := gl 49 rfl
    g__are_edges := gl 50 rfl
    g_is_path := gl 51 rfl
    g_reads := gl 52 rfl
    g_writes := gl 53 rfl
    g__check_path := gl 54 rfl
    g__law_start := gl 55 rfl
    g__law_throw := gl 56 rfl
    g__law_pick := gl 57 rfl
    g__law_shuffled := gl 58 rfl
    g__law_drawn_word := gl 59 rfl
    g__law_drawn_turns := gl 60 rfl
    g__law_guesser := gl 61 rfl
    g__law_moved := gl 62 rfl
    g__law_joined := gl 63 rfl
    g__law_two_forms := gl 64 rfl
    g__law_split := gl 65 rfl
    g__law_thinned := gl 66 rfl
    g__law_told_one := gl 67 rfl
    g__law_drawn_single := gl 68 rfl
    g__law_drawn_any := gl 69 rfl
    g__law_behind := gl 70 rfl
    g__law_ahead_of := gl 71 rfl
    g__law_useful := gl 72 rfl
    g__law_built := gl 73 rfl
    g__law_is_path := gl 74 rfl
    g__law_whole := gl 75 rfl
    g__law_is_edge := gl 76 rfl
    g__law_read_by := gl 77 rfl
    g__law_wrote := gl 78 rfl
    g__law_room_at := gl 79 rfl
    g__law_drawn_path := gl 80 rfl
    g__law_near := gl 81 rfl
    g__law_met := gl 82 rfl
    g__law_right := gl 83 rfl
    cl := cls_ok (d.fact 92 (f := .cls "Rewriter") rfl)
    n__letters := noat_ok (d.fact 94 (f := .noat "Rewriter" "_letters") rfl)
    n__states := noat_ok (d.fact 95 (f := .noat "Rewriter" "_states") rfl)
    n__starts := noat_ok (d.fact 96 (f := .noat "Rewriter" "_starts") rfl)
    n__edges := noat_ok (d.fact 97 (f := .noat "Rewriter" "_edges") rfl)
    n__ends := noat_ok (d.fact 98 (f := .noat "Rewriter" "_ends") rfl)
    i_init := ⟨_, _, mkr_ok (d.fact 93 (f := .mkr "Rewriter") rfl), F___init__⟩
    p_letters := ⟨p_letters, q_letters, v_letters, P_letters, Q_letters⟩
    p_states := ⟨p_states, q_states, v_states, P_states, Q_states⟩
    p_starts := ⟨p_starts, q_starts, v_starts, P_starts, Q_starts⟩
    p_edges := ⟨p_edges, q_edges, v_edges, P_edges, Q_edges⟩
    p_ends := ⟨p_ends, q_ends, v_ends, P_ends, Q_ends⟩
    o_call := ⟨_, _, ⟨M___call__.at_, M___call__.fn⟩, fnIn_of F___call__, F___call__⟩
    o_getitem := ⟨_, _, ⟨M___getitem__.at_, M___getitem__.fn⟩, fnIn_of F___getitem__, F___getitem__⟩
    o_len := ⟨_, _, ⟨M___len__.at_, M___len__.fn⟩, fnIn_of F___len__, F___len__⟩
    o_bool := ⟨_, _, ⟨M___bool__.at_, M___bool__.fn⟩, fnIn_of F___bool__, F___bool__⟩
    o_eq := ⟨_, _, ⟨M___eq__.at_, M___eq__.fn⟩, fnIn_of F___eq__, F___eq__⟩
    g_IO := gl 19 rfl
    y_a := eqO_ok x_y_a
    y_b := eqO_ok x_y_b
    y_c := of_decide_eq_true x_y_c
    y_m := of_decide_eq_true x_y_m
    k_self := of_decide_eq_true x_k_self
    ex_IO := id x_ex_IO
    kp_IO := id x_kp_IO
    ty_IO := of_decide_eq_true x_ty_IO
    sub_IO := of_decide_eq_true x_sub_IO
    exm_IO := of_decide_eq_true x_exm_IO
    c__ALPHABET := by
      obtain ⟨t, e⟩ := str_ok X G (d.fact 85 (f := .str "_ALPHABET" "abcdefghijklmnopqrstuvwxyz") rfl)
      exact ⟨_, e, ⟨t, rfl⟩⟩
    c__MOST_LETTERS := by
      obtain ⟨t, e⟩ := int_ok X G (d.fact 86 (f := .int "_MOST_LETTERS" 4) rfl)
      exact ⟨_, e, ⟨t, rfl⟩⟩
    c_MAX_STATES := by
      obtain ⟨t, e⟩ := int_ok X G (d.fact 87 (f := .int "MAX_STATES" 12) rfl)
      exact ⟨_, e, ⟨t, rfl⟩⟩
    c_MAX_EDGES := by
      obtain ⟨t, e⟩ := int_ok X G (d.fact 88 (f := .int "MAX_EDGES" 64) rfl)
      exact ⟨_, e, ⟨t, rfl⟩⟩
    c_MAX_WORD := by
      obtain ⟨t, e⟩ := int_ok X G (d.fact 89 (f := .int "MAX_WORD" 8) rfl)
      exact ⟨_, e, ⟨t, rfl⟩⟩
    c_MAX_TEXT := by
      obtain ⟨t, e⟩ := int_ok X G (d.fact 90 (f := .int "MAX_TEXT" 60) rfl)
      exact ⟨_, e, ⟨t, rfl⟩⟩
    c__MAX_RESULTS := by
      obtain ⟨t, e⟩ := int_ok X G (d.fact 91 (f := .int "_MAX_RESULTS" 1000) rfl)
      exact ⟨_, e, ⟨t, rfl⟩⟩
    f_is_integer := d.def_ 0 (d := d_is_integer) rfl
    f_is_below := d.def_ 1 (d := d_is_below) rfl
    f_is_tuple_of := d.def_ 2 (d := d_is_tuple_of) rfl
    f_is_letter_of := d.def_ 3 (d := d_is_letter_of) rfl
    f_is_state_of := d.def_ 4 (d := d_is_state_of) rfl
    f_is_edge_of := d.def_ 5 (d := d_is_edge_of) rfl
    f_is_word := d.def_ 6 (d := d_is_word) rfl
    f_is_text := d.def_ 7 (d := d_is_text) rfl
    f_is_letters := d.def_ 8 (d := d_is_letters) rfl
    f_sorted_words := d.def_ 9 (d := d_sorted_words) rfl
    f_check_text := d.def_ 10 (d := d_check_text) rfl
    f_check_state := d.def_ 11 (d := d_check_state) rfl
    f_nodes_from := d.def_ 12 (d := d_nodes_from) rfl
    f_nodes_between := d.def_ 13 (d := d_nodes_between) rfl
    f_edges_by_start := d.def_ 14 (d := d_edges_by_start) rfl
    f_edges_by_end := d.def_ 15 (d := d_edges_by_end) rfl
    f_sources_of := d.def_ 16 (d := d_sources_of) rfl
    f_lefts_along := d.def_ 17 (d := d_lefts_along) rfl
    f_some_results := d.def_ 18 (d := d_some_results) rfl
    f__written_on := d.def_ 19 (d := d__written_on) rfl
    f_is_trail := d.def_ 20 (d := d_is_trail) rfl
    f_last_state := d.def_ 21 (d := d_last_state) rfl
    f_text_of := d.def_ 22 (d := d_text_of) rfl
    f_written_before_end := d.def_ 23 (d := d_written_before_end) rfl
    f_written_by := d.def_ 24 (d := d_written_by) rfl
    f_check_rewriter := d.def_ 25 (d := d_check_rewriter) rfl
    f__is_short := d.def_ 26 (d := d__is_short) rfl
    f__is_table := d.def_ 27 (d := d__is_table) rfl
    f__is_edge := d.def_ 28 (d := d__is_edge) rfl
    f__are_edges := d.def_ 29 (d := d__are_edges) rfl
    f_is_path := d.def_ 30 (d := d_is_path) rfl
    f_reads := d.def_ 31 (d := d_reads) rfl
    f_writes := d.def_ 32 (d := d_writes) rfl
    f__check_path := d.def_ 33 (d := d__check_path) rfl
    f__law_start := d.def_ 34 (d := d__law_start) rfl
    f__law_throw := d.def_ 35 (d := d__law_throw) rfl
    f__law_pick := d.def_ 36 (d := d__law_pick) rfl
    f__law_shuffled := d.def_ 37 (d := d__law_shuffled) rfl
    f__law_drawn_word := d.def_ 38 (d := d__law_drawn_word) rfl
    f__law_drawn_turns := d.def_ 39 (d := d__law_drawn_turns) rfl
    f__law_guesser := d.def_ 40 (d := d__law_guesser) rfl
    f__law_moved := d.def_ 41 (d := d__law_moved) rfl
    f__law_joined := d.def_ 42 (d := d__law_joined) rfl
    f__law_two_forms := d.def_ 43 (d := d__law_two_forms) rfl
    f__law_split := d.def_ 44 (d := d__law_split) rfl
    f__law_thinned := d.def_ 45 (d := d__law_thinned) rfl
    f__law_told_one := d.def_ 46 (d := d__law_told_one) rfl
    f__law_drawn_single := d.def_ 47 (d := d__law_drawn_single) rfl
    f__law_drawn_any := d.def_ 48 (d := d__law_drawn_any) rfl
    f__law_behind := d.def_ 49 (d := d__law_behind) rfl
    f__law_ahead_of := d.def_ 50 (d := d__law_ahead_of) rfl
    f__law_useful := d.def_ 51 (d := d__law_useful) rfl
    f__law_built := d.def_ 52 (d := d__law_built) rfl
    f__law_is_path := d.def_ 53 (d := d__law_is_path) rfl
    f__law_whole := d.def_ 54 (d := d__law_whole) rfl
    f__law_is_edge := d.def_ 55 (d := d__law_is_edge) rfl
    f__law_read_by := d.def_ 56 (d := d__law_read_by) rfl
    f__law_wrote := d.def_ 57 (d := d__law_wrote) rfl
    f__law_room_at := d.def_ 58 (d := d__law_room_at) rfl
    f__law_drawn_path := d.def_ 59 (d := d__law_drawn_path) rfl
    f__law_near := d.def_ 60 (d := d__law_near) rfl
    f__law_met := d.def_ 61 (d := d__law_met) rfl
    f__law_right := d.def_ 62 (d := d__law_right) rfl
  }
/-- a def with a code table: what is known of it -/
theorem tab_of {w : World} {K : PySem.W.Frag} {h : Heap} {x : Str} {a : Addr} {fd : FuncData} {st : Stmt} (X : K.In h) (c : SaysX fa fn [] tf ex w h K) (F : FnP K x st a fd) (ea : a = ga K x) (mem : (x, (none : Option Str)) ∈ tf) :
    fd.code = .ref (He.cT K (x, none)).1 ∧ h.get? (He.cT K (x, none)).2 = some { cls := .none, data := .fields #[] } ∧ K.lookup (He.cT K (x, none)).2 = none ∧ PySem.W.CodeHd h (He.cT K (x, none)).1 (He.cT K (x, none)).2 := by
  obtain ⟨oc, od, dV, kV, doc, pm, an, cdv, ct, osl, efd, lk, hcd, _, _⟩ := id F.ex
  obtain ⟨cc, ec⟩ := codeIn_ref hcd
  have hco : fd.code = .ref cc := by
    rw [efd]
    exact ec
  subst ea
  have e1 : codeOf K (x, none) = cc := codeOf_eq lk hco
  refine ⟨?_, c.empty _ mem, c.out _ mem, PySem.W.codeHd_of_K X (c.hd _ mem)⟩
  unfold He.cT
  rw [e1]
  exact hco
def pT (K : PySem.W.Frag) (x : Str) : Addr × Addr := He.cT K (x, none)
def cts (K : PySem.W.Frag) : List (Addr × Addr) := [pT K "law", pT K "_law_right"]
def tss (K : PySem.W.Frag) : List (Addr × Str) := [((pT K "law").2, qLam "law" (defScope s_law)), ((pT K "_law_right").2, qLam "_law_right" (defScope s__law_right))]
theorem gives {w : World} {K : PySem.W.Frag} {h : Heap} {mg : Str → Option Value} {f : Addr} (P : Program) (X : K.In h) (G : h.Ns mainGlobals mg) (hf : mg ("law" : Str) = some (.ref f)) (c : SaysX fa fn [] tf ex w h K) (cp : (pr.map fun d => fnWA K (prA K d)) = pr.map DefD.val) :
    ∃ (fd : FuncData), (∀ p ∈ cts K, h.get? p.2 = some { cls := .none, data := .fields #[] }) ∧ (∀ p ∈ cts K, K.lookup p.2 = none) ∧ (∀ p ∈ cts K, PySem.W.CodeHd h p.1 p.2) ∧ (∀ (s : Shared) (u : Value), BindsTo s fd ⟨[u], []⟩ [("_law_script", u)]) ∧
      ∀ base : Heap, K.In base → base.Ns mainGlobals mg → (∀ p ∈ cts K, LamX.TabB base mg p.1 p.2) → (∃ o, base.get? sysModules = some o) → FnG P w K mg base 14 f fd ["_law_script"] (spLaw K (tss K)) := by
  have d := c.t.d
  have T := facts X G c cp
  have m := c.more
  unfold ex at m
  have mD : ck_dt K = true := by
    simp only [Bool.and_eq_true] at m
    obtain ⟨_, _, _, _, _, _, _, _, _, _, mD, _⟩ := m
    exact mD
  obtain ⟨fd, F⟩ : ∃ fd, FnP K "law" s_law (ga K "law") fd := d.def_ 63 (d := d_law) rfl
  obtain ⟨fdR, FR⟩ := T.f__law_right
  have e := hf.symm.trans (glo_ok X G (d.fact 84 (f := .glo "law") rfl))
  cases e
  have m0 : (("law" : Str), (none : Option Str)) ∈ tf := List.mem_cons_self
  have m1 : (("_law_right" : Str), (none : Option Str)) ∈ tf := List.mem_cons_of_mem _ List.mem_cons_self
  have t0 := tab_of X c F rfl m0
  have t1 := tab_of X c FR rfl m1
  have dT : ((tss K).map Prod.fst).Nodup := of_decide_eq_true mD
  have each : ∀ {φ : Addr × Addr → Prop}, φ (pT K "law") → φ (pT K "_law_right") → ∀ p ∈ cts K, φ p := fun {φ} a b p hp => by
    rcases List.mem_cons.mp hp with rfl | hp
    · exact a
    rcases List.mem_cons.mp hp with rfl | hp
    · exact b
    · exact nomatch hp
  refine ⟨fd, each t0.2.1 t1.2.1, each t0.2.2.1 t1.2.2.1, each t0.2.2.2 t1.2.2.2, ?_, ?_⟩
  · exact fun s u => FunD.bindsA (ps := ["_law_script"]) F (fun _ _ _ _ _ _ us hl => match us, hl with | [_], _ => rfl) s [u] rfl
  · intro base _ _ tab _
    have i0 : pT K "law" ∈ cts K := List.mem_cons_self
    have i1 : pT K "_law_right" ∈ cts K := List.mem_cons_of_mem _ List.mem_cons_self
    exact ok_law F T t0.1 (tab _ i0) FR t1.1 (tab _ i1) rfl dT
end K0H
set_option maxRecDepth 100000
set_option maxHeartbeats 4000000
namespace FM
open PySem PySem.Spec PyProof.Rows L2
end FM
set_option maxRecDepth 100000
set_option maxHeartbeats 4000000
namespace FM
open PySem PySem.Spec PyProof.Rows L2
theorem law_callN {P : Program} {w : World} {K : PySem.W.Frag} {mg mb : Str → Option Value} {k : Nat} {fa a : Addr} {CT : List (Addr × Addr)} {fd : FuncData} {x : Str} {sp : List V → Hp → VK → Prop} {s : Shared} {vs : List Value} {ns : List Int}
    (kin : K.In s.heap) (g1 : s.heap.Ns mainGlobals mg) (g2 : s.heap.Ns builtinsNs mb) (g3 : ∀ x : Str, x ≠ "__name__" → mb x = bootBuiltins x) (g4 : s.heap.NoLimit) (g5 : s.gens = #[])
    (tT : ∀ p ∈ CT, s.heap.get? p.2 = some { cls := .none, data := .fields #[] }) (tK : ∀ p ∈ CT, K.lookup p.2 = none) (tC : ∀ p ∈ CT, PySem.W.CodeHd s.heap p.1 p.2) (g6 : ∀ p ∈ CT, s.heap.BuiltinsAt mg p.2) (g7 : ∃ mm, s.heap.Ns sysModules mm)
    (la : s.heap.get? a = some { cls := .type "list", data := .seq vs.toArray }) (li : IntsAre vs ns) (ll : ns.length ≤ sizeLine) (hr : Room k callerA)
    (F : ∀ base : Heap, K.In base → base.Ns mainGlobals mg → (∀ p ∈ CT, LamX.TabB base mg p.1 p.2) → (∃ o, base.get? sysModules = some o) → FnG P w K mg base k fa fd [x] sp) (hbind : ∀ (s : Shared) (u : Value), BindsTo s fd ⟨[u], []⟩ [(x, u)])
    (hsp : ∀ H : Hp, (∀ p ∈ CT, H p.2 = some (.tbl #[])) → SqL K H a (ns.map V.int) → sp [.ref a] H fun v _ => v = .bl true) :
    codeAny (model P w) callerA (.call (.ref fa) ⟨[.ref a], []⟩) (fun r s' => r = .ok (.ret (.bool true)) ∧ OldK s.heap s'.heap ∧ s'.os = s.os ∧ AllBare s'.gens) s := by
  have rel := vals_ints li
  have isT : ∀ b, (∃ p ∈ CT, p.2 = b) → s.heap.get? b = some { cls := .none, data := .fields #[] } := fun b ⟨p, hp, e⟩ => e ▸ tT p hp
  have ne : ¬ ∃ p ∈ CT, p.2 = a := fun z => by rw [isT a z] at la; cases la
  classical
  let H : Hp := fun b => if (∃ p ∈ CT, p.2 = b) then some (.tbl #[]) else if b = a ∧ K.lookup a = none then some (.frz { cls := .type "list", data := .seq vs.toArray } (.lst (ns.map V.int))) else none
  have hT : ∀ p ∈ CT, H p.2 = some (.tbl #[]) := fun p hp => if_pos ⟨p, hp, rfl⟩
  have other : ∀ b, ¬ (∃ p ∈ CT, p.2 = b) → ¬ (b = a ∧ K.lookup a = none) → H b = none := fun b h1 h2 => (if_neg h1).trans (if_neg h2)
  have far : ∀ b o, s.heap.get? b = some o → (∀ vs n, o.data ≠ .seq vs n) → o.data ≠ .fields #[] → H b = none := fun b o e h1 h2 => by
    refine other b (fun z => ?_) fun z => ?_
    · rw [isT b z] at e; cases e; exact h2 rfl
    · rw [z.1, la] at e; cases e; exact h1 _ _ rfl
  have ok : HOk P w H s.heap := fun b u e => by
    by_cases h1 : ∃ p ∈ CT, p.2 = b
    · obtain ⟨p, hp, rfl⟩ := h1
      cases (hT p hp).symm.trans e
      exact tT p hp
    · by_cases h2 : b = a ∧ K.lookup a = none
      · cases ((if_neg h1).trans (if_pos h2)).symm.trans e
        rw [h2.1]
        exact ⟨la, by rw [List.length_map]; exact ll, vs, _, rel, la⟩
      · cases (other b h1 h2).symm.trans e
  have seq : SqL K H a (ns.map V.int) := by
    cases hk : K.lookup a with
    | none => exact .inl (.inr ⟨_, (if_neg ne).trans (if_pos ⟨rfl, hk⟩)⟩)
    | some o =>
      have e := kin a o hk
      rw [la] at e
      cases e
      exact .inr ⟨_, vs.toArray, _, hk, rfl, rfl, rfl, by rw [List.size_toArray, li.length]; exact ll, by simpa using rel⟩
  let B : Heap := hidT s.heap H
  have inB : ∀ b o, s.heap.get? b = some o → H b = none → B.get? b = some o := fun _ _ e n => hidT_get e n
  have dict : ∀ b o (es : Array DictEntry) (ep : Nat), s.heap.get? b = some o → o.data = .dict es ep → B.get? b = some o := fun b o es ep e d => inB b o e (far b o e (fun _ _ z => by rw [d] at z; cases z) fun z => by rw [d] at z; cases z)
  have names : ∀ (b : Addr) (m : Str → Option Value), s.heap.Ns b m → B.Ns b m := fun b m h => by
    obtain ⟨o, es, ep, e, d, r⟩ := h
    exact ⟨o, es, ep, dict b o es ep e d, d, r⟩
  have kinB : K.In B := fun b o e => by
    refine inB b o (kin b o e) (other b (fun z => ?_) fun z => ?_)
    · obtain ⟨p, hp, rfl⟩ := z
      rw [tK p hp] at e; cases e
    · rw [z.1, z.2] at e; cases e
  have mod : L2.Mod K mg B := by
    obtain ⟨mc, l1, l2⟩ := g4
    exact ⟨kinB, names _ _ g1, ⟨mb, names _ _ g2, g3⟩, ⟨mc, names _ _ l1, l2⟩⟩
  have tab : ∀ p ∈ CT, LamX.TabB B mg p.1 p.2 := fun p hp => by
    refine ⟨?_, ?_, fun z => ?_⟩
    · obtain ⟨o, fs, file, tf, flags, tg, inF, text, tt, e, r1, r2, r3, rest⟩ := tC p hp
      refine ⟨o, fs, file, tf, flags, tg, inF, text, tt, inB p.1 o e (far p.1 o e (fun _ _ z => ?_) fun z => ?_), r1, r2, r3, rest⟩
      · rw [r2] at z; cases z
      · rw [r2] at z; cases z; simp at r3
    · obtain ⟨bm, ob, b1, b2, b3, b4, b5, b6, b7, b8⟩ := g6 p hp
      refine ⟨bm, ob, b1, b2, b3, b4, inB bm ob b5 (far bm ob b5 (fun _ _ z => ?_) fun z => ?_), b6, b7, b8⟩
      · rw [b8] at z; cases z
      · rw [b8] at z; cases z
    · obtain ⟨o, es, ep, e, d, _⟩ := g1
      rw [z, tT p hp] at e; cases e; cases d
  have e0 : Env0 P w K mg B callerA [] s H := by
    constructor
    · rfl
    · exact mod
    · exact fun b o e => of_hidT e
    · exact Nat.le_of_eq (hidT_size _ _)
    · trivial
    · intro b hb; exact nomatch (show b ∈ ([] : List Addr) from hb)
    · exact ok
    · exact .of_eq g5
  refine codeAny_mono ((F B kinB (names _ _ g1) tab (by obtain ⟨mm, h⟩ := g7; obtain ⟨o, es, ep, e, _⟩ := names _ _ h; exact ⟨o, e⟩)).run callerA [] s H ⟨[.ref a], []⟩ [.ref a] [.ref a] _ rfl hr e0 (hbind s (.ref a)) (.cons rfl .nil) (hsp H hT seq)) fun r s' h => ?_
  cases r with
  | error e => exact False.elim h
  | ok fl =>
    cases fl with
    | next => exact False.elim h
    | brk => exact False.elim h
    | cont => exact False.elim h
    | ret u =>
      obtain ⟨v, H', os, bare, un, ok', ru, q⟩ := h
      have q' : v = .bl true := q
      subst q'
      cases ru
      have stay : ∀ b o, ¬ (∃ p ∈ CT, p.2 = b) → s.heap.get? b = some o → s'.heap.get? b = some o := fun b o h1 e => by
        by_cases h2 : b = a ∧ K.lookup a = none
        · have z := un.frzs b _ _ ((if_neg h1).trans (if_pos h2))
          rw [h2.1, la] at e
          cases e
          rw [h2.1] at z ⊢
          exact (ok' a _ z).1
        · exact un.keep b o e (other b h1 h2) (fun z => nomatch (show b ∈ ([] : List Addr) from z)) (fun z => nomatch z)
      have tN : ∀ p ∈ CT, ∃ more, s'.heap.get? p.2 = some { cls := .none, data := .fields (#[] ++ more) } := fun p hp => by
        obtain ⟨more, tm⟩ := un.tbls p.2 #[] (hT p hp)
        exact ⟨more, ok' p.2 _ tm⟩
      refine ⟨rfl, ⟨fun b o e => ?_, fun b o e => ?_⟩, os, bare⟩
      · by_cases h1 : ∃ p ∈ CT, p.2 = b
        · obtain ⟨p, hp, rfl⟩ := h1
          cases (tT p hp).symm.trans e
          obtain ⟨more, z⟩ := tN p hp
          exact .inr (.inl ⟨((tC p hp).tab (tT p hp)).isCodeTable, rfl, #[], more, rfl, z⟩)
        · exact .inl (stay b o h1 e)
      · by_cases h1 : ∃ p ∈ CT, p.2 = b
        · obtain ⟨p, hp, rfl⟩ := h1
          obtain ⟨more, z⟩ := tN p hp
          exact ⟨_, z⟩
        · exact ⟨o, stay b o h1 e⟩
theorem walk_N {l : PySem.W.OpenLaw} {n k : Nat} {q : Program} {loose : List Str} {XP : (Str → Option Value) → Heap → Prop} {YP : World → Heap → Prop} {d : DefRec} {x : Str}
    (h1 : l.most = some n) (h2 : n ≤ sizeLine) (h3 : d.params.defaults = []) (h4 : Room k callerA) (h5 : importsNone q = true)
    (F : ∀ (w : World) (mg : Str → Option Value) (fa : Addr) (h : Heap), YP w h → h.Ns mainGlobals mg → mg d.name = some (.ref fa) →
      ∃ (K : PySem.W.Frag) (CT : List (Addr × Addr)) (fd : FuncData) (sp : List V → Hp → VK → Prop), K.In h ∧ (∀ p ∈ CT, h.get? p.2 = some { cls := .none, data := .fields #[] }) ∧ (∀ p ∈ CT, K.lookup p.2 = none) ∧ (∀ p ∈ CT, PySem.W.CodeHd h p.1 p.2) ∧
        (∀ (s : Shared) (u : Value), BindsTo s fd ⟨[u], []⟩ [(x, u)]) ∧
        (∀ (H : Hp) (a : Addr) (ns : List Int), ns.length ≤ n → (∀ p ∈ CT, H p.2 = some (.tbl #[])) → SqL K H a (ns.map V.int) → sp [.ref a] H fun v _ => v = .bl true) ∧
        ∀ base : Heap, K.In base → base.Ns mainGlobals mg → (∀ p ∈ CT, LamX.TabB base mg p.1 p.2) → (∃ o, base.get? sysModules = some o) → FnG l.prog w K mg base k fa fd [x] sp) :
    PySem.W.WalkO q loose XP YP l.row.toRowW d [] (fun f vs => PySem.call f vs) := by
  refine Att.attach_callB h1 h3 fun w s0 s mg mb fa o pm cd doc a vs ns G Y e1 e2 e3 e4 e5 e6 e7 e8 e9 => ?_
  obtain ⟨K, CT, fd, sp, k1, k2, k3, k4, k5, k6, k7⟩ := F w mg fa _ Y G.T.g e4
  have bi : ∀ p ∈ CT, s.heap.BuiltinsAt mg p.2 := fun p hp => by
    obtain ⟨bm, ob, b1, b2, b3, b4, b5, b6⟩ := G.T.bmain
    refine ⟨bm, ob, b1, b2, fun z => ?_, fun z => ?_, b3, b4, b5, b6⟩
    · obtain ⟨o, es, ep, e, d, _⟩ := G.T.g
      rw [← z, b3] at e; cases e; rw [b6] at d; cases d
    · rw [z, k2 p hp] at b3; cases b3; cases b6
  exact law_callN k1 G.T.g G.T.b G.T.builtins G.T.nolimit e9 k2 k3 k4 bi (by obtain ⟨mm, z, _⟩ := (G.T.seer h5).mods; exact ⟨mm, z⟩) e5 e6 (Nat.le_trans e7 h2) h4 k7 k5 fun H t s => k6 H a ns e7 t s
end FM
open PySem PySem.W PySem.Calls PyProof.Rows
set_option maxRecDepth 100000 in
set_option maxHeartbeats 0 in
theorem PySem.Challenge.cw_fewmarks_k07_paths_judged_holds : PySem.Challenge.rw_fewmarks_k07_paths_judged.Holds := by
  w_on; o_law
  refine HandSHeadRun.head_any (r := OpenLaw.row PySem.Challenge.rw_fewmarks_k07_paths_judged) (q := K0H.qv) (H := K0H.hk) (ob := K0H.ob) (M := 9000) (loose := K0H.names) (d := HandSHeadRun.topDef (OpenLaw.row PySem.Challenge.rw_fewmarks_k07_paths_judged).prog 122) (kwd := []) K0H.ob_eq
    (by kernel_rfl) (fun s => by kernel_rfl) K0H.run (by kernel_rfl) (by kernel_rfl) (by kernel_rfl) (by rfl)
    (by first | assumption | decide +kernel) (by decide +kernel) ⟨rfl, rfl, rfl, rfl, rfl, by decide +kernel⟩ ?hw ?hc
  case hw => w_witness2
  case hc =>
    refine FM.walk_N (l := PySem.Challenge.rw_fewmarks_k07_paths_judged) (n := 63) (k := 14) (x := "_law_script") rfl (by decide) (by kernel_rfl) ⟨rfl, by decide, by decide⟩ (by decide +kernel) ?F
    intro w mg fa h Y G hmg0
    obtain ⟨K, KX, c, cp⟩ := Y
    have hmg : mg ("law" : PySem.Str) = some (.ref fa) := by
      have e : (HandSHeadRun.topDef (OpenLaw.row PySem.Challenge.rw_fewmarks_k07_paths_judged).prog 122).name = ("law" : PySem.Str) := by kernel_rfl
      rw [← e]
      exact hmg0
    obtain ⟨fd, h1, h2, h3, h4, h5⟩ := K0H.gives (PySem.Challenge.rw_fewmarks_k07_paths_judged).prog KX G hmg c cp
    refine ⟨K, K0H.cts K, fd, K0.spLaw K (K0H.tss K), KX, h1, h2, h3, h4, fun H a ns hl hT hS => ⟨a, ns, rfl, hS, fun p hp => ?_, fun _ => rfl⟩, h5⟩
    rcases List.mem_cons.mp hp with rfl | hp
    · exact hT _ List.mem_cons_self
    rcases List.mem_cons.mp hp with rfl | hp
    · exact hT _ (List.mem_cons_of_mem _ List.mem_cons_self)
    · exact nomatch hp
