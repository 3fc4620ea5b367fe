import PyProof.Rows.All
import Wide.All
import OpenK.AllK
import Wide.FinOn
import HandS.ForMost
import HandS.Exc
import HandS.ExcOwn
import HandS.ExcInit
import HandS.ExcValue
import HandS.Defaults
import HandS.IsInst
import KE.KExcInit
import HandS.Wide
import HandS.Codes
import HandS.ExcField
import HandS.ExcIs
import KE.KExcIs
import HandS.HeadHook1
import HandS.HeadHook2
import HandS.Zip
import KE.GoesNew
import HandS.StrMore
import HandS.Set
import HandS.SetFor
import HandS.Strs
import PyProof.Rows.SortShellAny
import PyProof.StrWalks
import HandS.SortKw
import KE.SortKeyHeap
import PyProof.ListStr
import PyProof.StrOps
import PyProof.NeKinds
import HandS.Iter
import PyProof.StrOps2
import HandS.WideBits
import HandS.Text
import KE.GoesMore
import KE.GoesEnum
import PyProof.Draws
import HandS.GenList
import KE.KDictZip
import HandS.RepeatKit
import HandS.Conv
import HandS.Style
import HandS.Walk
import HandS.List
import HandS.Dict
import KE.KDictDisplayH
import PyProof.ReprRoads
import PyProof.ReprLen
import HandS.HotCalls
import HandS.HeadWalk
import HandS.EndTab
import HandS.Lambda
import HandS.TupMul
import PyProof.Rows.StrClose
import PyProof.Rows.StrCut
import HandS.TryMany
import HandS.Head0
import HandS.Head1
import HandS.Head2
import HandS.HeadHook4
import HandS.HeadEnd
import PySem.Challenge.RW_fewmarks_k60_patterns
set_option Elab.async false
set_option linter.all false
-- FmExc
set_option maxRecDepth 100000
set_option maxHeartbeats 4000000
/-! KeyError, which the library leaves out, and own exceptions over any built-in base, as values. -/
namespace PySem
namespace F
theorem fm_pass_KeyError (self : Value) : refuseLoop self "__setattr__"
    [.type "KeyError", .type "LookupError", .type "Exception", .type "BaseException", .type "object"] = pure () := by kernel_rfl
end F
namespace FX
open Builtin Builtin.ObjectAttr PySem.Calls PyProof.Rows HandSPX
section
variable {M : Model} {prog : Program} {w : World} {A : Around} {E : Value → Shared → Prop} {R : Result → Shared → Prop}
  {h : Heap} {gn : Array GenState} {dr : Drawn} {tk : Nat} {os : OsState}
variable {nm qn : Str} {C N : Addr} {bs bm bB : List Value} {hd : Bool} {sn : List Str} {sb : List Value} {ab : Bool}
  {col : Option Bool} {dd : Option Addr} {k0 k1 k2 k3 k5 : Option Value} {B nI iI : String}
/-- what is asked of the class's chain: the maker's class is in it, AttributeError and NameError are not -/
structure Chain (B : String) (bm : List Value) : Prop where
  hasB : bm.contains (.type B) = true
  noA : bm.contains (.type "AttributeError") = false
  noN : bm.contains (.type "NameError") = false
theorem Chain.cB (c : Chain B bm) : (Value.ref C :: bm).contains (.type B) = true := by
  rw [List.contains_cons, c.hasB, Bool.or_true]
theorem Chain.cA (c : Chain B bm) : (Value.ref C :: bm).contains (.type "AttributeError") = false := by
  rw [List.contains_cons, c.noA]; rfl
theorem Chain.cN (c : Chain B bm) : (Value.ref C :: bm).contains (.type "NameError") = false := by
  rw [List.contains_cons, c.noN]; rfl
theorem chk_new (F : ExcBaseFacts B nI iI bB) (c : Chain B bm) {us : List Value} {Q : Unit → Shared → Prop}
    (hC : h.get? C = some (excClassObj nm qn C N bs bm hd sn sb ab col dd k0 k1 k2 k3 k5 nI))
    (hq : Q () ⟨h, gn, dr, tk, os⟩) : wpAny M A (checkBuiltinCall nI ⟨.ref C :: us, []⟩) Q E ⟨h, gn, dr, tk, os⟩ := by
  have z1 : (Value.ref C :: bm).contains (.type B) = true := c.cB
  have z2 := F.noStar
  simp only [checkBuiltinCall, F.newSplit, F.newRow, F.newKind]
  repeat (first
    | refine wpAny_loadPart_at hC ?_
    | (refine wpAny_isSubtype_exc hC ?_; rw [z1])
    | refine wpAny_staticBase_exc hC ?_
    | refine wpAny_madeBy_exc hC ?_
    | simp only [bne_self_eq_false, if_false, Bool.false_eq_true]
    | wp_step)
  exact hq
theorem run_new (F : ExcBaseFacts B nI iI bB) (c : Chain B bm) {us : List Value}
    (hC : h.get? C = some (excClassObj nm qn C N bs bm hd sn sb ab col dd k0 k1 k2 k3 k5 nI)) (hz : us.length ≤ sizeLine)
    (hq : R (.ok (.ret (.ref (h.objs.size + 1)))) ⟨(h.push (W.kdv_tup us)).push (excO C h.objs.size), gn, dr, tk, os⟩) :
    codeAny (model prog w) A (.builtin nI ⟨.ref C :: us, []⟩) R ⟨h, gn, dr, tk, os⟩ := by
  have z0 := F.ends
  have z1 : (Value.ref C :: bm).contains (.type B) = true := c.cB
  have z2 : (Value.ref C :: bm).contains (.type "AttributeError") = false := c.cA
  have z3 : (Value.ref C :: bm).contains (.type "NameError") = false := c.cN
  refine codeAny_builtinAt F.entry ?_
  (unfold Builtin.«BaseException.__new__»; refine wpAt_bind ?_)
  (show wpAt _ _ _ (stack >>= _) _ _ _; refine wpAt_bind (wpAt_stack fun p below => wpAt_of_wpAny ?_))
  (wp_walk; refine wpAt_of_wpAny ?_; rw [F.owner])
  repeat (first
    | with_reducible refine wpAny_madeHere_exc F.canon hC ?_
    | with_reducible refine wpAny_loadPart_at hC ?_
    | (with_reducible refine wpAny_isSubtype_exc hC ?_; first | rw [z1] | rw [z2] | rw [z3])
    | wp_step)
  (show R _ _; rw [Heap.size_push]; exact hq)
theorem run_tcall (F : ExcBaseFacts B nI iI bB) (c : Chain B bm) {us : List Value} {fI : Addr} {Q : Fin → Shared → Prop}
    (hC : h.get? C = some (excClassObj nm qn C N bs bm hd sn sb ab col dd k0 k1 k2 k3 k5 nI)) (hz : us.length ≤ sizeLine)
    (hi : W.Looks (model prog w) h (typeLookup (.ref C) "__init__") (some (.ref fI)))
    (hb : ∀ self, W.Looks (model prog w) h (bindSpecial (.ref fI) self) (.ref fI, [self]))
    (hq : codeAny (model prog w) A (.call (.ref fI) ⟨.ref (h.objs.size + 1) :: us, []⟩)
      (fun r s' => match r with
        | .ok (.ret v) => v = .none ∧ Q (.done (.ret (.ref (h.objs.size + 1)))) s'
        | .ok _ => False
        | .error e => E e s') ⟨(h.push (W.kdv_tup us)).push (excO C h.objs.size), gn, dr, tk, os⟩) :
    wpAny (model prog w) A (Builtin.«type.__call__» ⟨.ref C :: us, []⟩) Q E ⟨h, gn, dr, tk, os⟩ := by
  repeat (first
    | with_reducible refine wpAny_loadPart_at hC ?_
    | with_reducible refine wpAny_madeBy_exc hC ?_
    | wp_step)
  refine codeAny_call_builtin_code (Code.quiet_builtin _ F.quiet) (chk_new F c hC (run_new F c hC hz ?_))
  show wpAny _ _ _ _ _ _
  have kp : ∀ b o, h.get? b = some o → ((h.push (W.kdv_tup us)).push (excO C h.objs.size)).get? b = some o :=
    fun b o e => Heap.get?_push_of_some _ (Heap.get?_push_of_some _ e)
  have hC1 := kp _ _ hC
  have hx : ((h.push (W.kdv_tup us)).push (excO C h.objs.size)).get? (h.objs.size + 1) = some (excO C h.objs.size) := by
    heap_get
  have hcc : (Value.ref C :: bm).contains (.ref C) = true := by simp
  have i1 := hi.keeps kp
  have b1 := (hb (.ref (h.objs.size + 1))).keeps kp
  unfold isInstance
  repeat (first
    | with_reducible refine wpAny_loadPart_at hx ?_
    | (with_reducible refine wpAny_isSubtype_exc hC1 ?_; rw [hcc])
    | wp_step)
  (show wpAny _ _ (typeLookup (.ref C) _) _ _ _; refine i1.at (wpAny_holding (wpAny_bind (b1.at ?_))))
  refine wpAny_bind (wpAny_call (codeAny_mono hq fun r s' y => ?_))
  cases r with
  | error e => exact y
  | ok fl =>
    cases fl with
    | ret v =>
      obtain ⟨rfl, y⟩ := y
      first | exact wpAny_pure (wpAny_pure y) | (wp_walk; exact y)
    | next => exact y.elim
    | brk => exact y.elim
    | cont => exact y.elim
theorem run_call (F : ExcBaseFacts B nI iI bB) (c : Chain B bm) {us : List Value} {fI : Addr}
    (hC : h.get? C = some (excClassObj nm qn C N bs bm hd sn sb ab col dd k0 k1 k2 k3 k5 nI)) (hz : us.length ≤ sizeLine)
    (hi : W.Looks (model prog w) h (typeLookup (.ref C) "__init__") (some (.ref fI)))
    (hb : ∀ self, W.Looks (model prog w) h (bindSpecial (.ref fI) self) (.ref fI, [self]))
    (hq : codeAny (model prog w) (A.under (.builtin "type.__call__" ⟨.ref C :: us, []⟩)) (.call (.ref fI) ⟨.ref (h.objs.size + 1) :: us, []⟩)
      (W.InitBack (h.objs.size + 1) R) ⟨(h.push (W.kdv_tup us)).push (excO C h.objs.size), gn, dr, tk, os⟩) :
    codeAny (model prog w) A (.call (.ref C) ⟨us, []⟩) R ⟨h, gn, dr, tk, os⟩ := by
  have f1 := tc_lookup
  have f2 := tc_bind (.ref C)
  have ty : (⟨h, gn, dr, tk, os⟩ : Shared).TypeIs (.ref C) "type" := ⟨_, hC, rfl⟩
  refine codeAny_of_tree ?_
  show wpAny _ _ (callAny (.ref C) _) _ _ _
  repeat (any_goals (first | assumption | with_reducible refine wpAny_loadPart_at hC ?_ | wp_step))
  refine ⟨rfl, codeAny_call_builtin_at (Code.quiet_builtin _ (by decide +kernel)) entry_typeCall
    (wpAny_check_type_call_sub hC (run_tcall F c hC hz hi hb (codeAny_mono hq fun r s' y => ?_)))⟩
  rcases r with e | (v | _ | _ | _)
  all_goals exact y
/-- self.f = v on a fresh exception, whatever its base is -/
theorem osaG {K : W.Frag} {f : Str} {t1 : Tok} {v : Value} {x : Addr} {fv : Array Value} {cd : ClassData} (X : K.In h)
    (hx : h.get? x = some { cls := .ref C, data := .fields fv }) (hcd : W.clsIn K C = some cd) (ne : cd.mro.isEmpty = false)
    (ho : cd.mro.contains (.type "object") = true) (hp : refuseLoop (.ref x) "__setattr__" cd.mro = pure ()) (hh : cd.hasDict = true)
    (ha : W.findIn K (.ref C) f = some none)
    (hq : ∀ h' t' dx, (∀ b o, b ≠ x → h.get? b = some o → h'.get? b = some o) → h.objs.size ≤ dx → dx ≠ x →
      h'.get? x = some { cls := .ref C, dict := some dx, data := .fields fv } →
      h'.Ns1 dx (fun y => if y = f then some v else none) → R (.ok (.ret .none)) ⟨h', gn, dr, t', os⟩) :
    codeAny (model prog w) A (.call (.builtin "object.__setattr__") ⟨[.ref x, .str f t1, v], []⟩) R ⟨h, gn, dr, tk, os⟩ := by
  have I : W.InstAt h x { cls := .ref C, data := .fields fv } C none := ⟨hx, rfl, rfl, trivial⟩
  have hxs : x ≠ h.objs.size := Nat.ne_of_lt (Heap.lt_size hx)
  have sub : W.Looks (model prog w) h (isInstance (.ref x) (.type "object")) true :=
    I.type.andThen (W.looks_mroIn X (by unfold W.mroIn; rw [hcd, Option.bind_some, if_neg (by rw [ne]; decide), ho]))
  refine codeAny_call_builtin F.store_object.slot.plain F.store_object.entry
    (@W.check_slot (model prog w) _ _ ⟨h, gn, dr, tk, os⟩ "object.__setattr__" "object" "__setattr__" (.ref x) [.str f t1, v] [] _
      F.store_object.kind F.store_object.split sub (F.store_object.args (.ref x) (.str f t1) v) ?_)
  have m1 : W.Looks (model prog w) h (mroOf (.ref C)) cd.mro := (W.looks_clsIn X hcd).andThen .now
  have m2 : W.Looks (model prog w) h (storeTaker? none) none := .now
  have m3 : W.Looks (model prog w) h (classData C) cd := W.looks_clsIn X hcd
  (rw [W.osa_eq, refuse_eq]; refine wpAny_bind (wpAny_bind (I.type.at (wpAny_bind (m1.at ?_)))); rw [hp])
  refine wpAny_pure (wpAny_bind (I.type.at (wpAny_bind ((W.looks_findIn X ha).at (wpAny_bind (m2.at ?_))))))
  show wpAny _ _ (storeInOwnDict (.ref x) (.ref C) (.str f t1) f v false) _ _ _
  obtain ⟨nm', bs', mro', ns', qn', hd', sn', sb', ab', col', dl'⟩ := cd
  (dsimp only at hh; subst hh; unfold storeInOwnDict ownDictForStores)
  repeat (first
    | with_reducible refine store_in_new ?_ ?_
    | with_reducible refine wpAny_loadPart_at hx ?_
    | with_reducible refine m3.at ?_
    | wp_step)
  · exact ⟨_, #[], _, (Heap.get?_update_ne _ _ _ _ hxs.symm).trans (Heap.get?_push_at rfl rfl), rfl,
      fun e he => absurd he (by simp), fun _ => rfl⟩
  · intro h' t' hn sm
    have hx1 : (h.push { cls := .type "dict", data := .dict #[] }).get? x = some { cls := .ref C, data := .fields fv } :=
      Heap.get?_push_of_some _ hx
    refine hq h' t' h.objs.size (fun b o hb e => ?_) (Nat.le_refl _) hxs.symm ?_ hn
    · exact (sm.2 b (Nat.ne_of_lt (Heap.lt_size e))).trans
        ((Heap.get?_update_ne _ _ _ _ hb).trans (Heap.get?_push_of_some _ e))
    · exact (sm.2 x hxs).trans (Heap.get?_update_self _ hx1 rfl)
end
end FX
end PySem
-- FmBase
set_option maxRecDepth 100000
set_option maxHeartbeats 4000000
namespace FM
open PySem PySem.Spec PyProof.Rows L2
section
variable {X : Cx}
/-- int(n), int(b) -/
def rIntIB : List V → Hp → VK → Prop := fun xs H Q => (∃ i, xs = [.int i] ∧ Q (.int i) H) ∨ (∃ b : Bool, xs = [.bl b] ∧ Q (.int (if b then 1 else 0)) H)
theorem call_intIB : CallR X (.type "int") rIntIB := by
  intro pins s σ H xs us Q I r h
  rcases h with ⟨i, rfl, q⟩ | ⟨b, rfl, q⟩
  · obtain ⟨u1, rfl, r1⟩ := vals1 r
    obtain ⟨t, rfl⟩ := r1
    exact call_int_int ⟨.int i, H, I, ⟨t, rfl⟩, q⟩
  · obtain ⟨u1, rfl, r1⟩ := vals1 r
    cases r1
    exact call_int_bool ⟨.int (if b then 1 else 0), H, I.tok _, ⟨_, rfl⟩, q⟩
/-- a ** b, told by bits -/
def CPowW (i j : Int) : Prop := 0 ≤ j ∧ (Builtin.Int.intBits i : Int) * j ≤ 2 ^ 27
theorem op_powW : OpR X (binaryOp .Pow) (rI CPowW fun i j => .int (i ^ j.toNat)) := opI fun _ _ _ _ _ _ _ hc q => pow_int hc.1 hc.2 q
end
end FM
-- FmExc2
set_option maxRecDepth 100000
set_option maxHeartbeats 4000000
namespace FM
open PySem PySem.Spec PyProof.Rows L2
/-- what the written part says of an own exception class whose __init__ stores fields -/
structure OxC (K : PySem.W.Frag) (C : Addr) : Prop where
  cls : ∃ (B nI iI : String) (bB bm : List Value), ExcBaseFacts B nI iI bB ∧ PySem.FX.Chain B bm ∧
    bm.contains (.type "object") = true ∧ (∀ self, refuseLoop self "__setattr__" (.ref C :: bm) = pure ()) ∧
    ∃ nm q N bs sn sb ab col dd k0 k1 k2 k3 k5, K.lookup C = some (excClassObj nm q C N bs bm true sn sb ab col dd k0 k1 k2 k3 k5 nI)
  sa : PySem.W.findIn K (.ref C) "__setattr__" = some (some (.builtin "object.__setattr__"))
  ga : PySem.W.findIn K (.ref C) "__getattribute__" = some (some (.builtin "BaseException.__getattribute__"))
  gg : PySem.W.findIn K (.ref C) "__getattr__" = some none
  exC : PySem.W.subIn K (.ref C) (.type "BaseException") = some true
  tyC : PySem.W.typeIn K (.ref C) = some (.type "type")
  kC : PySem.W.keepIn K (.ref C) = true
  hdC : PySem.W.hasDictIn K C = true
section
variable {X : Cx} {pins : List (Addr × Obj)} {σ : L2.St} {H : Hp} {s : Shared} {a C dx : Addr} {f : Str} {y : V} {u : Value} {fs : List (Str × V)}
  {Q : Unit → Shared → Prop} {E : Value → Shared → Prop} {A : Around}
/-- the first field of a fresh exception is stored -/
theorem st_new (T : OxC X.K C) (I : Inv X pins σ H s) (e : H a = some (exo a C none))
    (hno : PySem.W.findIn X.K (.ref C) f = some none) (ry : RelV y u)
    (h : ∀ dx s', H dx = none → dx ≠ a → Inv X pins σ (upd (upd H dx (exd dx [(f, y)])) a (exo a C (some dx))) s' → Q () s') :
    wpAny (model X.prog X.w) A (setAttr (.ref a) f u) Q E s := by
  obtain ⟨B, nI, iI, bB, bm, F, ch, ho, hp, nm, q, N, bs, sn, sb, ab, col, dd, k0, k1, k2, k3, k5, hC⟩ := T.cls
  have hcl : ∃ cd, PySem.W.clsIn X.K C = some cd ∧ cd.mro = .ref C :: bm ∧ cd.hasDict = true := by
    refine ⟨_, by unfold PySem.W.clsIn; rw [hC], rfl, rfl⟩
  obtain ⟨cd, hcd, hm, hh⟩ := hcl
  obtain ⟨t1, hx0⟩ := exo_at I.hok e
  obtain ⟨hh0, g, d, t, os⟩ := s
  refine PySem.W.set_plain I.kIn (od := none) ⟨hx0, rfl, rfl, trivial⟩ T.sa ?_
  refine PySem.FX.osaG I.kIn hx0 hcd (by rw [hm]; rfl) (by rw [hm, List.contains_cons, ho, Bool.or_true]) (by rw [hm]; exact hp _) hh hno
    (fun h' t' dx kp dn dne hx hn => ?_)
  have nD : H dx = none := I.hok.fresh dn
  have lt : ∀ {b : Addr} {o : Obj}, hh0.get? b = some o → b ≠ dx := fun q =>
    Nat.ne_of_lt (Nat.lt_of_lt_of_le (Heap.lt_size q) dn)
  have nA : ∀ {b : Addr}, H b = none → b ≠ a := fun {b} n z => by
    rw [z, e] at n
    cases n
  have U : Un X.fs [] H (upd (upd H dx (exd dx [(f, y)])) a (exo a C (some dx))) hh0 h' :=
    { keep := fun b o q n _ _ => kp b o (nA n) q
      slot := fun b o q n _ _ => ⟨_, kp b o (nA n) q⟩
      free := fun b o q n _ => by
        rw [upd_ne (nA n), upd_ne (lt q)]
        exact n
      there := fun b o q _ => by
        by_cases hb : b = a
        · subst hb
          exact ⟨_, hx⟩
        · exact ⟨_, kp b o hb q⟩
      tups := fun b xs q => by
        rw [upd_ne (at_ne e q exo_tup), upd_ne (ne_of_none q nD)]
        exact q
      frzs := fun b o v q => by
        rw [upd_ne (at_ne e q exo_frz), upd_ne (ne_of_none q nD)]
        exact q
      tbls := fun b ps q => ⟨#[], by
        rw [upd_ne (at_ne e q exo_tbl), upd_ne (ne_of_none q nD), q]
        simp⟩ }
  refine h dx _ nD dne (I.un (t' := t') U fun b o q => ?_)
  by_cases hb : b = a
  · subst hb
    cases upd_same.symm.trans q
    exact exo_ok hx
  rw [upd_ne hb] at q
  by_cases hd : b = dx
  · subst hd
    cases upd_same.symm.trans q
    exact exd_ok hn (relO_put (fs := []) ry fun g => True.intro)
  rw [upd_ne hd] at q
  refine (I.hok b o q).stay (fun c v hc z => kp c v ?_ z) (fun c hc => ?_) (fun c xs hc => ?_)
  · rcases hc with hc | hc
    · exact fun w => hb (hc ▸ w)
    · exact at_ne e hc exo_own
  · rw [upd_ne (at_ne e hc exo_own), upd_ne (ne_of_none hc nD)]
    exact hc
  · rw [upd_ne (at_ne e hc exo_tup), upd_ne (ne_of_none hc nD)]
    exact hc
end
/-- self.f = e in such an __init__ -/
def tOsx (K : PySem.W.Frag) (f : Str) (to te : TE) : TS := fun D σ H => te σ H fun y H1 => to σ H1 fun x H2 => ∃ a C : Addr,
  x = .ref a ∧ OxC K C ∧ PySem.W.findIn K (.ref C) f = some none ∧ H2 a = some (exo a C none) ∧
  ∀ dx, H2 dx = none → dx ≠ a → D.nx σ (upd (upd H2 dx (exd dx [(f, y)])) a (exo a C (some dx)))
section
variable {X : Cx} {o e : Expr} {es : List Expr} {to te : TE} {ta : TA} {f : Str} {p p' p1 p2 pos : Pos}
theorem ps_osx (ho : PE X o to) (he : PE X e te) (hs : swapsWith e (some (.Attribute o f p')) pos.line X.env = pure false := by rfl) :
    PS X (.Assign [.Attribute o f p'] e pos) (tOsx X.K f to te) := by
  refine ⟨fun pins s σ H D I h => plainObj_wpAny_Assign_Attribute (thn (he.run pins s σ H _ I h) ?_) hs⟩
  rintro v s1 ⟨y, H1, I1, r1, q1⟩
  refine thn (ho.run pins s1 σ H1 _ I1 q1) ?_
  rintro u s2 ⟨x, H2, I2, r2, a, C, rfl, T, hno, ea, q⟩
  cases r2
  exact st_new T I2 ea hno r1 fun dx s' n ne J => ⟨σ, _, J, q dx n ne⟩
/-- an __init__(self, f) that stores its argument -/
def spInit1 (C : Addr) (f : Str) : Sp := fun vs H Q _ => ∃ (a : Addr) (v : V), vs = [.ref a, v] ∧ H a = some (exo a C none) ∧
  ∀ d, H d = none → d ≠ a → Q .non (upd (upd H d (exd d [(f, v)])) a (exo a C (some d)))
/-- C(e) held as a value -/
def tOxv (C : Addr) (f : Str) (te : TE) : TE := fun σ H Q => te σ H fun v H1 => ∀ a d, H1 a = none → H1 d = none → d ≠ a →
  Q (.ref a) (upd (upd H1 d (exd d [(f, v)])) a (exo a C (some d)))
theorem pe_oxv {x : Str} {C fI : Addr} {k : Nat} {fd : FuncData} {ps : List Str} (T : OxC X.K C)
    (iC : PySem.W.findIn X.K (.ref C) "__init__" = some (some (.ref fI))) (tI : PySem.W.typeIn X.K (.ref fI) = some (.type "function"))
    (F1 : FnOk X.prog X.w X.K X.mg X.base CX0 k fI fd ps (spInit1 C f)) (hr : Room (k + 1) X.A) (hb : Binds X.K fd ps [])
    (hg : Gl X x) (hm : X.mg x = some (.ref C)) (he : PE X e te) (hdb : (x == ("__debug__" : Str)) = false := by decide)
    (hs : starEach [e] X.env = (false, eval e X.env) :: starEach [] X.env := by rfl) :
    PE X (.Call (.Name x p) [e] [] pos) (tOxv C f te) := by
  refine ⟨fun pins s σ H Q I h => ?_⟩
  obtain ⟨B, nI, iI, bB, bm, F, ch, ho, hp, nm, q, N, bs, sn, sb, ab, col, dd, k0, k1, k2, k3, k5, hC⟩ := T.cls
  refine wpAny_Call_Name_kw (ld_glob I hg hm ?_ hdb)
  refine PySem.W.callWith_K (h₀ := X.base) I.ok.mod.kin T.kC ?_ hs (by rfl)
  rw [hs]
  show wpAny _ _ (spliced ((false, eval e X.env) :: backTo pos (starEach [] X.env))) _ _ s
  refine Calls.spliced_cons (thn (he.run pins s σ H _ I h) ?_)
  rintro u s1 ⟨v, H1, I1, r1, q1⟩
  refine Calls.spliced_nil ⟨I1.kIn, ?_⟩
  show wpAny _ _ (call (.ref C) [u]) _ _ _
  obtain ⟨hp1, g, dr, tk, os⟩ := s1
  have lt1 : hp1.objs.size ≤ hp1.objs.size + 1 := Nat.le_succ _
  have n1 : H1 (hp1.objs.size + 1) = none := I1.hok.fresh lt1
  have kp : ∀ b o, hp1.get? b = some o →
      ((hp1.push (PySem.W.kdv_tup [u])).push (PySem.HandSPX.excO C hp1.objs.size)).get? b = some o :=
    fun b o z => Heap.get?_push_of_some _ (Heap.get?_push_of_some _ z)
  have hx : ((hp1.push (PySem.W.kdv_tup [u])).push (PySem.HandSPX.excO C hp1.objs.size)).get? (hp1.objs.size + 1)
      = some (PySem.HandSPX.excO C hp1.objs.size) := by heap_get
  have I2 : Inv X pins σ (upd H1 (hp1.objs.size + 1) (exo (hp1.objs.size + 1) C none))
      ⟨(hp1.push (PySem.W.kdv_tup [u])).push (PySem.HandSPX.excO C hp1.objs.size), g, dr, tk, os⟩ :=
    I1.laid (t' := tk) kp lt1 (exo_ok hx)
  have r2 : Vals [V.ref (hp1.objs.size + 1), v] [Value.ref (hp1.objs.size + 1), u] := .cons rfl (.cons r1 .nil)
  have hq : spInit1 C f [V.ref (hp1.objs.size + 1), v] (upd H1 (hp1.objs.size + 1) (exo (hp1.objs.size + 1) C none))
      (fun w' H' => w' = .non ∧ Q (.ref (hp1.objs.size + 1)) H') (fun _ _ _ => False) := by
    refine ⟨_, v, rfl, upd_same, fun d nd ne => ⟨rfl, ?_⟩⟩
    rw [upd_ne ne] at nd
    have z := q1 (hp1.objs.size + 1) d n1 nd ne
    have e1 : upd (upd (upd H1 (hp1.objs.size + 1) (exo (hp1.objs.size + 1) C none)) d (exd d [(f, v)])) (hp1.objs.size + 1)
        (exo (hp1.objs.size + 1) C (some d)) = upd (upd H1 d (exd d [(f, v)])) (hp1.objs.size + 1) (exo (hp1.objs.size + 1) C (some d)) := by
      funext b
      by_cases hb : b = hp1.objs.size + 1
      · rw [hb, upd_same, upd_same]
      · rw [upd_ne hb, upd_ne hb]
        by_cases hd : b = d
        · rw [hd, upd_same, upd_same]
        · rw [upd_ne hd, upd_ne hd, upd_ne hb]
    rw [e1]
    exact z
  have hl : ([Value.ref (hp1.objs.size + 1), u] : List Value).length = ps.length := by
    have z := F1.len _ _ _ _ hq
    exact z
  refine wpAny_call (PySem.FX.run_call F ch (I1.kIn _ _ hC) (by show 1 ≤ sizeLine; decide) (PySem.W.looks_findIn I1.kIn iC)
    (fun self => PySem.W.bind_fn I1.kIn self tI) (codeAny_mono (F1.run _ X.stack _ _ ⟨[Value.ref (hp1.objs.size + 1), u], []⟩
      [Value.ref (hp1.objs.size + 1), u] _ _ (fun _ _ _ => False) (hr.make C [u] []) (I2.env0.make C [u] [])
      (by simpa using hb _ [Value.ref (hp1.objs.size + 1), u] I2.kIn (by simpa using hl)) r2 hq) fun r s' hq' => ?_))
  cases r with
  | error er => exact False.elim hq'
  | ok fl =>
    cases fl with
    | ret w' =>
      obtain ⟨z, H', J, rz, ez, q2⟩ := I2.after hq'
      subst ez
      exact ⟨rz, V.ref (hp1.objs.size + 1), H', J, rfl, q2⟩
    | next => exact False.elim hq'
    | brk => exact False.elim hq'
    | cont => exact False.elim hq'
end
end FM
-- FmExc3
set_option maxRecDepth 100000
set_option maxHeartbeats 4000000
namespace FM
open PySem PySem.Spec PyProof.Rows L2
/-- at a stands an exception of the class at D, as a value -/
def ExA (H : Hp) (a D : Addr) : Prop := H a = some (ExO (.ref D) a) ∨ ∃ d fs, H a = some (exo a D (some d)) ∧ H d = some (exd d fs)
/-- a is the exception that is handled, without a dict -/
def PinD (pn : List (Addr × Obj)) (a D : Addr) : Prop := ∃ oe : Obj, (a, oe) ∈ pn ∧ Zc (.ref D) none oe ∧ ∃ vs, oe.data = .fields vs
theorem inst_pin {X : Cx} {pins : List (Addr × Obj)} {σ : L2.St} {H : Hp} {s : Shared} {a D : Addr} (I : Inv X pins σ H s) (h : PinD X.pn a D) :
    ∃ (oe : Obj) (od : Option Obj), PySem.W.InstAt s.heap a oe D od := by
  obtain ⟨oe, hp, hz, vs, hd⟩ := h
  obtain ⟨hg, _⟩ := I.pin (a, oe) (List.mem_append.mpr (.inl hp))
  refine ⟨oe, none, hg, hz.1, ?_, by rw [hz.2]; trivial⟩
  unfold PySem.W.notCls
  rw [hd]
theorem inst_exa {X : Cx} {pins : List (Addr × Obj)} {σ : L2.St} {H : Hp} {s : Shared} {a D : Addr} (I : Inv X pins σ H s) (h : ExA H a D) :
    ∃ (oe : Obj) (od : Option Obj), PySem.W.InstAt s.heap a oe D od := by
  rcases h with h | ⟨d, fs, h, hd⟩
  · obtain ⟨⟨oe, vs, ho, hz, hdt, _⟩, _, _⟩ := I.hok a _ h
    refine ⟨oe, none, ho, hz.1, ?_, by rw [hz.2]; trivial⟩
    unfold PySem.W.notCls
    rw [hdt]
  · obtain ⟨t, ho⟩ := exo_at I.hok h
    obtain ⟨mA, ⟨o, es, ep, e1, _⟩, _⟩ := exd_at I.hok hd
    exact ⟨_, some o, ho, rfl, rfl, e1⟩
/-- isinstance(e, c) of an exception -/
def rIsX (K : PySem.W.Frag) (pn : List (Addr × Obj)) : List V → Hp → VK → Prop := fun xs H Q => ∃ (a D : Addr) (c : V) (cv : Value) (b : Bool), xs = [.ref a, c] ∧ ClsV c cv ∧
  (ExA H a D ∨ PinD pn a D) ∧ ExcC K D ∧ PySem.W.kitOne K (.ref D) cv = some b ∧ Q (.bl b) H
theorem call_isX {X : Cx} : CallR X (.builtin "isinstance") (rIsX X.K X.pn) := by
  intro pins s σ H xs us Q I r h
  obtain ⟨a, D, c, cv, b, rfl, k, hx, C, e, q⟩ := h
  obtain ⟨u1, u2, rfl, r1, r2⟩ := vals2 r
  have e2 := k.eq r2
  subst e2
  cases r1
  obtain ⟨oe, od, J⟩ : ∃ (oe : Obj) (od : Option Obj), PySem.W.InstAt s.heap a oe D od := hx.elim (inst_exa I) (inst_pin I)
  have hcl : (PySem.W.clsIn X.K D).isSome = true := by
    obtain ⟨cd, hc, _⟩ := PySem.W.any_some C.hd
    rw [hc]
    rfl
  exact PySem.W.kia_one (PySem.W.kitx_exc hcl C.hg C.hk C.hs C.ha C.hn C.ht C.hm) I.kIn J e (fun z => nomatch z)
    fun tk => ⟨.bl b, H, I.tok tk, rfl, q⟩
/-- e.f of an exception held as a value -/
def tXv (K : PySem.W.Frag) (f : Str) (te : TE) : TE := fun σ H Q => te σ H fun x H1 => ∃ (a C d : Addr) (fs : List (Str × V)) (v : V), x = .ref a ∧
  H1 a = some (exo a C (some d)) ∧ H1 d = some (exd d fs) ∧ XfC K C ∧ PySem.W.findIn K (.ref C) f = some none ∧ fs.lookup f = some v ∧ Q v H1
theorem pe_xv {X : Cx} {e : Expr} {te : TE} {pos : Pos} {n : Str} (he : PE X e te) (hb : attributeBase e n X.env (eval e X.env) = eval e X.env := by rfl) :
    PE X (.Attribute e n pos) (tXv X.K n te) := by
  refine ⟨fun pins s σ H Q I h => attr_of hb (thn (he.run pins s σ H _ I h) ?_)⟩
  rintro u s1 ⟨x, H1, I1, rx, a, C, d, fs, v, rfl, ha, hd, T, hno, l, q⟩
  cases rx
  obtain ⟨t, ho⟩ := exo_at I1.hok ha
  obtain ⟨mA, hns, hr⟩ := exd_at I1.hok hd
  obtain ⟨od, hod, hl⟩ := lookIn_ns hns
  obtain ⟨u, hu, ru⟩ := RelO.some_of (v := v) (o := mA n) (by rw [← l]; exact hr n)
  have J : PySem.W.InstAt s1.heap a _ C (some od) := ⟨ho, rfl, rfl, hod⟩
  exact HandSPX.exc_get I1.kIn J T.ga T.gg T.exC (PySem.W.findObj_own T.hdC hno rfl (by rw [hl, hu])) (handed_of ru)
    ⟨v, H1, I1.tok _, ru, q⟩
end FM
-- K6Base
set_option maxRecDepth 100000
set_option maxHeartbeats 4000000
namespace FM
open PySem L2
/-! lists of truths compared -/
theorem dpAll_bl {K : PySem.W.Frag} {H : Hp} : ∀ bs : List Bool, DpAll K H (bs.map V.bl) (bs.map PyData.bool)
  | [] => .nil
  | b :: r => .cons (.bl b) (dpAll_bl r)
theorem dp_bl {K : PySem.W.Frag} {H : Hp} {p : Addr} {bs : List Bool} (h : H p = some (.lst (bs.map V.bl))) : Dp K H (.ref p) (.list (bs.map PyData.bool)) := .lst (SqL.of h) (dpAll_bl bs)
theorem canAll_bl : ∀ bs : List Bool, PyData.canLayAll0 (bs.map PyData.bool) = true
  | [] => rfl
  | _ :: r => canAll_bl r
theorem depthAll_bl : ∀ bs : List Bool, PyData.depthAll (bs.map PyData.bool) ≤ 1
  | [] => by simp [PyData.depthAll]
  | _ :: r => by
    have := depthAll_bl r
    simp only [List.map_cons, PyData.depthAll, PyData.depth]
    omega
theorem shaped_bl (bs : List Bool) : SeqAt.shaped (.list (bs.map PyData.bool)) = true := by
  unfold SeqAt.shaped
  rw [Bool.and_eq_true]
  refine ⟨canAll_bl bs, decide_eq_true ?_⟩
  have := depthAll_bl bs
  simp only [PyData.depth]
  omega
/-- != of two lists of the same truths -/
theorem ne_bl {K : PySem.W.Frag} {H : Hp} {p q : Addr} {bs cs : List Bool} {Q : VK} (h1 : H p = some (.lst (bs.map V.bl))) (h2 : H q = some (.lst (cs.map V.bl))) (e : bs = cs) (k : Q (.bl false) H) : rNeD K (.ref p) (.ref q) H Q := by
  subst e
  refine ⟨_, _, dp_bl h1, dp_bl h2, shaped_bl bs, shaped_bl bs, ?_⟩
  rw [SeqAt.eqv_refl _ (SeqAt.canLay_of_shaped (shaped_bl bs))]
  exact k
/-- a for over enumerate(a list) -/
theorem for_enum {K : PySem.W.Frag} {a : Addr} {xs : List V} {g : TG} {tb : TS} {D : Ends} {σ : L2.St} {H : Hp} (Pv : Nat → L2.St → Hp → Prop) (h0 : Pv 0 σ H) (hl : ∀ i σ H, Pv i σ H → SqL K H a xs)
    (hs : ∀ i x σ H T, xs[i]? = some x → Pv i σ H → H T = none → g (.ref T) σ (upd H T (.tup [.int (i : Nat), x])) fun σ2 H2 => tb { D with nx := Pv (i + 1), ct := Pv (i + 1), bk := D.nx } σ2 H2)
    (hd : ∀ σ H, Pv xs.length σ H → D.nx σ H) :
    ∃ W : Nat → Nat → L2.St → Hp → Prop, (∃ m, W 0 m σ H) ∧ ∀ i m σ H, W i m σ H →
      ((Ite K a).stop i H ∧ D.nx σ H) ∨ ((Ite K a).go i H ∧ ∃ N : L2.St → Hp → Prop, (∀ σ' H', N σ' H' → ∃ m', m' < m ∧ W (i + 1) m' σ' H') ∧
        ∀ x H', (Ite K a).yld i H x H' → g x σ H' fun σ2 H2 => tb { D with nx := N, ct := N, bk := D.nx } σ2 H2) := by
  refine ⟨fun i m σ H => m = xs.length - i ∧ i ≤ xs.length ∧ Pv i σ H, ⟨_, rfl, Nat.zero_le _, h0⟩, ?_⟩
  rintro i m σ H ⟨rfl, hi, p⟩
  have q := hl i σ H p
  by_cases lt : i < xs.length
  · refine .inr ⟨⟨xs, xs[i], q, List.getElem?_eq_getElem lt⟩, Pv (i + 1), fun σ' H' p' => ⟨xs.length - (i + 1), by omega, rfl, lt, p'⟩, fun x H' y => ?_⟩
    obtain ⟨T, z, rfl, nT, rfl, hz⟩ := y
    exact hs i z σ H T (hz xs q) p nT
  · have e : i = xs.length := by omega
    subst e
    exact .inl ⟨⟨xs, q, Nat.le_refl _⟩, hd σ H p⟩
end FM
namespace K0
open PySem L2 FM He
def top (i : Nat) : Stmt := PySem.Challenge.pw_fewmarks_k60_patterns.main.body.getD i (.Pass ⟨0, 0, 0, 0⟩)
abbrev FnP (K : PySem.W.Frag) (x : Str) (st : Stmt) (f : Addr) (fd : FuncData) : Prop := FunD K x x (defArgs st) (defBody st) (defScope st) [] [] f fd
abbrev FnQ (K : PySem.W.Frag) (q : Str) (st : Stmt) (f : Addr) (fd : FuncData) : Prop := FunD K "__init__" q (defArgs st) (defBody st) (defScope st) [] [] f fd
def mark9 : List Str := ["MarkError", "InvalidText", "InvalidBook"]
structure TE (K : PySem.W.Frag) (mg : Str → Option Value) : Prop where
  b_isinstance : mg "isinstance" = none
  b_range : mg "range" = none
  g_MarkError : mg "MarkError" = some (.ref (ga K "MarkError"))
  g_InvalidText : mg "InvalidText" = some (.ref (ga K "InvalidText"))
  g_InvalidBook : mg "InvalidBook" = some (.ref (ga K "InvalidBook"))
  exI : ∀ x ∈ mark9, PySem.W.excIn K (ga K x) veBase "ValueError.__new__" = true ∧ PySem.W.keepIn K (.ref (ga K x)) = true
  exc : ∀ x ∈ mark9, ExcC K (ga K x)
theorem exA_upd {H : Hp} {a D p : Addr} {o : HO} (h : ExA H a D) (n : H p = none) : ExA (upd H p o) a D := by
  rcases h with h | ⟨d, fs, h1, h2⟩
  · exact .inl (by rw [upd_ne (ne_of_none h n)]; exact h)
  · exact .inr ⟨d, fs, by rw [upd_ne (ne_of_none h1 n)]; exact h1, by rw [upd_ne (ne_of_none h2 n)]; exact h2⟩
theorem exA_same {H H' : Hp} {a D : Addr} (h : ExA H a D) (S : Same H H') : ExA H' a D := by
  rcases h with h | ⟨d, fs, h1, h2⟩
  · exact .inl (S _ _ h)
  · exact .inr ⟨d, fs, S _ _ h1, S _ _ h2⟩
theorem same_upd {H : Hp} {p : Addr} {o : HO} (n : H p = none) : Same H (upd H p o) := fun b u h => by
  rw [upd_ne (ne_of_none h n)]
  exact h
theorem sqT_same {H H' : Hp} {a : Addr} {xs : List V} (e : Same H H') (h : SqT K H a xs) : SqT K H' a xs := by
  rcases h with (h | ⟨o, h⟩) | h
  · exact .inl (.inl (e _ _ h))
  · exact .inl (.inr ⟨o, e _ _ h⟩)
  · exact .inr h
end K0
-- FmZip
set_option maxRecDepth 100000
set_option maxHeartbeats 4000000
/-! zip of two texts, sign by sign. -/
namespace FM
open PySem PySem.Spec PyProof.Rows L2
def ItzS (x y : Str) : It :=
  ⟨fun i _ => i < min x.cps.size y.cps.size,
   fun i H v H' => ∃ T c d, v = .ref T ∧ H T = none ∧ H' = upd H T (.tup [.str ⟨#[c]⟩, .str ⟨#[d]⟩]) ∧ x.cps[i]? = some c ∧ y.cps[i]? = some d,
   fun i _ => min x.cps.size y.cps.size ≤ i⟩
/-- how zip(x, y) stands ahead of turn i -/
abbrev zsTn (x y : Str) (t u : Tok) (z TI TO i1 i2 : Addr) (i : Nat) (h : Heap) : Prop :=
  IsZip h z TI TO .none ∧ IsTupOf2 h TI (.ref i1) (.ref i2) ∧ (∃ a1 a2, IsTupOf2 h TO a1 a2) ∧
    h.IsStrIter i1 (strIterType x) x t i ∧ h.IsStrIter i2 (strIterType y) y u i ∧ i ≤ min x.cps.size y.cps.size
theorem turn_zipS {P : Program} {w : World} {K : PySem.W.Frag} {elts : List Expr} {kk : Nat} {tpos : Pos} {x y : Str} {t u : Tok} {z TI TO i1 i2 : Addr}
    (S : ZipSep2 z TI TO i1 i2 [i1] [i2]) :
    Turn P w K (.Tuple elts kk tpos) (ItzS x y) (z :: TI :: TO :: ([i1] ++ [i2])) z (zsTn x y t u z TI TO i1 i2) where
  mem := List.mem_cons_self
  obj := fun i h st b hb => by
    obtain ⟨h1, h2, ⟨a1, a2, h3⟩, ⟨o4, e4, _, d4⟩, ⟨o5, e5, _, d5⟩, _⟩ := st
    have q : b = z ∨ b = TI ∨ b = TO ∨ b = i1 ∨ b = i2 := by simpa using hb
    rcases q with q | q | q | q | q
    · subst q; exact ⟨_, h1, fun v e => nomatch e⟩
    · subst q; exact ⟨_, h2, fun v e => nomatch e⟩
    · subst q; exact ⟨_, h3, fun v e => nomatch e⟩
    · subst q; exact ⟨o4, e4, fun v e => by rw [d4] at e; cases e⟩
    · subst q; exact ⟨o5, e5, fun v e => by rw [d5] at e; cases e⟩
  keep := fun i h h' st k => by
    obtain ⟨h1, h2, ⟨a1, a2, h3⟩, ⟨o4, e4, d4⟩, ⟨o5, e5, d5⟩, hle⟩ := st
    exact ⟨k z (by simp) _ h1, k TI (by simp) _ h2, ⟨a1, a2, k TO (by simp) _ h3⟩, ⟨o4, k i1 (by simp) _ e4, d4⟩, ⟨o5, k i2 (by simp) _ e5, d5⟩, hle⟩
  item := by
    intro X hP hw hK hc i pins s σ H E I hf st hg
    subst hP hw hK
    obtain ⟨h1, h2, h3, h4, h5, hle⟩ := st
    have hgi : i < min x.cps.size y.cps.size := hg
    have hh : X.A.in1.handled = none := I.ok.hd hc
    have G := GoesN.zip2 (elts := elts) (x1 := kk) (pos := tpos) S (Draws.text (prog := X.prog) (w := X.w) hh i1 x t) (Draws.text (prog := X.prog) (w := X.w) hh i2 y u)
    have sub : ∀ b, b ∈ [z, TO, i1, i2] → b ∈ z :: TI :: TO :: ([i1] ++ [i2]) := G.sub
    have lt : ∀ b ∈ z :: TI :: TO :: ([i1] ++ [i2]), b < s.heap.objs.size := fun b hb => by
      obtain ⟨a1, a2, h3'⟩ := h3
      obtain ⟨o4, e4, _⟩ := h4
      obtain ⟨o5, e5, _⟩ := h5
      have q : b = z ∨ b = TI ∨ b = TO ∨ b = i1 ∨ b = i2 := by simpa using hb
      rcases q with q | q | q | q | q
      · subst q; exact Heap.lt_size h1
      · subst q; exact Heap.lt_size h2
      · subst q; exact Heap.lt_size h3'
      · subst q; exact Heap.lt_size e4
      · subst q; exact Heap.lt_size e5
    refine wpAny_mono (G.goes i s (fun v s2 => ∃ x1 H', Inv X pins σ H' s2 ∧ RelV x1 v ∧ (ItzS x y).yld i H x1 H' ∧ zsTn x y t u z TI TO i1 i2 (i + 1) s2.heap ∧ ∀ b ∈ z :: TI :: TO :: ([i1] ++ [i2]), H' b = none) E hg
      ⟨h1, h2, h3, h4, h5⟩ fun v h' tk hy st' kp _ => ?_) (fun r s1 hr => ?_) fun _ _ q => q
    · obtain ⟨T, v1, v2, rfl, hT, ⟨c, u1, hc1, rfl⟩, ⟨d, u2, hd1, rfl⟩, hTup⟩ := hy
      obtain ⟨o, e, oc, n, od⟩ := hTup
      have hn : H T = none := I.hok.fresh hT
      have new : ObjOk X.prog X.w (upd H T (.tup [.str ⟨#[c]⟩, .str ⟨#[d]⟩])) h' T (.tup [.str ⟨#[c]⟩, .str ⟨#[d]⟩]) :=
        ⟨by show 2 ≤ sizeLine; decide, [_, _], .cons ⟨u1, rfl⟩ (.cons ⟨u2, rfl⟩ .nil), ⟨o, e, oc, n, od⟩⟩
      have J : Inv X pins σ (upd H T (.tup [.str ⟨#[c]⟩, .str ⟨#[d]⟩])) { s with heap := h', toks := tk } :=
        I.turnedNew (ch := [z, TO, i1, i2]) kp (fun b hb => hf b (sub b hb)) hT new
      obtain ⟨g1, g2, g3, g4, g5⟩ := st'
      refine ⟨.ref T, _, J, rfl, ⟨T, c, d, rfl, hn, rfl, hc1, hd1⟩, ⟨g1, g2, g3, g4, g5, hgi⟩, fun b hb => ?_⟩
      rw [upd_ne (Nat.ne_of_lt (Nat.lt_of_lt_of_le (lt b hb) hT))]
      exact (hf b hb).1
    · obtain ⟨v, rfl, q⟩ := hr
      exact ⟨v, rfl, q⟩
  done := by
    intro X hP hw hK hc i pins s σ H E I hf st hg
    subst hP hw hK
    obtain ⟨h1, h2, h3, h4, h5, hle⟩ := st
    have hg' : min x.cps.size y.cps.size ≤ i := hg
    have ei : i = min x.cps.size y.cps.size := by omega
    subst ei
    have hh : X.A.in1.handled = none := I.ok.hd hc
    have G := GoesN.zip2 (elts := elts) (x1 := kk) (pos := tpos) S (Draws.text (prog := X.prog) (w := X.w) hh i1 x t) (Draws.text (prog := X.prog) (w := X.w) hh i2 y u)
    have sub : ∀ b, b ∈ [z, TO, i1, i2] → b ∈ z :: TI :: TO :: ([i1] ++ [i2]) := G.sub
    exact G.stops s (fun s1 => Inv X pins σ H s1) E ⟨h1, h2, h3, h4, h5⟩ fun h' tk kp _ => I.turnedL (ch := [z, TO, i1, i2]) kp fun b hb => hf b (sub b hb)
  self := fun A i s Q E st h => wpAny_pyIter_zip st.1 h
def iZipS (ta : TA) : TI := fun σ H R => ta σ H fun vs H1 => ∃ x y : Str, vs = [.str x, .str y] ∧ R (ItzS x y) H1
theorem pi_zipS {X : Cx} {e e2 : Expr} {ta : TA} {p pos tpos : Pos} {elts : List Expr} {kk : Nat} (hg : Gl X "zip") (hm : X.mg "zip" = none) (ha : PA X [e, e2] ta)
    (hs : starEach [e, e2] X.env = (false, eval e X.env) :: starEach [e2] X.env := by rfl) (hpl : (backTo pos (starEach [e2] X.env)).any (·.1) = false := by rfl) :
    PI X (.Tuple elts kk tpos) (.Call (.Name "zip" p) [e, e2] [] pos) (iZipS ta) := by
  refine ⟨fun pins s σ H R I h => Call_ (ld_blt I hg hm PyProof.Rows.boot_zip (PyProof.Rows.callWith_type1 (thn (ha.run pos pins s σ H _ I h) ?_) hs hpl))⟩
  rintro us s1 ⟨vs, H1, I1, r1, x, y, rfl, q⟩
  obtain ⟨u1, u2, rfl, ⟨t, rfl⟩, ⟨u, rfl⟩⟩ := vals2 r1
  have sep := zip_sep2 (N := s1.heap.objs.size) (fp1 := []) (fp2 := []) (fun b hb => nomatch hb) (fun b hb => nomatch hb)
  refine zip_begins2 (begins_text x t) (begins_text y u) trivial trivial fun h' hz hTI hTO g1 g2 hsz hk => wpAny_pyIter_zip hz ?_
  have I2 : Inv X pins σ H1 { s1 with heap := h' } := I1.kept (t' := s1.toks) hk
  refine ⟨_, _, _, _, H1, rfl, I2, turn_zipS (x := x) (y := y) (t := t) (u := u) sep, ⟨hz, hTI, ⟨_, _, hTO⟩, ⟨_, g1, rfl, rfl⟩, ⟨_, g2, rfl, rfl⟩, Nat.zero_le _⟩, fun c hc => ?_, q⟩
  have e' : c = s1.heap.objs.size + 4 ∨ c = s1.heap.objs.size + 2 ∨ c = s1.heap.objs.size + 3 ∨ c = s1.heap.objs.size ∨ c = s1.heap.objs.size + 1 := by simpa using hc
  have hle : s1.heap.objs.size ≤ c := by
    rcases e' with e' | e' | e' | e' | e'
    · rw [e']; exact Nat.le_add_right _ _
    · rw [e']; exact Nat.le_add_right _ _
    · rw [e']; exact Nat.le_add_right _ _
    · rw [e']; exact Nat.le_refl _
    · rw [e']; exact Nat.le_add_right _ _
  exact I1.fpOk hle (I1.hok.fresh hle)
end FM
-- FmWord
set_option maxRecDepth 100000
set_option maxHeartbeats 4000000
namespace FM
open PySem L2
def alpha : Str := "abcdefghijklmnopqrstuvwxyz"
/-- a string of letters -/
def isWord (z : Str) : Bool := decide (Txt.stripChars z alpha = "")
/-- a value of another type -/
def NotTy (K : PySem.W.Frag) (H : Hp) (x : V) (T : String) : Prop := ∃ t, TyX K H x t ∧ PySem.W.kitOne K t (.type T) = some false
theorem ty_tup {K : PySem.W.Frag} {H : Hp} {a : Addr} {xs : List V} (h : SqT K H a xs) : TyX K H (.ref a) (.type "tuple") := by
  rcases h with (h | ⟨o, h⟩) | ⟨o, its, n, h, hc, _⟩
  · exact .base (.tup h)
  · exact .fTuple h
  · exact .kTuple h hc
theorem dec_strV (a b : Str) : decide (V.str a = V.str b) = decide (a = b) := by
  by_cases h : a = b
  · rw [h]; simp
  · rw [decide_eq_false h, decide_eq_false fun z => h (V.str.inj z)]
theorem dec_intV (a b : Int) : decide (V.int a = V.int b) = decide (a = b) := by
  by_cases h : a = b
  · rw [h]; simp
  · rw [decide_eq_false h, decide_eq_false fun z => h (V.int.inj z)]
theorem tyX_same {K : PySem.W.Frag} {H H' : Hp} {x : V} {t : Value} (S : Same H H') (h : TyX K H x t) : TyX K H' x t := by
  cases h with
  | base b =>
    refine .base ?_
    cases b with
    | non => exact .non
    | bl y => exact .bl y
    | int i => exact .int i
    | str y => exact .str y
    | flt y => exact .flt y
    | lst e => exact .lst (S _ _ e)
    | frz e => exact .frz (S _ _ e)
    | tup e => exact .tup (S _ _ e)
    | dK e => exact .dK (S _ _ e)
    | dT e => exact .dT (S _ _ e)
    | ins e cl ha hn htk hm => exact .ins (S _ _ e) cl ha hn htk hm
  | byt y => exact .byt y
  | set e => exact .set (S _ _ e)
  | kList e c => exact .kList e c
  | kTuple e c => exact .kTuple e c
  | kDict e c => exact .kDict e c
  | fTuple e => exact .fTuple (S _ _ e)
  | fDict e => exact .fDict (S _ _ e)
theorem notTy_same {K : PySem.W.Frag} {H H' : Hp} {x : V} {T : String} (S : Same H H') (h : NotTy K H x T) : NotTy K H' x T := by
  obtain ⟨t, h1, h2⟩ := h
  exact ⟨t, tyX_same S h1, h2⟩
/-- a value, and whether it is a word -/
def WordV (K : PySem.W.Frag) (H : Hp) (y : V) (b : Bool) : Prop := (∃ z : Str, y = .str z ∧ z.length ≤ sizeLine ∧ isWord z = b) ∨ (NotTy K H y "str" ∧ b = false)
theorem wordV_same {K : PySem.W.Frag} {H H' : Hp} {y : V} {b : Bool} (S : Same H H') (h : WordV K H y b) : WordV K H' y b := h.imp id fun ⟨h, e⟩ => ⟨notTy_same S h, e⟩
end FM
-- FmSetStr
set_option maxRecDepth 100000
set_option maxHeartbeats 1000000
/-! Sets of texts that can be walked: made of a text or of a tuple of texts, sorted. -/
namespace FM
open PySem PySem.Spec PyProof.Rows L2
def sKey (e : Int × Value) : Str := match e.2 with | .str k _ => k | _ => Str.empty
def GoodT (w : World) (e : Int × Value) : Prop := ∃ k tk, e.2 = Value.str k tk ∧ e.1 = hashStr w k
/-- the set of texts at a: S its members; its table rises and can be walked -/
def SetRS (w : World) (h : Heap) (a : Addr) (S : Str → Bool) (n : Nat) : Prop :=
  ∃ o es ep t, h.get? a = some o ∧ o.ExactSet ∧ o.data = .set es ep t ∧ (∀ e ∈ es.toList, GoodT w e) ∧ (es.toList.map sKey).Nodup ∧ (∀ k, S k = true ↔ k ∈ es.toList.map sKey) ∧
    es.size < scanBound ∧ t.fits es.size = true ∧ es.size = n ∧ Ris t.place.toList ∧ (w.params.followText "set-order" = true ∨ t.led = true)
section
variable {P : Program} {w : World} {h h' : Heap} {a : Addr} {S : Str → Bool} {n : Nat}
theorem SetRS.at (R : SetRS w h a S n) (k : ∀ o, h.get? a = some o → h'.get? a = some o) : SetRS w h' a S n := by
  obtain ⟨o, es, ep, t, ho, r⟩ := R
  exact ⟨o, es, ep, t, k o ho, r⟩
theorem SetRS.congr {S' : Str → Bool} (R : SetRS w h a S n) (e : ∀ k, S' k = S k) : SetRS w h a S' n := by
  have : S' = S := funext e
  rw [this]
  exact R
theorem strIs (k : Str) (u : Tok) : (PySem.strKind P w).is k (.str k u) = true := by
  show Value.isStrOf k (.str k u) = true
  simp [Value.isStrOf]
theorem goodT_elems {l : List (Int × Value)} (g : ∀ e ∈ l, GoodT w e) : ElemsOf (PySem.strKind P w) l := fun e he => by
  obtain ⟨k, tk, h1, h2⟩ := g e he
  exact ⟨⟨k, by rw [h1]; exact strIs k tk, h2⟩, by rw [h1]; rfl⟩
theorem goodT_is {e : Int × Value} (g : GoodT w e) (k : Str) : (PySem.strKind P w).is k e.2 = true ↔ sKey e = k := by
  obtain ⟨k0, tk, h1, _⟩ := g
  constructor
  · intro q
    obtain ⟨t, q2⟩ := Value.isStrOf_shape q
    unfold sKey
    rw [q2]
  · intro q
    have q2 : k0 = k := by
      unfold sKey at q
      rw [h1] at q
      exact q
    rw [h1, q2]
    exact strIs k tk
theorem goodT_mem {l : List (Int × Value)} (g : ∀ e ∈ l, GoodT w e) (k : Str) : k ∈ l.map sKey ↔ ∃ e ∈ l, (PySem.strKind P w).is k e.2 = true := by
  rw [List.mem_map]
  exact ⟨fun ⟨e, he, q⟩ => ⟨e, he, (goodT_is (g e he) k).2 q⟩, fun ⟨e, he, q⟩ => ⟨e, he, (goodT_is (g e he) k).1 q⟩⟩
end
section
variable {P : Program} {w : World} {A : Around} {E : Value → Shared → Prop} {s : Shared} {a : Addr} {S : Str → Bool} {n : Nat}
theorem setRS_tail {g : Bool → Sem Unit} (hg : ∀ (b : Bool) (s₁ : Shared) (Q' : Unit → Shared → Prop), Q' () s₁ → wpAny (model P w) A (g b) Q' E s₁)
    {o : Obj} {es : Array (Int × Value)} {ep : Nat} {t : SetTable} (ho : s.heap.get? a = some o) (hex : o.ExactSet) (hd : o.data = .set es ep t)
    {fs : Array (Int × Value)} {u : SetTable} {S' : Str → Bool} (gT : ∀ e ∈ fs.toList, GoodT w e) (ndT : (fs.toList.map sKey).Nodup) (mT : ∀ k, S' k = true ↔ k ∈ fs.toList.map sKey)
    (hbT : fs.size < scanBound) (hfT : u.fits fs.size = true) (hrT : Ris u.place.toList) (hlT : w.params.followText "set-order" = true ∨ u.led = true) {wasDummy : Bool} {R : Option Bool → Shared → Prop}
    (hR : ∀ h', Heap.SameBut a s.heap h' → SetRS w h' a S' fs.size → R (some true) { s with heap := h' }) :
    wpAny (model P w) A (do
        storeSet a fs u
        if (!wasDummy && u.tooFull) = true then do
            g (relayAll u fs (SetTable.grown fs.size)).2.2
            storeSet a (relayAll u fs (SetTable.grown fs.size)).1 (relayAll u fs (SetTable.grown fs.size)).2.1
            pure (some true)
          else pure (some true)) R E s := by
  refine wpAny_bind (wpAny_storeSet_of ho hd ?_ (fits_of_scanBound hbT))
  have hoT := store_at (es' := fs) (t' := u) ho hd
  have sbT := Heap.SameBut.update s.heap a (Obj.putSet fs u)
  split
  · have pm := relayAll_perm u fs (SetTable.grown fs.size)
    have hf3 := relayAll_fits u fs (SetTable.grown fs.size)
    have hr3 := relayAll_ris u fs (SetTable.grown fs.size)
    have hl3 := relayAll_led u fs (SetTable.grown fs.size)
    generalize relayAll u fs (SetTable.grown fs.size) = Z at pm hf3 hr3 hl3 ⊢
    obtain ⟨gs, t3, gave⟩ := Z
    dsimp only at pm hf3 hr3 hl3 ⊢
    have hsz : gs.size = fs.size := by rw [← Array.length_toList, pm.length_eq, Array.length_toList]
    have hb2 : gs.size < scanBound := by rw [hsz]; exact hbT
    refine wpAny_bind (hg _ _ _ ?_)
    refine wpAny_bind (wpAny_storeSet_of hoT rfl ?_ (fits_of_scanBound hb2))
    have ho2 := store_at (es' := gs) (t' := t3) hoT rfl
    refine wpAny_pure (hR _ (sbT.trans (Heap.SameBut.update _ a _)) ?_)
    exact ⟨_, gs, _, t3, ho2, hex, rfl, fun e he => gT e (pm.mem_iff.mp he), (pm.map sKey).nodup_iff.mpr ndT, fun k => (mT k).trans (pm.map sKey).mem_iff.symm, hb2, hf3, hsz, hr3,
      hlT.imp id fun z => by rw [hl3]; exact z⟩
  · exact wpAny_pure (hR _ sbT ⟨_, fs, _, u, hoT, hex, rfl, gT, ndT, mT, hbT, hfT, rfl, hrT, hlT⟩)
theorem setRS_add {k : Str} {tk : Tok} {Q : Bool → Shared → Prop} (R : SetRS w s.heap a S n) (room : n + 1 < scanBound)
    (hQ : ∀ h', Heap.SameBut a s.heap h' → SetRS w h' a (fun j => S j || decide (j = k)) (if S k = true then n else n + 1) → Q (!S k) { s with heap := h' }) :
    wpAny (model P w) A (setAddHashed a (.str k tk) ((PySem.strKind P w).hash k)) Q E s := by
  obtain ⟨o, es, ep, t, ho, hex, hd, g, nd, hm, hb, hf, hn, hr, hl⟩ := R
  have hkey : (PySem.strKind P w).is k (.str k tk) = true := strIs k tk
  have hsc : (Value.str k tk).scannable = true := rfl
  have hel : ElemsOf (PySem.strKind P w) es.toList := goodT_elems g
  unfold setAddHashed setAddHashedIn
  refine wpAny_holding (wpAny_bind (wpAny_setState_of ho hd hf ?_))
  dsimp only
  rw [byScan_of hsc hb hel]
  simp only [↓reduceIte]
  unfold setAddByScan
  refine wpAny_bind ?_
  refine wpAny_bind (wpAny_rule ?_)
  refine wpAny_bind (wpAny_setScan_of hkey ho hd hf hel ?_)
  cases hfi : List.findIdx? (fun e => (PySem.strKind P w).is k e.2) es.toList with
  | some j =>
    dsimp only
    obtain ⟨hj, pj, _⟩ := List.findIdx?_eq_some_iff_getElem.mp hfi
    have hSk : S k = true := (hm k).2 ((goodT_mem (P := P) g k).2 ⟨es.toList[j], List.getElem_mem hj, pj⟩)
    refine wpAny_pure (wpAny_pure ?_)
    have q := hQ s.heap (Heap.SameBut.refl a s.heap) ⟨o, es, ep, t, ho, hex, hd, g, nd, fun i => by
      rw [Bool.or_eq_true, decide_eq_true_eq, ← hm i]
      exact ⟨fun z => z.elim id (fun e => e ▸ hSk), .inl⟩, hb, hf, by rw [if_pos hSk]; exact hn, hr, hl⟩
    rw [hSk] at q
    exact q
  | none =>
    dsimp only
    have hnk : k ∉ es.toList.map sKey := fun z => by
      obtain ⟨e, he, q⟩ := (goodT_mem (P := P) g k).1 z
      have c := List.findIdx?_eq_none_iff.mp hfi e he
      rw [q] at c
      cases c
    have hSk : S k = false := by
      cases q : S k with
      | false => rfl
      | true => exact absurd ((hm k).1 q) hnk
    have hgw : ∀ (b : Bool) {s₁ : Shared} {Q' : Unit → Shared → Prop}, Q' () s₁ → wpAny (model P w) A (match b with | true => rule "set.scan.the-table-gave-way" | false => pure ()) Q' E s₁ :=
      fun b s₁ Q' q => by cases b <;> first | exact wpAny_pure q | exact wpAny_rule q
    have pm := layNew_perm t es ((PySem.strKind P w).hash k) (.str k tk)
    have hf1 := layNew_fits t es ((PySem.strKind P w).hash k) (.str k tk)
    have hr1 := layNew_ris t es ((PySem.strKind P w).hash k) (.str k tk) hr
    have hl1 := layNew_led t es ((PySem.strKind P w).hash k) (.str k tk)
    generalize layNew t es ((PySem.strKind P w).hash k) (.str k tk) = Z at pm hf1 hr1 hl1 ⊢
    obtain ⟨fs, t1, wasDummy, gave⟩ := Z
    dsimp only at pm hf1 hr1 hl1 ⊢
    rw [Array.toList_push] at pm
    have pc : fs.toList.Perm (((PySem.strKind P w).hash k, Value.str k tk) :: es.toList) := pm.trans (List.perm_append_singleton _ _)
    have pk : (fs.toList.map sKey).Perm (k :: es.toList.map sKey) := pc.map sKey
    have gT : ∀ e ∈ fs.toList, GoodT w e := fun e he => by
      rcases List.mem_cons.mp (pc.mem_iff.mp he) with z | z
      · rw [z]; exact ⟨k, tk, rfl, rfl⟩
      · exact g e z
    have ndT : (fs.toList.map sKey).Nodup := pk.nodup_iff.mpr (List.nodup_cons.mpr ⟨hnk, nd⟩)
    have mT : ∀ i, (S i || decide (i = k)) = true ↔ i ∈ fs.toList.map sKey := fun i => by
      rw [Bool.or_eq_true, decide_eq_true_eq, hm i, pk.mem_iff, List.mem_cons]
      exact Or.comm
    have hsz : fs.size = n + 1 := by rw [← Array.length_toList, pc.length_eq, List.length_cons, Array.length_toList, hn]
    have hbT : fs.size < scanBound := by rw [hsz]; exact room
    have hled : w.params.followText "set-order" = true ∨ t1.led = true := hl.imp id fun z => by rw [hl1]; exact z
    have fin : ∀ h', Heap.SameBut a s.heap h' → SetRS w h' a (fun j => S j || decide (j = k)) fs.size → Q true { s with heap := h' } := fun h' sb r => by
      have q := hQ h' sb
      rw [hSk] at q
      rw [hsz] at r
      exact q r
    refine wpAny_bind (hgw _ ?_)
    split
    · refine wpAny_bind ?_
      rw [hashByValue_scannable 8 hsc]
      refine wpAny_pure ?_
      refine setRS_tail ?_ ho hex hd gT ndT mT hbT ?_ ?_ ?_ ?_
      · intro b s₁ Q' q; cases b <;> first | exact wpAny_pure q | exact wpAny_rule q
      · first | (split <;> first | exact hf1 | exact SetTable.fits_plain_off hf1) | exact hf1
      · first | (split <;> exact hr1) | exact hr1
      · first | (split <;> exact hled) | exact hled
      · intro h' sb r; dsimp only; exact wpAny_pure (fin h' sb r)
    · refine wpAny_bind (wpAny_pure ?_)
      simp only [↓reduceIte]
      refine setRS_tail ?_ ho hex hd gT ndT mT hbT hf1 hr1 hled ?_
      · intro b s₁ Q' q; cases b <;> first | exact wpAny_pure q | exact wpAny_rule q
      · intro h' sb r; dsimp only; exact wpAny_pure (fin h' sb r)
end
theorem setRS_new {w : World} {h : Heap} {a : Addr} {ks : List Str} (ho : h.get? a = some { cls := .type "set", dict := none, data := .set #[] 0 (.fresh 0 0 (!w.params.followText "set-order")) }) : SetRS w h a (fun j => decide (j ∈ ks.take 0)) 0 :=
  ⟨_, #[], 0, _, ho, ⟨rfl, rfl, rfl⟩, rfl, (fun e he => by simp at he), (by simp), (fun k => by simp), (by decide), (by rfl), rfl, List.Pairwise.nil, by
    show _ ∨ (!w.params.followText "set-order") = true
    cases w.params.followText "set-order"
    · exact .inr rfl
    · exact .inl rfl⟩
section
variable {P : Program} {w : World} {A : Around} {E : Value → Shared → Prop} {s : Shared}
theorem set_update_texts {I : Addr} {fp wr : List Addr} {G : Array GenState → Array GenState → Prop} {n : Nat} {Pv : Nat → Value → Prop} {St : Nat → Shared → Prop} {R : Result → Shared → Prop}
    (W : WalksS P w A.in1 I fp wr G n Pv St) (S : Addr) (hSf : S ∉ fp) (ks : List Str) (hn : n = ks.length) (hb : ks.length + 1 < scanBound) (hval : ∀ i v, Pv i v → ∃ k t, ks[i]? = some k ∧ v = .str k t) :
    ∀ (k i : Nat) (s : Shared), n - i = k → i ≤ n → St i s → (∃ c, c ≤ i ∧ SetRS w s.heap S (fun j => decide (j ∈ ks.take i)) c) →
      (∀ s' c, Moved (S :: wr) G s s' → c ≤ n → SetRS w s'.heap S (fun j => decide (j ∈ ks)) c → R (.ok (.ret .none)) s') →
      codeAny (model P w) A (.builtin "set.update.loop" ⟨[.ref S, .ref I], []⟩) R s := by
  have hSw : S ∉ wr := fun h => hSf (W.sub _ h)
  have hsub : ∀ b ∈ wr, b ∈ S :: wr := fun b hb => List.mem_cons_of_mem _ hb
  intro k
  induction k with
  | zero =>
    intro i s hk' hi hst ⟨c, hc, hS⟩ hR
    have hin : i = n := by omega
    subst hin
    refine codeAny_builtin F.entry_set_update_loop ?_
    rw [Around.under_plainId F.plain_set_update_loop _]
    show wpAny _ A.in1 (pyNext (.ref I) >>= _) _ _ s
    refine wpAny_bind (W.done s _ _ hst fun s' hm => ?_)
    show wpAny _ A.in1 (ret Value.none) _ _ s'
    have e : ks.take i = ks := List.take_of_length_le (by omega)
    rw [e] at hS
    exact wpAny_pure (hR s' c (hm.mono hsub) hc (hS.at fun o e => hm.heap S o hSw e))
  | succ k ih =>
    intro i s hk' hi hst ⟨c, hc, hS⟩ hR
    have hlt : i < n := by omega
    refine codeAny_builtin F.entry_set_update_loop ?_
    rw [Around.under_plainId F.plain_set_update_loop _]
    show wpAny _ A.in1 (pyNext (.ref I) >>= _) _ _ s
    refine wpAny_bind (W.item i s _ _ hlt hst fun v s' hP hst' hm => ?_)
    obtain ⟨z, t, hz, rfl⟩ := hval i v hP
    have hS' : SetRS w s'.heap S (fun j => decide (j ∈ ks.take i)) c := hS.at fun o e => hm.heap S o hSw e
    show wpAny _ A.in1 (holding [Value.str z t] (setAdd S (.str z t)) >>= _) _ _ s'
    refine wpAny_bind (wpAny_holding ?_)
    unfold setAdd
    refine wpAny_holding ?_
    refine wpAny_bind ((PySem.strKind P w).pyHash (k := z) (strIs _ _) ?_)
    refine setRS_add (s := { s' with toks := s'.toks + 1 }) hS' (by omega) fun h' hsb hS2 => ?_
    have hS3 : SetRS w h' S (fun j => decide (j ∈ ks.take (i + 1))) (if decide (z ∈ ks.take i) = true then c else c + 1) := hS2.congr fun j => by
      rw [List.take_add_one, hz]
      simp [List.mem_append]
    have hc3 : (if decide (z ∈ ks.take i) = true then c else c + 1) ≤ i + 1 := by
      split <;> omega
    refine wpAny_pure ⟨plainId_quiet F.plain_set_update_loop _, ih (i + 1) _ (by omega) hlt (W.frame _ s' _ _ hst' (Nat.le_succ _) fun b hb o e => ?_) ⟨_, hc3, hS3⟩ fun s'' c2 hm'' hc'' hS'' => ?_⟩
    · rw [hsb.2 b (fun h : b = S => hSf (by rw [← h]; exact hb))]; exact e
    · refine hR s'' c2 (Moved.trans W.gtrans ((hm.mono hsub).then_heap (Nat.le_succ _) fun b o hb e => ?_) hm'') hc'' hS''
      rw [hsb.2 b (fun h : b = S => hb (by rw [h]; exact List.mem_cons_self))]; exact e
end
end FM
-- FmSetStr2
set_option maxRecDepth 100000
set_option maxHeartbeats 3200000
namespace FM
open PySem PySem.Spec PyProof.Rows L2
abbrev freshSet (w : World) : Obj := { cls := .type "set", dict := none, data := .set #[] 0 (.fresh 0 0 (!w.params.followText "set-order")) }
/-- the texts of the signs of a text -/
def signs (x : Str) : List Str := x.cps.toList.map fun c => ⟨#[c]⟩
theorem signs_length (x : Str) : (signs x).length = x.cps.size := by simp [signs]
section
variable {P : Program} {w : World} {A : Around} {E : Value → Shared → Prop} {s : Shared}
theorem call_set_str {x : Str} {t : Tok} {Q : Value → Shared → Prop} (hh : A.handled = none) (hb : x.cps.size + 1 < scanBound)
    (h : ∀ (h' : Heap) (tk c : Nat), SetRS w h' s.heap.objs.size (fun j => decide (j ∈ signs x)) c → c ≤ x.cps.size → (∀ b o, s.heap.get? b = some o → h'.get? b = some o) → Q (.ref s.heap.objs.size) { s with heap := h', toks := tk }) :
    wpAny (model P w) A (call (.type "set") [.str x t]) Q E s := by
  obtain ⟨c, tl, hmro⟩ := F.called_set.mro
  have hmade := F.called_set.made
  have hsub := F.called_set.sub
  refine wpAny_call (codeAny_of_tree ?_)
  show wpAny _ _ (callAny (.type "set") _) _ _ _
  refine wpAny_pure ⟨Code.quiet_builtin _ (by decide +kernel), codeAny_builtin PySem.F.entry_type_call ?_⟩
  rw [Around.under_plain (weight_type_call_type "set" [.str x t] []) rfl]
  have h1 := F.called_set.notType
  have h2 := F.called_set.canCreate
  have hct := F.typeCall_set_1 (.str x t)
  repeat (any_goals (first | assumption | wp_step))
  refine codeAny_mono (code_set_led1 (.str x t) (E := E) (Q₁ := fun obj s₁ => obj = .ref s.heap.objs.size ∧ s₁ = { s with heap := s.heap.push (freshSet w) }) ⟨rfl, rfl⟩) fun r s₁ hr => ?_
  cases r with
  | error e => exact hr
  | ok fl =>
    cases fl with
    | ret obj =>
      obtain ⟨rfl, rfl⟩ := hr
      have hS : (s.heap.push (freshSet w)).get? s.heap.objs.size = some (freshSet w) := Heap.get?_push_size _ rfl
      have hT : Shared.TypeIs { s with heap := s.heap.push (freshSet w) } (.ref s.heap.objs.size) "set" := ⟨_, hS, rfl⟩
      have hli := F.called_set.init.lookup
      have hbi := F.called_set.init.bind (.ref s.heap.objs.size)
      repeat (any_goals (first | assumption | wp_step))
      refine codeAny_mono (codeAny_call_builtin (R := wants (fun r s₂ => r = .none ∧ ∃ h' tk c, s₂ = { s with heap := h', toks := tk } ∧ SetRS w h' s.heap.objs.size (fun j => decide (j ∈ signs x)) c ∧ c ≤ x.cps.size ∧
          (∀ b o, s.heap.get? b = some o → h'.get? b = some o)) E) F.called_set.init.plain F.entry_set_init (check_set_init_1 hT ?_)) fun r₂ s₂ hr₂ => ?_
      · have hss := PySem.F.sub_str_set
        have hsf := PySem.F.sub_str_frozenset
        have hT2 : Shared.TypeIs { s with heap := s.heap.push (freshSet w) } (.str x t) "str" := typeIs_str _ _ _
        have hne : (Value.type "str" == Value.type "dict") = false := by decide
        unfold Builtin.«set.__init__» noKeywords Builtin.Frozenset.updateFrom
        generalize hPI : pyIter = PI
        wp_walk
        subst hPI
        have hh3 : A.in1.in1.in1.handled = none := by simp [hh]
        refine wpAny_pyIter_str fun ob St hW hst => ?_
        refine wpAny_bind (wpAny_runValue ?_)
        have hz1 : (s.heap.push (freshSet w)).objs.size = s.heap.objs.size + 1 := Heap.size_push ..
        have hSf : s.heap.objs.size ∉ [(s.heap.push (freshSet w)).objs.size] := by
          rw [hz1]
          intro hm
          exact absurd (List.mem_singleton.mp hm) (Nat.ne_of_lt (Nat.lt_succ_self _))
        have hval : ∀ (i : Nat) (v : Value), SignAt x i v → ∃ k t, (signs x)[i]? = some k ∧ v = .str k t := fun i v hv => by
          obtain ⟨c, u, hc, rfl⟩ := hv
          refine ⟨⟨#[c]⟩, u, ?_, rfl⟩
          unfold signs
          rw [List.getElem?_map, Array.getElem?_toList, hc]
          rfl
        refine set_update_texts ((hW _ hh3).toS) s.heap.objs.size hSf (signs x) (signs_length x).symm (by rw [signs_length]; exact hb) hval (x.cps.size - 0) 0 _ (by omega) (Nat.zero_le _) hst ?hS0 ?hR
        case hS0 =>
          exact ⟨0, Nat.le_refl 0, setRS_new (Heap.get?_push_of_some _ hS)⟩
        case hR =>
          intro s' c' hm hc' hS'
          obtain ⟨h', g2, d', tk', os'⟩ := s'
          have eg : g2 = s.gens := hm.gens
          have ed : d' = s.drawn := hm.drawn
          have eo : os' = s.os := hm.os
          subst eg; subst ed; subst eo
          show wpAny _ _ _ _ _ _
          refine wpAny_pure ?_
          show wpAny _ _ (ret Value.none) _ _ _
          refine wpAny_pure ⟨rfl, h', tk', c', rfl, hS', hc', fun b o e => ?_⟩
          have hb0 : b < s.heap.objs.size := Heap.lt_size e
          refine hm.heap b o (fun hm => ?_) (Heap.get?_push_of_some _ (Heap.get?_push_of_some _ e))
          rcases List.mem_cons.mp hm with q | q
          · exact absurd q (Nat.ne_of_lt hb0)
          · have q := List.mem_singleton.mp q
            rw [hz1] at q
            exact absurd q (Nat.ne_of_lt (Nat.lt_succ_of_lt hb0))
      · cases r₂ with
        | error e => exact hr₂
        | ok fl₂ =>
          cases fl₂ with
          | ret r =>
            obtain ⟨rfl, h', tk, c', rfl, hS', hc', hk'⟩ := hr₂
            repeat (any_goals (first | assumption | wp_step))
            exact h _ _ _ hS' hc' hk'
          | _ => exact hr₂.elim
    | _ => exact hr.elim
theorem call_set_tupT {l : Addr} {items : Array Value} (ks : List Str) {Q : Value → Shared → Prop} (hh : A.handled = none) (hl : s.heap.IsTuple l items) (hit : StrsAre items.toList ks) (hb : ks.length + 1 < scanBound)
    (h : ∀ (h' : Heap) (tk c : Nat), SetRS w h' s.heap.objs.size (fun j => decide (j ∈ ks)) c → c ≤ ks.length → (∀ b o, s.heap.get? b = some o → h'.get? b = some o) → Q (.ref s.heap.objs.size) { s with heap := h', toks := tk }) :
    wpAny (model P w) A (call (.type "set") [.ref l]) Q E s := by
  have hisz : items.size = ks.length := by
    have q := StrsAre.length hit
    rw [Array.length_toList] at q
    exact q
  obtain ⟨c, tl, hmro⟩ := F.called_set.mro
  have hmade := F.called_set.made
  have hsub := F.called_set.sub
  refine wpAny_call (codeAny_of_tree ?_)
  show wpAny _ _ (callAny (.type "set") _) _ _ _
  refine wpAny_pure ⟨Code.quiet_builtin _ (by decide +kernel), codeAny_builtin PySem.F.entry_type_call ?_⟩
  rw [Around.under_plain (weight_type_call_type "set" [.ref l] []) rfl]
  have h1 := F.called_set.notType
  have h2 := F.called_set.canCreate
  have hct := F.typeCall_set_1 (.ref l)
  repeat (any_goals (first | assumption | wp_step))
  refine codeAny_mono (code_set_led1 (.ref l) (E := E) (Q₁ := fun obj s₁ => obj = .ref s.heap.objs.size ∧ s₁ = { s with heap := s.heap.push (freshSet w) }) ⟨rfl, rfl⟩) fun r s₁ hr => ?_
  cases r with
  | error e => exact hr
  | ok fl =>
    cases fl with
    | ret obj =>
      obtain ⟨rfl, rfl⟩ := hr
      have hS : (s.heap.push (freshSet w)).get? s.heap.objs.size = some (freshSet w) := Heap.get?_push_size _ rfl
      have hT : Shared.TypeIs { s with heap := s.heap.push (freshSet w) } (.ref s.heap.objs.size) "set" := ⟨_, hS, rfl⟩
      have hli := F.called_set.init.lookup
      have hbi := F.called_set.init.bind (.ref s.heap.objs.size)
      repeat (any_goals (first | assumption | wp_step))
      refine codeAny_mono (codeAny_call_builtin (R := wants (fun r s₂ => r = .none ∧ ∃ h' tk c, s₂ = { s with heap := h', toks := tk } ∧ SetRS w h' s.heap.objs.size (fun j => decide (j ∈ ks)) c ∧ c ≤ ks.length ∧
          (∀ b o, s.heap.get? b = some o → h'.get? b = some o)) E) F.called_set.init.plain F.entry_set_init (check_set_init_1 hT ?_)) fun r₂ s₂ hr₂ => ?_
      · obtain ⟨ol, hol, hcl, nl, hdl⟩ := hl
        obtain ⟨ocls, odict, odata, oslots⟩ := ol
        simp only at hcl hdl
        subst hcl
        subst hdl
        have hol' : (s.heap.push (freshSet w)).get? l = some { cls := .type "tuple", dict := odict, data := .seq items nl, slots := oslots } := Heap.get?_push_of_some _ hol
        have hsls := PySem.F.sub_tuple_set
        have hslf := PySem.F.sub_tuple_frozenset
        have hne : (Value.type "tuple" == Value.type "dict") = false := by decide
        have hl1 : (s.heap.push (freshSet w)).IsTuple l items := ⟨_, hol', rfl, nl, rfl⟩
        unfold Builtin.«set.__init__» noKeywords Builtin.Frozenset.updateFrom
        generalize hPI : pyIter = PI
        wp_walk
        subst hPI
        refine wpAny_pyIter_tuple hl1 ?_
        refine wpAny_bind (wpAny_runValue ?_)
        have hlS : l < s.heap.objs.size := Heap.lt_size hol
        have hh3 : A.in1.in1.in1.handled = none := by simp [hh]
        have hz1 : (s.heap.push (freshSet w)).objs.size = s.heap.objs.size + 1 := Heap.size_push ..
        have hneI : l ≠ (s.heap.push (freshSet w)).objs.size := by
          rw [hz1]
          exact Nat.ne_of_lt (Nat.lt_succ_of_lt hlS)
        have hSf : s.heap.objs.size ∉ [(s.heap.push (freshSet w)).objs.size, l] := by
          rw [hz1]
          intro hm
          rcases List.mem_cons.mp hm with q | q
          · exact absurd q (Nat.ne_of_lt (Nat.lt_succ_self _))
          · exact absurd (List.mem_singleton.mp q) (Nat.ne_of_gt hlS)
        have hval : ∀ (i : Nat) (v : Value), items[i]? = some v → ∃ k t, ks[i]? = some k ∧ v = .str k t := fun i v hv => by
          have hv2 : items.toList[i]? = some v := by rw [Array.getElem?_toList]; exact hv
          obtain ⟨x, t, rfl⟩ := hit.all v (List.mem_of_getElem? hv2)
          refine ⟨x, t, ?_, rfl⟩
          rw [← hit.strs, List.getElem?_map, hv2]
          rfl
        refine set_update_texts ((Walks.tuple hh3 _ l hneI items).toS) s.heap.objs.size hSf ks hisz hb hval (items.size - 0) 0 _ (by omega) (Nat.zero_le _)
          ⟨⟨_, Heap.get?_push_size _ rfl, rfl, rfl⟩, (hl1.push _)⟩ ?hS0 ?hR
        case hS0 =>
          exact ⟨0, Nat.le_refl 0, setRS_new (Heap.get?_push_of_some _ hS)⟩
        case hR =>
          intro s' c' hm hc' hS'
          obtain ⟨h', g2, d', tk', os'⟩ := s'
          have eg : g2 = s.gens := hm.gens
          have ed : d' = s.drawn := hm.drawn
          have eo : os' = s.os := hm.os
          subst eg; subst ed; subst eo
          show wpAny _ _ _ _ _ _
          refine wpAny_pure ?_
          show wpAny _ _ (ret Value.none) _ _ _
          rw [hisz] at hc'
          refine wpAny_pure ⟨rfl, h', tk', c', rfl, hS', hc', fun b o e => ?_⟩
          have hb0 : b < s.heap.objs.size := Heap.lt_size e
          refine hm.heap b o (fun hm => ?_) (Heap.get?_push_of_some _ (Heap.get?_push_of_some _ e))
          rcases List.mem_cons.mp hm with q | q
          · exact absurd q (Nat.ne_of_lt hb0)
          · have q := List.mem_singleton.mp q
            rw [hz1] at q
            exact absurd q (Nat.ne_of_lt (Nat.lt_succ_of_lt hb0))
      · cases r₂ with
        | error e => exact hr₂
        | ok fl₂ =>
          cases fl₂ with
          | ret r =>
            obtain ⟨rfl, h', tk, c', rfl, hS', hc', hk'⟩ := hr₂
            repeat (any_goals (first | assumption | wp_step))
            exact h _ _ _ hS' hc' hk'
          | _ => exact hr₂.elim
    | _ => exact hr.elim
/-- sorted(the set): a new list of its members, in order, once each -/
theorem sorted_setT {a : Addr} {S : Str → Bool} {n : Nat} {Q : Value → Shared → Prop} (R : SetRS w s.heap a S n) (hh : A.handled = none) (h64 : n < 64)
    (hQ : ∀ s' p (out : Array Value) (c : Nat) (ks : List Str), (∀ b o, s.heap.get? b = some o → s'.heap.get? b = some o) → s'.gens = s.gens → s'.os = s.os → s.heap.objs.size ≤ p →
      s'.heap.get? p = some (seqObj "list" out c) → StrsAre out.toList ks → sortedS ks = true → ks.Nodup → (∀ k, k ∈ ks ↔ S k = true) → ks.length = n → Q (.ref p) s') :
    wpAny (model P w) A (call (.builtin "sorted") [.ref a]) Q E s := by
  obtain ⟨o, es, ep, t, ho, hex, hd, g, nd, hm, hb, hf, hn, hr, hl⟩ := R
  refine Calls.call_function_entry kind_sorted plain_sorted entry_sorted (args_sorted1 _) ?_
  unfold Builtin.«sorted»
  refine wpAny_bind (m := checkCount "sorted" 1 1 _) (wpAny_pure ?_)
  refine wpAny_bind (collect_set (A := A.in1) hh ⟨o, ho, hex.1, hd⟩ hf hb hr hl fun s1 vs k1 hz g1 o1 pm => ?_)
  have hvl : vs.length = n := by rw [pm.length_eq, List.length_map, Array.length_toList]; exact hn
  have hall : ∀ v, v ∈ vs → ∃ x t, v = .str x t := fun v hv => by
    obtain ⟨e, he, q⟩ := List.mem_map.mp (pm.mem_iff.mp hv)
    obtain ⟨k, tk, h1, _⟩ := g e he
    exact ⟨k, tk, by rw [← q]; exact h1⟩
  have hS : StrsAre vs (vs.map strOf) := strsAre_map vs hall
  have pk : (vs.map strOf).Perm (es.toList.map sKey) := by
    have q := pm.map strOf
    rw [List.map_map] at q
    have e : es.toList.map (strOf ∘ fun e => e.2) = es.toList.map sKey := List.map_congr_left fun e he => by
      obtain ⟨k, tk, h1, _⟩ := g e he
      show strOf e.2 = sKey e
      unfold sKey
      rw [h1]
      rfl
    first
      | (rw [← e]; exact q)
      | exact q
  refine wpAny_bind (wpAny_newList ?_ (by rw [hvl, sizeLine_eq]; omega))
  have hoL : (s1.heap.push (seqObj "list" vs.toArray 0)).get? s1.heap.objs.size = some (seqObj "list" vs.toArray 0) := Heap.get?_push_size _ rfl
  refine wpAny_bind (wpAny_holding (wpAny_call_entry slot_list_sort ⟨_, hoL, rfl⟩ entry_list_sort (list_sort_treeKAny strKind_oneLt hoL hS.keysOf (fun v₁ v₂ rest e => keyKind_strs (by rw [← e]; exact hS)) (by rw [hvl, sizeLine_eq]; omega) fun st' hp hs => ⟨_, rfl, ?_⟩) (args_list_sort _)))
  obtain ⟨ks, a1, a2, a3⟩ := sorted_out_str hS hp hs
  obtain ⟨c, hc⟩ := sortedHeap_at (vs := vs) (out := (arrOf st').map (·.2)) hoL
  have pn : ks.Perm (es.toList.map sKey) := a2.trans pk
  refine wpAny_pure ⟨_, rfl, hQ _ s1.heap.objs.size _ c ks (fun b u e => ?_) g1 o1 hz hc a1 a3 (pn.nodup_iff.mpr nd) (fun k => by rw [pn.mem_iff, ← hm k]) ?_⟩
  · have q := k1 b u e
    have hlt := Heap.lt_size q
    show (sortedHeap (s1.heap.push (seqObj "list" vs.toArray 0)) s1.heap.objs.size vs _).get? b = some u
    rw [sortedHeap_old (Nat.ne_of_lt hlt) (by rw [size_push']; exact Nat.lt_succ_of_lt hlt)]
    exact Heap.get?_push_of_some _ q
  · rw [pn.length_eq, List.length_map, Array.length_toList]
    exact hn
end
end FM
-- FmSetRule
set_option maxRecDepth 100000
set_option maxHeartbeats 1000000
/-! set(text), set(tuple of texts), sorted of such a set, sorted(texts, key=len), list(text): as rules. -/
namespace FM
open PySem PySem.Spec PyProof.Rows L2
/-- the set of texts at a -/
def SetT (w : World) (a : Addr) (S : Str → Bool) (n : Nat) : HO := .ext fun h => SetRS w h a S n
theorem setT_new {w : World} {P : Program} {H : Hp} {h : Heap} {a : Addr} {S : Str → Bool} {n : Nat} (R : SetRS w h a S n) : ObjOk P w H h a (SetT w a S n) := by
  have ⟨o, _, _, _, ho, _⟩ := R
  exact ⟨R, ⟨o, ho⟩, fun h1 h2 p k => SetRS.at p k⟩
section
variable {X : Cx}
theorem setT_get {pins : List (Addr × Obj)} {σ : L2.St} {H : Hp} {s : Shared} {a : Addr} {S : Str → Bool} {n : Nat} (I : Inv X pins σ H s) (ha : H a = some (SetT X.w a S n)) : SetRS X.w s.heap a S n := (I.hok a _ ha).1
theorem scan_small {n : Nat} (h : n < 4000) : n + 1 < scanBound := by
  have : (4001 : Nat) ≤ scanBound := by decide
  omega
def rSetStr (w : World) : List V → Hp → VK → Prop := fun xs H Q => ∃ x : Str, xs = [.str x] ∧ x.length < 4000 ∧ ∀ p n, H p = none → n ≤ x.length → Q (.ref p) (upd H p (SetT w p (fun j => decide (j ∈ FM.signs x)) n))
theorem cr_setStr (hc : X.calm = true) : CallR X (.type "set") (rSetStr X.w) := by
  intro pins s σ H xs us Q I r h
  obtain ⟨x, rfl, hx, q⟩ := h
  obtain ⟨u, rfl, t, rfl⟩ := vals1 r
  refine call_set_str (I.ok.hd hc) (scan_small hx) fun h' tk c R hc' hk => ?_
  exact ⟨.ref _, upd H s.heap.objs.size (SetT X.w s.heap.objs.size (fun j => decide (j ∈ FM.signs x)) c), I.laid (t' := tk) hk (Nat.le_refl _) (setT_new R), rfl, q _ c (I.hok.fresh (Nat.le_refl _)) hc'⟩
def rSetTup (K : PySem.W.Frag) (w : World) : List V → Hp → VK → Prop := fun xs H Q => ∃ (a : Addr) (ks : List Str), xs = [.ref a] ∧ SqT K H a (ks.map V.str) ∧ ks.length < 4000 ∧ ∀ p n, H p = none → n ≤ ks.length → Q (.ref p) (upd H p (SetT w p (fun j => decide (j ∈ ks)) n))
theorem cr_setTup (hc : X.calm = true) : CallR X (.type "set") (rSetTup X.K X.w) := by
  intro pins s σ H xs us Q I r h
  obtain ⟨a, ks, rfl, ha, hx, q⟩ := h
  obtain rfl := Vals.ref1 r
  obtain ⟨its, rv, pl, hz⟩ := I.tuple ha
  have hl : s.heap.IsTuple a its.toArray := by
    first
      | exact pl.isTuple
      | exact pl
      | (obtain ⟨o, e, c, n, d⟩ := pl; exact ⟨o, e, c, n, d⟩)
  refine call_set_tupT ks (I.ok.hd hc) hl (by simpa using rv.strs) (scan_small hx) fun h' tk c R hc' hk => ?_
  exact ⟨.ref _, upd H s.heap.objs.size (SetT X.w s.heap.objs.size (fun j => decide (j ∈ ks)) c), I.laid (t' := tk) hk (Nat.le_refl _) (setT_new R), rfl, q _ c (I.hok.fresh (Nat.le_refl _)) hc'⟩
def rSortSetT (w : World) : List V → Hp → VK → Prop := fun vs H Q => ∃ (a : Addr) (S : Str → Bool) (n : Nat), vs = [V.ref a] ∧ H a = some (SetT w a S n) ∧ n < 64 ∧
  ∀ (ks : List Str) (p : Addr), sortedS ks = true → ks.Nodup → (∀ k, k ∈ ks ↔ S k = true) → ks.length = n → H p = none → Q (.ref p) (upd H p (.lst (ks.map V.str)))
theorem cr_sortSetT (hc : X.calm = true) : CallR X (.builtin "sorted") (rSortSetT X.w) := by
  intro pins s σ H vs us Q I r h
  obtain ⟨a, S, n, rfl, ha, h64, q⟩ := h
  have R := setT_get I ha
  rw [Vals.ref1 r]
  refine sorted_setT R (I.ok.hd hc) h64 fun s' p out c ks k g o hp hg hi hs hd hm hl => ?_
  have hlen : (ks.map V.str).length ≤ sizeLine := by rw [List.length_map, hl, sizeLine_eq]; omega
  have hn : H p = none := I.hok.fresh hp
  have J : Inv X pins σ (upd H p (.lst (ks.map V.str))) { s with heap := s'.heap, gens := s'.gens, drawn := s'.drawn, toks := s'.toks } :=
    I.call (ch := []) (Un.laid k hp hn) (I.hok.laid k hp ⟨hlen, out.toList, c, vals_of_strs hi, hg⟩) (by rw [g]; exact I.bare) (fun _ z => nomatch z)
  have e : s' = { s with heap := s'.heap, gens := s'.gens, drawn := s'.drawn, toks := s'.toks } := by
    cases s'
    cases s
    cases o
    rfl
  rw [e]
  exact ⟨.ref p, _, J, rfl, q ks p hs hd hm hl hn⟩
def rListStr : List V → Hp → VK → Prop := fun vs H Q => ∃ x : Str, vs = [.str x] ∧ x.length ≤ sizeLine ∧ ∀ p, H p = none → Q (.ref p) (upd H p (.lst ((FM.signs x).map V.str)))
theorem cr_listStr (hc : X.calm = true) : CallR X (.type "list") rListStr := by
  intro pins s σ H vs us Q I r h
  obtain ⟨x, rfl, hx, q⟩ := h
  obtain ⟨u, rfl, t, rfl⟩ := vals1 r
  refine PySem.call_list_str (I.ok.hd hc) x t (hn := hx) fun h' tk acc c hk hS hacc => ?_
  have hv : Vals ((FM.signs x).map V.str) acc.toList := by
    have hl : ((FM.signs x).map V.str).length = acc.toList.length := by
      rw [List.length_map, signs_length, Array.length_toList, hacc.1]
    have go : ∀ (as : List V) (bs : List Value), as.length = bs.length → (∀ (j : Nat) (a : V) (b : Value), as[j]? = some a → bs[j]? = some b → RelV a b) → Vals as bs := by
      intro as
      induction as with
      | nil =>
        intro bs h _
        cases bs with
        | nil => exact .nil
        | cons _ _ => simp at h
      | cons a as ih =>
        intro bs h hj
        cases bs with
        | nil => simp at h
        | cons b bs => exact .cons (hj 0 a b rfl rfl) (ih bs (by simpa using h) fun j a' b' h1 h2 => hj (j + 1) a' b' (by simpa using h1) (by simpa using h2))
    refine go _ _ hl fun j a b h1 h2 => ?_
    obtain ⟨c', u', hc', rfl⟩ := hacc.2 j b (by rw [← Array.getElem?_toList]; exact h2)
    unfold FM.signs at h1
    rw [List.map_map, List.getElem?_map, Array.getElem?_toList, hc'] at h1
    cases h1
    exact ⟨u', rfl⟩
  have hlen : ((FM.signs x).map V.str).length ≤ sizeLine := by rw [List.length_map, signs_length]; exact hx
  exact ⟨.ref _, upd H s.heap.objs.size (.lst ((FM.signs x).map V.str)), I.laid (t' := tk) hk (Nat.le_refl _) ⟨hlen, acc.toList, c, hv, hS⟩, rfl, q _ (I.hok.fresh (Nat.le_refl _))⟩
/-- texts by their length -/
def byLen (ks : List Str) : List Str := ks.mergeSort (PySem.W.dataLe false fun x : Str => PyData.int (x.length : Nat))
def tSortLen (K : PySem.W.Frag) (te : TE) : TE := fun σ H Q => te σ H fun x H1 => ∃ (a : Addr) (ks : List Str), x = .ref a ∧ SqL K H1 a (ks.map V.str) ∧ ks.length ≤ 1000 ∧ (∀ k ∈ ks, k.length ≤ sizeLine) ∧
  ∀ p, H1 p = none → Q (.ref p) (upd H1 p (.lst ((byLen ks).map V.str)))
theorem strs_each {its : List Value} {ks : List Str} (h : StrsAre its ks) : PySem.W.EachIs (fun v (x : Str) => ∃ t, v = Value.str x t) its ks := by
  induction h with
  | nil => exact .nil
  | cons x t _ ih => exact .cons ⟨t, rfl⟩ ih
theorem vals_each {its : List Value} {ks : List Str} (h : PySem.W.EachIs (fun v (x : Str) => ∃ t, v = Value.str x t) its ks) : Vals (ks.map V.str) its := by
  induction h with
  | nil => exact .nil
  | cons e _ ih => exact .cons e ih
theorem pe_sortLen {e : Expr} {te : TE} {p r pos kpos : Pos} (hu : X.A.units + 10 < cLine) (hg : Gl X "sorted") (hm : X.mg "sorted" = none) (hg2 : Gl X "len") (hm2 : X.mg "len" = none) (he : PE X e te)
    (hs : starEach [e] X.env = (false, eval e X.env) :: starEach [] X.env := by rfl) :
    PE X (.Call (.Name "sorted" p) [e] [⟨some "key", .Name "len" r, kpos⟩] pos) (tSortLen X.K te) := by
  refine ⟨fun pins s σ H Q I h => ?_⟩
  refine wpAny_Call_Name_kw (ld_blt I hg hm (by decide +kernel : bootBuiltins "sorted" = some (.builtin "sorted")) ?_)
  refine PyProof.Rows.callWith_kw (args_cons (thn (he.run pins s σ H _ I h) fun v s1 hv => args_nil ?_) hs) (by rw [hs]; rfl) (by rw [hs]; rfl) (by rfl) (by rfl)
  obtain ⟨x, H1, I1, r1, a, ks, rfl, ha, hk, hz, q⟩ := hv
  obtain rfl : v = .ref a := r1
  show wpAny _ _ (evalAll ((do let v ← eval (.Name "len" r) X.env; standAt pos; pure v) :: [])) _ _ s1
  refine wpAny_evalAll_cons (wpAny_bind (ld_blt I1 hg2 hm2 PySem.boot_len (wpAny_bind (wpAny_standAt (wpAny_pure (wpAny_evalAll_nil ?_))))))
  show wpAny _ _ (call (.builtin "sorted") [.ref a] [(Str.ofString "key", .builtin "len")]) _ _ s1
  obtain ⟨its, rv, hl, _⟩ := I1.list ha
  have eR := strs_each (by simpa using rv.strs : StrsAre its ks)
  refine PySem.W.sorted_key_data (b := false) (fun x : Str => PyData.int (x.length : Nat)) hl.isList eR (PySem.W.AllAlike.of fun _ _ => by simp [PySem.W.alike]) (.inr fun d hd => ?_) (by rw [sizeLine_eq]; omega) (fun x _ => ?_) (ksk_s1 _ _) (fun _ => ksk_l1 _ _) (fun _ => rfl) (fun v x hR hx h tk kp => ?_) fun out c h' tk k0 n0 n1 hlen hout => ?_
  · obtain ⟨x, _, rfl⟩ := List.mem_map.mp hd
    exact ⟨(nomatch ·), fun _ => (nomatch ·)⟩
  · show X.A.units + 2 + _ < cLine
    have : (PyData.int (x.length : Nat)).depth ≤ 2 := by simp [PyData.depth]
    omega
  · obtain ⟨t, rfl⟩ := hR
    have hx' := hz x hx
    rw [sizeLine_eq] at hx'
    refine P.len_str (by omega) ?_
    exact ⟨h, _, rfl, fun _ _ z => z, .int _ _⟩
  · have hml : (byLen ks).length = ks.length := List.length_mergeSort ks
    have hbl : ((byLen ks).map V.str).length ≤ sizeLine := by rw [List.length_map, hml, sizeLine_eq]; omega
    have hn : H1 (s1.heap.objs.size + 1) = none := I1.hok.fresh (Nat.le_succ _)
    exact ⟨.ref _, upd H1 (s1.heap.objs.size + 1) (.lst ((byLen ks).map V.str)), I1.laidN (t' := tk) k0 n0 hn ⟨hbl, out, c, vals_each hout, n1⟩, rfl, q _ hn⟩
end
end FM
-- FmStrs
set_option maxRecDepth 100000
set_option maxHeartbeats 1000000
/-! lists of texts compared; sorted texts of one set are one list -/
namespace FM
open PySem PySem.Spec PySem.SeqAt PyProof.Rows L2
section
variable {A : Around} {s : Shared}
theorem strs_get : ∀ {its : List Value} {ks : List Str}, StrsAre its ks → ∀ j (h : j < its.length) (h' : j < ks.length), ∃ t, its[j] = .str ks[j] t
  | _, _, .cons y t _, 0, _, _ => ⟨t, rfl⟩
  | _, _, .cons y t r, j + 1, h, h' => strs_get r j (Nat.lt_of_succ_lt_succ h) (Nat.lt_of_succ_lt_succ h')
theorem all_same {as bs : List Str} (hl : as.length = bs.length) : (List.range as.length).all (fun j => as.getD j "" == bs.getD j "") = decide (as = bs) := by
  rw [Bool.eq_iff_iff, decide_eq_true_iff, List.all_eq_true]
  constructor
  · intro h
    refine List.ext_getElem hl fun j h1 h2 => ?_
    have q := h j (List.mem_range.mpr h1)
    rw [beq_iff_eq, List.getD_eq_getElem?_getD, List.getD_eq_getElem?_getD, List.getElem?_eq_getElem h1, List.getElem?_eq_getElem h2] at q
    exact q
  · rintro rfl j _
    exact beq_self_eq_true _
theorem str_pairs {xs ys : Array Value} {as bs : List Str} (h1 : StrsAre xs.toList as) (h2 : StrsAre ys.toList bs) (hx : xs.size = as.length) (hy : ys.size = bs.length) :
    ∀ j (q1 : j < xs.size) (q2 : j < ys.size), EqAt A s xs[j] ys[j] (as.getD j "" == bs.getD j "") := fun j q1 q2 => by
  obtain ⟨t, e1⟩ := strs_get h1 j (by simpa using q1) (by omega)
  obtain ⟨u, e2⟩ := strs_get h2 j (by simpa using q2) (by omega)
  rw [Array.getElem_toList] at e1 e2
  rw [e1, e2, List.getD_eq_getElem?_getD, List.getD_eq_getElem?_getD, List.getElem?_eq_getElem (by omega : j < as.length), List.getElem?_eq_getElem (by omega : j < bs.length)]
  exact EqAt.str_str _ t _ u
end
section
variable {X : Cx}
def rEqS (K : PySem.W.Frag) : R2 := fun x y H Q => ∃ (p q : Addr) (as bs : List Str), x = .ref p ∧ y = .ref q ∧ SqL K H p (as.map V.str) ∧ SqL K H q (bs.map V.str) ∧ Q (.bl (decide (as = bs))) H
def rNeS (K : PySem.W.Frag) : R2 := fun x y H Q => ∃ (p q : Addr) (as bs : List Str), x = .ref p ∧ y = .ref q ∧ SqL K H p (as.map V.str) ∧ SqL K H q (bs.map V.str) ∧ Q (.bl (!decide (as = bs))) H
theorem op_eqS (hu : X.A.units + 64 < cLine) : OpR X (compareOp .Eq) (rEqS X.K) := by
  intro pins s σ H x y v u Q I rx ry h
  obtain ⟨p, q, as, bs, rfl, rfl, h1, h2, k⟩ := h
  obtain rfl : v = .ref p := rx
  obtain rfl : u = .ref q := ry
  obtain ⟨xs, v1, l1, _⟩ := I.list h1
  obtain ⟨ys, v2, l2, _⟩ := I.list h2
  have s1 : StrsAre xs as := by simpa using v1.strs
  have s2 : StrsAre ys bs := by simpa using v2.strs
  have n1 : xs.length = as.length := by have := v1.length; simpa using this.symm
  have n2 : ys.length = bs.length := by have := v2.length; simpa using this.symm
  have hb : RcAt X.A s (.ref p) (.ref q) (decide (as = bs)) := by
    by_cases hl : as.length = bs.length
    · have z := RcAt.lists (s := s) l1.isList l2.isList (by simp only [List.size_toArray]; omega) (show X.A.units < cLine by omega) (str_pairs (A := X.A.in1) (s := s) (as := as) (bs := bs) (by simpa using s1) (by simpa using s2) (by simpa using n1) (by simpa using n2))
      rw [List.size_toArray, n1, all_same hl] at z
      exact z
    · have e : decide (as = bs) = false := decide_eq_false fun e => hl (by rw [e])
      rw [e]
      exact RcAt.lists_lengths l1.isList l2.isList (by simp only [List.size_toArray, bne_iff_ne, ne_eq]; omega) (by omega)
  exact hb _ _ _ _ ⟨.bl _, H, I, rfl, k⟩
theorem op_neS (hu : X.A.units + 64 < cLine) : OpR X (compareOp .NotEq) (rNeS X.K) := by
  intro pins s σ H x y v u Q I rx ry h
  obtain ⟨p, q, as, bs, rfl, rfl, h1, h2, k⟩ := h
  obtain rfl : v = .ref p := rx
  obtain rfl : u = .ref q := ry
  obtain ⟨xs, v1, l1, _⟩ := I.list h1
  obtain ⟨ys, v2, l2, _⟩ := I.list h2
  have s1 : StrsAre xs as := by simpa using v1.strs
  have s2 : StrsAre ys bs := by simpa using v2.strs
  have n1 : xs.length = as.length := by have := v1.length; simpa using this.symm
  have n2 : ys.length = bs.length := by have := v2.length; simpa using this.symm
  have hb : RcNeAt X.A s (.ref p) (.ref q) (!decide (as = bs)) := by
    by_cases hl : as.length = bs.length
    · have z := RcNeAt.lists (s := s) l1.isList l2.isList (by simp only [List.size_toArray]; omega) (show X.A.units < cLine by omega) (str_pairs (A := X.A.in1) (s := s) (as := as) (bs := bs) (by simpa using s1) (by simpa using s2) (by simpa using n1) (by simpa using n2))
      rw [List.size_toArray, n1, all_same hl] at z
      exact z
    · have e : decide (as = bs) = false := decide_eq_false fun e => hl (by rw [e])
      rw [e]
      exact RcNeAt.lists_lengths l1.isList l2.isList (by simp only [List.size_toArray, bne_iff_ne, ne_eq]; omega) (by omega)
  exact hb _ _ _ _ ⟨.bl _, H, I, rfl, k⟩
end
/-! texts in order -/
abbrev leS (a b : Str) : Prop := a.cps.toList ≤ b.cps.toList
theorem leS_of {a b : Str} (h : (!ltCps b.cps.toList a.cps.toList) = true) : leS a b := by
  rw [ltCps_eq] at h
  have h2 : ¬ b.cps.toList < a.cps.toList := by simpa using h
  exact List.not_lt.mp h2
theorem pw_rising : ∀ (l : List Str) (p : Str), risingS p l = true → (p :: l).Pairwise leS
  | [], p, _ => List.pairwise_singleton _ _
  | x :: r, p, h => by
    have h' : (!ltCps x.cps.toList p.cps.toList && risingS x r) = true := h
    rw [Bool.and_eq_true] at h'
    have h1 := leS_of h'.1
    have h2 := pw_rising r x h'.2
    refine List.pairwise_cons.mpr ⟨fun y hy => ?_, h2⟩
    rcases List.mem_cons.mp hy with e | e
    · rw [e]; exact h1
    · exact List.le_trans h1 ((List.pairwise_cons.mp h2).1 y e)
theorem pw_sorted : ∀ l : List Str, sortedS l = true → l.Pairwise leS
  | [], _ => List.Pairwise.nil
  | x :: r, h => pw_rising r x h
theorem leS_anti {a b : Str} (h : leS a b) (k : leS b a) : a = b := by
  have e := List.le_antisymm h k
  cases a with | mk ca => cases b with | mk cb =>
  simpa using e
theorem sorted_one {ks l : List Str} (h1 : sortedS ks = true) (d1 : ks.Nodup) (h2 : sortedS l = true) (d2 : l.Nodup) (m : ∀ k, k ∈ ks ↔ k ∈ l) : ks = l :=
  List.Perm.eq_of_pairwise (le := leS) (fun a b _ _ => leS_anti) (pw_sorted ks h1) (pw_sorted l h2) ((List.perm_ext_iff_of_nodup d1 d2).mpr m)
end FM
-- FmMisc
set_option maxRecDepth 100000
set_option maxHeartbeats 1000000
/-! a tuple == (), a list in a tuple of texts, a text times a number -/
namespace FM
open PySem PySem.Spec PyProof.Rows L2 PySem.SeqAt
section
variable {X : Cx}
def rEqNil (K : PySem.W.Frag) : R2 := fun x y H Q => ∃ (p q : Addr) (xs : List V), x = .ref p ∧ y = .ref q ∧ SqT K H p xs ∧ SqT K H q [] ∧ Q (.bl xs.isEmpty) H
theorem op_eqNilT (hu : X.A.units + 64 < cLine) : OpR X (compareOp .Eq) (rEqNil X.K) := by
  intro pins s σ H x y v u Q I rx ry h
  obtain ⟨p, q, xs, rfl, rfl, h1, h2, k⟩ := h
  obtain rfl : v = .ref p := rx
  obtain rfl : u = .ref q := ry
  obtain ⟨us, v1, l1, _⟩ := I.tuple h1
  obtain ⟨vs, v2, l2, _⟩ := I.tuple h2
  have n2 : vs = [] := by cases v2; rfl
  subst n2
  have z := RcAt.tuples (A := X.A) (s := s) (e := fun _ => true) (show s.heap.IsTuple p us.toArray from l1) (show s.heap.IsTuple q #[] from l2) (by omega) (fun j a b => absurd b (Nat.not_lt_zero _))
  have e : ((List.range (min us.toArray.size (#[] : Array Value).size)).all (fun _ => true) && us.toArray.size == (#[] : Array Value).size) = xs.isEmpty := by
    cases v1 <;> rfl
  rw [e] at z
  exact z _ _ _ _ ⟨.bl _, H, I, rfl, k⟩
/-- a list is none of some texts -/
def rInT0 (K : PySem.W.Frag) : R2 := fun x y H Q => ∃ (p q : Addr) (xs : List V) (ks : List Str), x = .ref p ∧ y = .ref q ∧ SqL K H p xs ∧ SqT K H q (ks.map V.str) ∧ Q (.bl false) H
theorem op_inT0 (hu : X.A.units + 64 < cLine) : OpR X (compareOp .In) (rInT0 X.K) := by
  intro pins s σ H x y v u Q I rx ry h
  obtain ⟨p, q, xs, ks, rfl, rfl, h1, h2, k⟩ := h
  obtain rfl : v = .ref p := rx
  obtain rfl : u = .ref q := ry
  obtain ⟨us, v1, l1, _⟩ := I.list h1
  obtain ⟨vs, v2, l2, _⟩ := I.tuple h2
  have sv : StrsAre vs ks := by simpa using v2.strs
  refine SeqAt.in_tupleAt (fun _ => false) (show s.heap.IsTuple q vs.toArray from l2) (fun w hw => ?_) ⟨.bl _, H, I, rfl, ?_⟩
  · have hw' : w ∈ vs := by simpa using hw
    obtain ⟨b, t, rfl⟩ : ∃ b t, w = .str b t := by
      obtain ⟨j, hj, e⟩ := List.getElem_of_mem hw'
      have : j < ks.length := by
        have := v2.length
        simp at this
        omega
      obtain ⟨t, e2⟩ := strs_get sv j hj this
      exact ⟨_, t, by rw [← e, e2]⟩
    exact EqAt.str_list b t l1.isList (by show X.A.units + 1 < cLine; omega)
  · have e : vs.toArray.any (fun _ => false) = false := by simp
    rw [e]
    exact k
/-- a text so many times -/
def repS (z : Str) (n : Nat) : Str := if n = 0 then Str.empty else if (n == 1 || z.length == 0) = true then z else ⟨(List.replicate n z.cps).foldl (· ++ ·) #[]⟩
theorem foldl_cps (l : List (Array Nat)) : ∀ a : Array Nat, (l.foldl (· ++ ·) a).toList = a.toList ++ (l.map Array.toList).flatten := by
  induction l with
  | nil => intro a; simp
  | cons x r ih =>
    intro a
    rw [List.foldl_cons, ih]
    simp
theorem repS_cps (z : Str) (n : Nat) : (repS z n).cps.toList = (List.replicate n z.cps.toList).flatten := by
  unfold repS
  by_cases h0 : n = 0
  · subst h0
    rfl
  · rw [if_neg h0]
    by_cases h1 : (n == 1 || z.length == 0) = true
    · rw [if_pos h1]
      rw [Bool.or_eq_true] at h1
      rcases h1 with h1 | h1
      · have : n = 1 := by simpa using h1
        subst this
        simp
      · have e : z.cps.toList = [] := by
          have : z.length = 0 := by simpa using h1
          have l : z.cps.toList.length = 0 := by simpa [Str.length] using this
          exact List.length_eq_zero_iff.mp l
        rw [e]
        simp
    · rw [if_neg h1]
      show ((List.replicate n z.cps).foldl (· ++ ·) #[]).toList = _
      rw [foldl_cps]
      simp
theorem repS_length (z : Str) (n : Nat) : (repS z n).length = n * z.length := by
  have e : (repS z n).length = (repS z n).cps.toList.length := by simp [Str.length]
  rw [e, repS_cps]
  simp [Str.length]
theorem op_repS : OpR X (binaryOp .Mult) (fun x y H Q => ∃ (z : Str) (n : Nat), x = .str z ∧ y = .int (n : Nat) ∧ z.length ≤ 1000 ∧ n ≤ 1000 ∧ Q (.str (repS z n)) H) := by
  intro pins s σ H x y v u Q I rx ry h
  obtain ⟨z, n, rfl, rfl, hz, hn, k⟩ := h
  obtain ⟨t, rfl⟩ := rx
  obtain ⟨t', rfl⟩ := ry
  have hb : z.length * n ≤ 1000000 := Nat.mul_le_mul hz hn
  refine P.mul_str ?_ (fun h1 _ => ?_) (fun _ _ => ?_) ?_
  · have h1 : ¬ ((n : Int) < -(2 ^ 63)) := by omega
    have h2 : ¬ ((n : Int) ≥ 2 ^ 63) := by omega
    rw [decide_eq_false h1, decide_eq_false h2]
    rfl
  · have hd : (1000 : Int) ≤ (2 ^ 63 - 1) / (n : Int) := by
      refine (Int.le_ediv_iff_mul_le (by omega)).mpr ?_
      omega
    omega
  · have : Builtin.Str.tooLong (z.length * (n : Int).toNat) = false := by
      rw [Int.toNat_natCast]
      unfold Builtin.Str.tooLong
      first
        | exact decide_eq_false (by rw [sizeLine_eq]; omega)
        | (simp; omega)
    exact this
  · unfold repS at k
    have fin : ∀ y : Str, y.length ≤ 1000000 → Q (.str y) H → (Made.str y).post (EP X pins σ Q) s := fun y hy q =>
      ⟨by rw [sizeLine_eq]; omega, .str y, H, I.tok _, ⟨_, rfl⟩, q⟩
    have hlen : (repS z n).length ≤ 1000000 := by rw [repS_length, Nat.mul_comm]; exact hb
    unfold repS at hlen
    by_cases h0 : n = 0
    · subst h0
      rw [if_pos (by decide)]
      rw [if_pos rfl] at k
      exact fin _ (by decide) k
    · rw [if_neg (by omega)]
      rw [if_neg h0] at hlen
      rw [if_neg h0] at k
      have e1 : (((n : Nat) : Int) == 1 || z.length == 0) = (n == 1 || z.length == 0) := by
        have : (((n : Nat) : Int) == 1) = (n == 1) := by
          rw [Bool.eq_iff_iff]
          simp
          omega
        rw [this]
      rw [e1]
      by_cases h1 : (n == 1 || z.length == 0) = true
      · rw [if_pos h1] at k ⊢
        exact ⟨.str z, H, I, ⟨_, rfl⟩, k⟩
      · rw [if_neg h1] at k ⊢
        rw [if_neg h1] at hlen
        rw [Int.toNat_natCast]
        exact fin _ hlen k
end
end FM
-- FmBits
set_option maxRecDepth 100000
set_option maxHeartbeats 1000000
/-! shifts and the last bit, of whole numbers from 0 on -/
namespace FM
open PySem PySem.Spec PyProof.Rows L2
section
variable {X : Cx}
theorem op_shrNN : OpR X (binaryOp .RShift) (fun x y H Q => ∃ n k : Nat, x = .int (n : Nat) ∧ y = .int (k : Nat) ∧ Q (.int ((n / 2 ^ k : Nat))) H) := by
  intro pins s σ H x y v u Q I rx ry h
  obtain ⟨n, k, rfl, rfl, q⟩ := h
  refine op_shrN pins s σ H _ _ v u Q I rx ry ⟨_, k, rfl, rfl, ?_⟩
  have e : ((n : Nat) : Int) / 2 ^ k = ((n / 2 ^ k : Nat) : Int) := by
    rw [Int.natCast_ediv, Int.natCast_pow]
    rfl
  rw [e]
  exact q
theorem op_shlNN : OpR X (binaryOp .LShift) (fun x y H Q => ∃ k : Nat, x = .int 1 ∧ y = .int (k : Nat) ∧ k ≤ 1000 ∧ Q (.int ((2 ^ k : Nat))) H) := by
  intro pins s σ H x y v u Q I rx ry h
  obtain ⟨k, rfl, rfl, hk, q⟩ := h
  refine op_oneShl pins s σ H _ _ v u Q I rx ry ⟨k, rfl, rfl, by omega, ?_⟩
  have e : (2 : Int) ^ k = ((2 ^ k : Nat) : Int) := by
    rw [Int.natCast_pow]
    rfl
  rw [e]
  exact q
end
end FM
-- FmEnumT
set_option maxRecDepth 100000
set_option maxHeartbeats 1000000
/-! enumerate(a tuple): the library has lists and texts -/
namespace FM
open PySem PySem.Spec PyProof.Rows L2
/-- the object that enumerate(v) lays behind the walker at w0 -/
abbrev enumObj (w0 : Addr) : Obj := { cls := .type "enumerate", data := .fields #[.none, .bool false, .ref w0, rawInt 0, .none, .none] }
abbrev tupObj (t : Addr) : Obj := { cls := .type "tuple_iterator", data := .fields #[.ref t, .int 0 0] }
theorem meets_enum1 {v : Value} {o : Obj} {Hs : Heap → Prop} (bg : Begins v o Hs) :
    Meets (Builtin.«enumerate.__new__» ⟨[.type "enumerate", v], []⟩)
      (fun _ Res st => Hs st.heap ∧ Res (.ok (.ret (.ref (st.heap.push o).objs.size))) { st with heap := (st.heap.push o).push (enumObj st.heap.objs.size) }) := by
  unfold enumObj
  refine Meets.of_wp fun pr wd ar Res st ⟨hs0, hres⟩ => ?_
  rcases st with ⟨hh, gg, dd, kk, oo⟩
  have subE := sub_enumerate
  have walker : ∀ {ar' : Around} {Er Qr : Value → Shared → Prop}, Qr (.ref hh.objs.size) ⟨hh.push o, gg, dd, kk, oo⟩ → wpAny (model pr wd) ar' (pyIter v) Qr Er ⟨hh, gg, dd, kk, oo⟩ := fun z =>
    bg.iter pr wd _ _ ⟨hh, gg, dd, kk, oo⟩ _ hs0 z
  wp_walk using walker
  refine wpAny_stack_any fun _ => (wpAny_pure ?_)
  split
  · rename_i cl _ _ _ _ _
    by_cases hcl : (cl == Value.type "enumerate") = true
    · rw [hcl]
      wp_walk using walker
      exact ⟨_, rfl, hres⟩
    · rw [Bool.not_eq_true] at hcl
      rw [hcl]
      wp_walk using walker
      exact ⟨_, rfl, hres⟩
  · wp_walk using walker
    exact ⟨_, rfl, hres⟩
theorem call_enum_tup {pr : Program} {wd : World} {ar : Around} {Er Qr : Value → Shared → Prop} {st : Shared} {t : Addr} {items : Array Value} (ht : st.heap.IsTuple t items)
    (next : ∀ h', IsEnum h' (st.heap.objs.size + 1) st.heap.objs.size 0 .none → h'.IsTupleIter st.heap.objs.size t 0 → h'.objs.size = st.heap.objs.size + 2 →
      (∀ q oq, st.heap.get? q = some oq → h'.get? q = some oq) → Qr (.ref (st.heap.objs.size + 1)) { st with heap := h' }) :
    wpAny (model pr wd) ar (call (.type "enumerate") [.ref t]) Qr Er st := by
  have grown : (st.heap.push (tupObj t)).objs.size = st.heap.objs.size + 1 := Heap.size_push ..
  have there : IsEnum ((st.heap.push (tupObj t)).push (enumObj st.heap.objs.size)) (st.heap.objs.size + 1) st.heap.objs.size 0 .none := by
    have z := Heap.get?_push_size (st.heap.push (tupObj t)) (o := enumObj st.heap.objs.size) rfl
    rw [grown] at z
    exact z
  have first : ((st.heap.push (tupObj t)).push (enumObj st.heap.objs.size)).IsTupleIter st.heap.objs.size t 0 := ⟨_, Heap.get?_push_of_some _ (Heap.get?_push_size _ rfl), rfl, rfl⟩
  have two : ((st.heap.push (tupObj t)).push (enumObj st.heap.objs.size)).objs.size = st.heap.objs.size + 2 := by rw [Heap.size_push, grown]
  refine callType_new F.called_enumerate (by decide) (F.typeCall_enumerate_1 _) (F.newCall_enumerate_1 _) (fun _ => F.args_object_init_2 _ _)
    F.entry_enumerate_new (meets_enum1 (begins_tuple t items)) ⟨ht, ?_⟩
  show _ ∧ Qr (.ref (st.heap.push (tupObj t)).objs.size) _
  rw [grown]
  exact ⟨⟨_, there, rfl⟩, next _ there first two fun _ _ z => Heap.get?_push_of_some _ (Heap.get?_push_of_some _ z)⟩
/-- the tuple at a, each item in a new pair -/
def IteT (K : PySem.W.Frag) (a : Addr) : It where
  go i H := ∃ (xs : List V) (x : V), SqT K H a xs ∧ xs[i]? = some x
  yld i H v H' := ∃ T x, v = .ref T ∧ H T = none ∧ H' = upd H T (.tup [.int (i : Nat), x]) ∧ ∀ xs, SqT K H a xs → xs[i]? = some x
  stop i H := ∃ xs : List V, SqT K H a xs ∧ xs.length ≤ i
theorem is_tuple {h : Heap} {a : Addr} {items : Array Value} (p : IsTup h a items) : h.IsTuple a items := p
theorem apart_cls {h : Heap} {a b : Addr} {o u : Obj} {c d : String} (h1 : h.get? a = some o) (h2 : o.cls = .type c) (h3 : h.get? b = some u) (h4 : u.cls = .type d) (ne : c ≠ d) : a ≠ b := fun e => by
  subst e
  rw [h1] at h3
  cases h3
  rw [h2] at h4
  cases h4
  exact ne rfl
/-- how the pair of objects stands ahead of item i -/
def EnSt (en wk a : Addr) (i : Nat) (h : Heap) : Prop := (∃ old, IsEnum h en wk ((i : Nat) : Int) old) ∧ h.IsTupleIter wk a i ∧ en ≠ wk
theorem two_of {b x y : Addr} (h : b ∈ [x, y]) : b = x ∨ b = y := by
  rcases List.mem_cons.mp h with z | z
  · exact .inl z
  · exact .inr (List.mem_singleton.mp z)
theorem turn_enumT {P : Program} {w : World} {K : PySem.W.Frag} {elts : List Expr} {kk : Nat} {tpos : Pos} (a en wk : Addr) : Turn P w K (.Tuple elts kk tpos) (IteT K a) [en, wk] en (EnSt en wk a) where
  mem := List.mem_cons_self
  obj := fun i h ⟨⟨_, hen⟩, ⟨ow, how, _, hdw⟩, _⟩ b hb =>
    (two_of hb).elim (fun z => z ▸ ⟨_, hen, fun _ q => nomatch q⟩) (fun z => z ▸ ⟨ow, how, fun _ q => by
      rw [hdw] at q
      exact nomatch q⟩)
  keep := fun i h h' ⟨⟨old, hen⟩, hwk, ne⟩ k =>
    ⟨⟨old, k en List.mem_cons_self _ hen⟩, hwk.at fun _ q => k wk (List.mem_cons_of_mem _ List.mem_cons_self) _ q, ne⟩
  item := by
    intro X eP ew eK hc i pins st σ H E I hf ⟨⟨old, hen⟩, hwk, ne⟩ ⟨xs, x, hq, hx⟩
    subst eP ew eK
    obtain ⟨us, rel, isT, most⟩ := I.tuple hq
    obtain ⟨u, hu, ru⟩ := rel.get hx
    have isT := is_tuple isT
    obtain ⟨ot, hot, hct, _, _⟩ := id isT
    obtain ⟨ow, how, hcw, _⟩ := id hwk
    have ta : a ≠ wk := apart_cls hot hct how hcw (by decide)
    have tb : a ≠ en := apart_cls hot hct hen rfl (by decide)
    have le := Heap.lt_size hen
    have lw := Heap.lt_size how
    have lt : i < us.toArray.size := by
      obtain ⟨z, _⟩ := List.getElem?_eq_some_iff.mp hu
      simpa using z
    have D := Draws.tuple (prog := X.prog) (w := X.w) (A := X.A.in1) (I.ok.hd hc) wk a ta us.toArray
    refine wpAny_pyNext_enum_itemD D hen ⟨hwk, isT⟩ lt ne (by simp [ne, Ne.symm tb]) fun v h1 tk hv ho ⟨hwk1, _⟩ hT _ hk => ?_
    have same : v = u := by
      have z : us.toArray[i]? = some u := by simpa using hu
      exact Option.some.inj (hv.symm.trans z)
    subst same
    refine ⟨_, rfl, wpAny_letOwnedTupleGo_enum (s := { st with heap := h1, toks := tk + 1 }) ho fun h2 hen2 ⟨_, rest⟩ => ?_⟩
    have pair := (rest st.heap.objs.size (Nat.ne_of_gt le)).trans hT
    have laid : ObjOk X.prog X.w (upd H st.heap.objs.size (.tup [.int (i : Nat), x])) h2 st.heap.objs.size (.tup [.int (i : Nat), x]) := by
      refine ⟨?_, [.int i tk, v], .cons ⟨_, rfl⟩ (.cons ru .nil), _, pair, rfl, _, rfl⟩
      show 2 ≤ sizeLine
      decide
    have old2 : ∀ b ob, b ∉ [en, wk] → st.heap.get? b = some ob → h2.get? b = some ob := fun b ob nb q =>
      have b1 : b ≠ en := fun z => nb (z ▸ List.mem_cons_self)
      have b2 : b ≠ wk := fun z => nb (z ▸ List.mem_cons_of_mem _ List.mem_cons_self)
      (rest b b1).trans (hk b ob b1 b2 q)
    refine ⟨.ref st.heap.objs.size, _, I.turnedNew (ch := [en, wk]) old2 hf (Nat.le_refl _) laid, rfl, ⟨_, x, rfl, I.hok.fresh (Nat.le_refl _), rfl, fun ys hy => ?_⟩, ⟨⟨v, ?_⟩, hwk1.at fun _ q => (rest wk (Ne.symm ne)).trans q, ne⟩, fun b hb => ?_⟩
    · rw [I.tuple_inj hy hq]
      exact hx
    · rw [show ((i + 1 : Nat) : Int) = ((i : Nat) : Int) + 1 by omega]
      exact hen2
    · have far : b ≠ st.heap.objs.size := Nat.ne_of_lt ((two_of hb).elim (fun z => z ▸ le) fun z => z ▸ lw)
      rw [upd_ne far]
      exact (hf b hb).1
  done := by
    intro X eP ew eK hc i pins st σ H E I hf ⟨⟨old, hen⟩, hwk, ne⟩ ⟨xs, hq, hx⟩
    subst eP ew eK
    obtain ⟨us, rel, isT, most⟩ := I.tuple hq
    have ln := rel.length
    have isE : st.TypeIs (.ref en) "enumerate" := ⟨_, hen, rfl⟩
    obtain ⟨g0, g1, _, g3, g4, g5⟩ := hf wk (List.mem_cons_of_mem _ List.mem_cons_self)
    have last : us.toArray[i]? = none := Array.getElem?_eq_none (by
      rw [List.size_toArray]
      omega)
    unfold pyNext
    refine wpAny_bind (wpAny_attempt ?_)
    refine wpAny_callSpecial?_slot (name := Str.ofString "__next__") isE F.slot_enumerate_next ?_
    refine wpAny_call_entry F.slot_enumerate_next isE F.entry_enumerate_next ?_ (F.args_enumerate_next_1 _)
    show wpAny _ _ (field (.ref en) 2 >>= _) _ _ _
    refine wpAny_bind (wpAny_field hen rfl (x := .ref wk) rfl (wpAny_bind ?_))
    refine wpAny_nextOf_tuple_end (I.ok.hd hc) hwk (is_tuple isT) last fun h1 ex k1 ⟨oe, hoe, hce⟩ => ?_
    refine wpAny_bind (wpAny_isInstance (T := "StopIteration") (b := true) ⟨oe, hoe, hce⟩ isSubtype_stop (wpAny_pure ⟨rfl, ?_⟩))
    exact I.turned (t' := st.toks) (fun b ob nb q => k1 b ob nb q) g0 g1 g3 g4 g5
  self := fun _ _ _ _ _ ⟨⟨_, hen⟩, _⟩ q => wpAny_pyIter_enum hen q
def iEnumT (K : PySem.W.Frag) (ta : TA) : TI := fun σ H R => ta σ H fun vs H1 => ∃ a xs, vs = [.ref a] ∧ SqT K H1 a xs ∧ R (IteT K a) H1
theorem pi_enumT {X : Cx} {e : Expr} {ta : TA} {p pos tpos : Pos} {elts : List Expr} {kk : Nat} (hg : Gl X "enumerate") (hm : X.mg "enumerate" = none) (ha : PA X [e] ta) (hs : starEach [e] X.env = [(false, eval e X.env)] := by rfl) :
    PI X (.Tuple elts kk tpos) (.Call (.Name "enumerate" p) [e] [] pos) (iEnumT X.K ta) := by
  constructor
  intro pins st σ H R I go
  have body := ha.run pos pins st σ H _ I go
  refine Call_ (ld_blt I hg hm boot_enumerate (PyProof.Rows.callWith_type1 (thn body ?_) hs rfl))
  rintro us s1 ⟨vs, H1, I1, rel, a, xs, rfl, hq, q⟩
  obtain ⟨u, rfl, r⟩ : ∃ u, us = [u] ∧ RelV (.ref a) u := by
    cases rel with
    | cons r rest =>
      cases rest
      exact ⟨_, rfl, r⟩
  cases r
  obtain ⟨its, _, isT, _⟩ := I1.tuple hq
  refine call_enum_tup (is_tuple isT) fun h' hen hwk _ hk => wpAny_pyIter_enum hen ?_
  have I2 : Inv X pins σ H1 { s1 with heap := h' } := I1.kept (t' := s1.toks) hk
  refine ⟨s1.heap.objs.size + 1, [s1.heap.objs.size + 1, s1.heap.objs.size], _, _, H1, rfl, I2, turn_enumT a _ _, ⟨⟨.none, hen⟩, hwk, Nat.succ_ne_self _⟩, fun b hb => ?_, q⟩
  have new : s1.heap.objs.size ≤ b := (two_of hb).elim (fun z => z ▸ Nat.le_succ _) fun z => z ▸ Nat.le_refl _
  exact I1.fpOk new (I1.hok.fresh new)
/-- a for over enumerate(a tuple) -/
theorem for_enumT {K : PySem.W.Frag} {a : Addr} {xs : List V} {g : TG} {tb : TS} {D : Ends} {σ : L2.St} {H : Hp} (Pv : Nat → L2.St → Hp → Prop) (h0 : Pv 0 σ H) (hl : ∀ i σ H, Pv i σ H → SqT K H a xs)
    (hs : ∀ i x σ H T, xs[i]? = some x → Pv i σ H → H T = none → g (.ref T) σ (upd H T (.tup [.int (i : Nat), x])) fun σ2 H2 => tb { D with nx := Pv (i + 1), ct := Pv (i + 1), bk := D.nx } σ2 H2)
    (hd : ∀ σ H, Pv xs.length σ H → D.nx σ H) :
    ∃ Wv : Nat → Nat → L2.St → Hp → Prop, (∃ m, Wv 0 m σ H) ∧ ∀ i m σ H, Wv i m σ H →
      ((IteT K a).stop i H ∧ D.nx σ H) ∨ ((IteT K a).go i H ∧ ∃ N : L2.St → Hp → Prop, (∀ σ' H', N σ' H' → ∃ m', m' < m ∧ Wv (i + 1) m' σ' H') ∧
        ∀ x H', (IteT K a).yld i H x H' → g x σ H' fun σ2 H2 => tb { D with nx := N, ct := N, bk := D.nx } σ2 H2) := by
  refine ⟨fun i m σ H => m = xs.length - i ∧ i ≤ xs.length ∧ Pv i σ H, ⟨_, rfl, Nat.zero_le _, h0⟩, ?_⟩
  rintro i m σ H ⟨rfl, hi, p⟩
  have q := hl i σ H p
  rcases Nat.lt_or_ge i xs.length with lt | ge
  · refine .inr ⟨⟨xs, xs[i], q, List.getElem?_eq_getElem lt⟩, Pv (i + 1), fun _ _ p' => ⟨xs.length - (i + 1), by omega, rfl, lt, p'⟩, ?_⟩
    rintro _ _ ⟨T, z, rfl, nT, rfl, hz⟩
    exact hs i z σ H T (hz xs q) p nT
  · obtain rfl : i = xs.length := Nat.le_antisymm hi ge
    exact .inl ⟨⟨xs, q, ge⟩, hd σ H p⟩
end FM
-- FmGen
set_option maxRecDepth 100000
set_option maxHeartbeats 1000000
/-! A generator def that is woken step by step by any consumer: C are the consumer's own objects. -/
namespace FM
open PySem PySem.Spec PyProof.Rows L2 GenW
/-- while it sleeps the consumer's own objects may change, nothing else does -/
structure Nap (C : List Addr) (s t : Shared) : Prop where
  os : t.os = s.os
  bare : AllBare t.gens
  keep : ∀ b o, b ∉ C → s.heap.get? b = some o → t.heap.get? b = some o
  own : ∀ b ∈ C, ∃ o, t.heap.get? b = some o ∧ ∀ v, o.data ≠ .cell v
/-- the consumer's objects are none of the frame's, and younger than the call -/
def Far (X : Cx) (C : List Addr) : Prop := ∀ b ∈ C, X.s_0.heap.objs.size ≤ b ∧ b ≠ X.env.locals ∧ ∀ x c, X.env.cells.lookup x = some c → c ≠ b
/-- what each row of items is, and from how many items on nobody asks for more -/
structure Gd where
  ok : List V → Hp → Prop
  lim : Nat
/-- it runs: the consumer's objects stand as in h0 -/
def Up (X : Cx) (C : List Addr) (h0 : Heap) (ip : List (Addr × Obj)) (σ : L2.St) (H : Hp) (s : Shared) : Prop :=
  (∀ b ∈ C, ∃ o, h0.get? b = some o ∧ ∀ v, o.data ≠ .cell v) ∧ Inv X (pinsAt C h0 ++ ip) σ H s
section
variable {X : Cx} {C : List Addr} {Good : Gd} {h0 : Heap} {ip : List (Addr × Obj)} {σ : L2.St} {H : Hp} {s t : Shared}
theorem Up.at (h : Up X C h0 ip σ H s) {b : Addr} (hb : b ∈ C) : ∃ o, h0.get? b = some o ∧ s.heap.get? b = some o ∧ H b = none ∧ b ≠ X.env.locals ∧ b ∉ X.fs ∧ ∀ v, o.data ≠ .cell v := by
  obtain ⟨o, e, d⟩ := h.1 b hb
  obtain ⟨q1, q2, q3, q4, q5⟩ := h.2.pin (b, o) (List.mem_append_right _ (List.mem_append_left _ (mem_pinsAt hb e)))
  exact ⟨o, e, q1, q2, q3, q4, q5⟩
theorem Up.own (h : Up X C h0 ip σ H s) : Inv X ip σ H s :=
  h.2.pins_of fun p hp => h.2.pin p (List.mem_append_right _ (List.mem_append_right _ hp))
theorem Up.woken (hpn : ∀ p ∈ X.pn, p.1 ∉ C) (hip : ∀ p ∈ ip, p.1 ∉ C) (hF : Far X C) (h : Up X C h0 ip σ H s) (z : Nap C s t) : Up X C t.heap ip σ H t := by
  have I0 := h.own
  have nt : ∀ b u, H b = some u → b ∉ C := fun b u q hb => by
    obtain ⟨o, _, _, n, _⟩ := h.at hb
    rw [q] at n
    cases n
  have fsC : ∀ b ∈ C, b ∉ X.fs := fun b hb => by
    obtain ⟨o, _, _, _, _, n, _⟩ := h.at hb
    exact n
  obtain ⟨z1, z2, z3, z4⟩ := z
  obtain ⟨hh, g, d, tk, o⟩ := t
  have ho : o = s.os := z1
  subst ho
  have nL : X.env.locals ∉ C := fun hb => (hF _ hb).2.1 rfl
  have J : Inv X ip σ H { s with heap := hh, gens := g, drawn := d, toks := tk } := by
    refine I0.step (ch := C) (fun b hb => ⟨.inr (hF b hb).1, (hF b hb).2.1, (hF b hb).2.2, fun p hp e => ?_⟩)
      (fun b ob _ _ hc q _ => z3 b ob hc q) (fun b ob _ _ hc q _ => ⟨ob.slots, z3 b ob hc q⟩) (fun _ _ _ _ n => n)
      (fun b ob hc q => ⟨ob, z3 b ob hc q⟩) (fun _ _ q => q) (fun _ _ _ q => q) (fun b ps q => ⟨#[], by rw [q]; simp⟩) (fun m hm => ?_) (fun b u q => ?_) z2
    · rcases List.mem_append.mp hp with hp | hp
      · exact hpn p hp (e ▸ hb)
      · exact hip p hp (e ▸ hb)
    · obtain ⟨ob, es, ep, ho, r⟩ := hm
      exact ⟨ob, es, ep, z3 _ ob nL ho, r⟩
    · refine (I0.hok b u q).stay (fun c v hc y => z3 c v ?_ y) (fun _ y => y) fun _ _ y => y
      rcases hc with y | y
      · rw [y]; exact nt b u q
      · exact nt c _ y
  refine ⟨z4, J.pins_of fun p hp => ?_⟩
  rcases List.mem_append.mp hp with hp | hp
  · obtain ⟨hb, e⟩ := of_pinsAt hp
    obtain ⟨o', e', dd⟩ := z4 p.1 hb
    have e2 : hh.get? p.1 = some o' := e'
    rw [e] at e2
    cases e2
    obtain ⟨_, _, _, n, n2, n3, _⟩ := h.at hb
    exact ⟨e, n, n2, n3, dd⟩
  · exact J.pin p (List.mem_append_right _ hp)
/-! ### the protocol -/
def NY (X : Cx) (C : List Addr) (Good : Gd) : Protocol := fun n s₀ v s kap =>
  ∃ ys x ip σ H, n + 1 + ys.length = sizeLine ∧ RelV x v ∧ Up X C s₀.heap ip σ H s ∧ Good.ok (ys ++ [x]) H ∧ (ys.length + 1 < Good.lim → ∀ t, Nap C s t → kap (.send .none) t)
def NSP (X : Cx) (C : List Addr) (s₀ : Shared) (ip : List (Addr × Obj)) (D : GEnds) (ys : List V) (f : Flow) (s : Shared) : Prop :=
  match f with
  | .next => ∃ σ H, Up X C s₀.heap ip σ H s ∧ D.nx ys σ H
  | .brk => ∃ σ H, Up X C s₀.heap ip σ H s ∧ D.bk ys σ H
  | .cont => ∃ σ H, Up X C s₀.heap ip σ H s ∧ D.ct ys σ H
  | .ret u => ∃ v σ H, Up X C s₀.heap ip σ H s ∧ RelV v u ∧ D.rt ys v H
/-- where its code stands -/
structure NC (X : Cx) (C : List Addr) (ip : List (Addr × Obj)) (A : Around) (c : Code) (fs : List Frame) (gd : Bool → Bool) : Prop where
  pn : ∀ p ∈ X.pn, p.1 ∉ C
  ip : ∀ p ∈ ip, p.1 ∉ C
  far : Far X C
  over : A.over c fs = X.A
  split : splitAtGen fs = none
  guard : fs.any Frame.guarded = false
  gd : gd false = false
/-- what follows -/
structure NK (X : Cx) (C : List Addr) (Good : Gd) (ip : List (Addr × Obj)) (A : Around) (R : GenEnd) (c : Code) (fs : List Frame) (K : Flow → Sem PySem.Fin) (J : Value → Sem PySem.Fin) (D : GEnds) : Prop where
  ok : ∀ (n : Nat) (ys : List V) (s₀ s : Shared) (f : Flow), n + ys.length = sizeLine → NSP X C s₀ ip D ys f s → Seg (model X.prog X.w) A R (NY X C Good) n s₀ c (K f) fs s
  exc : ∀ (n : Nat) (s₀ : Shared) (e : Value) (s : Shared), X.xe e s → Seg (model X.prog X.w) A R (NY X C Good) n s₀ c (J e) fs s
structure NS (X : Cx) (C : List Addr) (Good : Gd) (st : Stmt) (tg : TGn) : Prop where
  run : ∀ {A : Around} {ip : List (Addr × Obj)} {R : GenEnd} {n : Nat} {ys : List V} {s₀ : Shared} {c : Code} {fs : List Frame} {K : Flow → Sem PySem.Fin} {J : Value → Sem PySem.Fin} {gd : Bool → Bool} {lv : List Value → List Value} {s : Shared} {σ : L2.St} {H : Hp} {D : GEnds},
    NC X C ip A c fs gd → n + ys.length = sizeLine → NK X C Good ip A R c fs K J D → Up X C s₀.heap ip σ H s → tg D ys σ H →
    Seg (model X.prog X.w) A R (NY X C Good) n s₀ c ((exec st X.env).wrap K J gd lv) fs s
structure NSs (X : Cx) (C : List Addr) (Good : Gd) (st : List Stmt) (tg : TGn) : Prop where
  run : ∀ {A : Around} {ip : List (Addr × Obj)} {R : GenEnd} {n : Nat} {ys : List V} {s₀ : Shared} {c : Code} {fs : List Frame} {K : Flow → Sem PySem.Fin} {J : Value → Sem PySem.Fin} {gd : Bool → Bool} {lv : List Value → List Value} {s : Shared} {σ : L2.St} {H : Hp} {D : GEnds},
    NC X C ip A c fs gd → n + ys.length = sizeLine → NK X C Good ip A R c fs K J D → Up X C s₀.heap ip σ H s → tg D ys σ H →
    Seg (model X.prog X.w) A R (NY X C Good) n s₀ c ((execs st X.env).wrap K J gd lv) fs s
variable {st : Stmt} {rest : List Stmt}
theorem nsp_of {s₀ : Shared} {D : GEnds} {ys : List V} {f : Flow} (hc : ∀ b ∈ C, ∃ o, s₀.heap.get? b = some o ∧ ∀ v, o.data ≠ .cell v) (h : SP X (pinsAt C s₀.heap ++ ip) (D.at ys) f s) : NSP X C s₀ ip D ys f s := by
  cases f with
  | next => obtain ⟨σ, H, I, q⟩ := h; exact ⟨σ, H, ⟨hc, I⟩, q⟩
  | brk => obtain ⟨σ, H, I, q⟩ := h; exact ⟨σ, H, ⟨hc, I⟩, q⟩
  | cont => obtain ⟨σ, H, I, q⟩ := h; exact ⟨σ, H, ⟨hc, I⟩, q⟩
  | ret u => obtain ⟨v, σ, H, I, r, q⟩ := h; exact ⟨v, σ, H, ⟨hc, I⟩, r, q⟩
/-- a statement that hands out nothing -/
theorem ns_ps {ts : TS} (h : PS X st ts) : NS X C Good st (tPlain ts) := by
  refine ⟨fun {A ip R n ys s₀ c fs K J gd lv s σ H D} g hn k hI ht => ?_⟩
  obtain ⟨hc, I⟩ := hI
  refine seg_wrap ?_
  rw [g.over]
  exact wpAny_mono (h.run _ s σ H (D.at ys) I ht) (fun f t hs => k.ok n ys s₀ t f hn (nsp_of hc hs)) fun x t hx => k.exc n s₀ x t hx
theorem nss_pss {ts : TS} (h : PSs X rest ts) : NSs X C Good rest (tPlain ts) := by
  refine ⟨fun {A ip R n ys s₀ c fs K J gd lv s σ H D} g hn k hI ht => ?_⟩
  obtain ⟨hc, I⟩ := hI
  refine seg_wrap ?_
  rw [g.over]
  exact wpAny_mono (h.run _ s σ H (D.at ys) I ht) (fun f t hs => k.ok n ys s₀ t f hn (nsp_of hc hs)) fun x t hx => k.exc n s₀ x t hx
theorem nss_nil : NSs X C Good [] tG0 := by
  refine ⟨fun {A ip R n ys s₀ c fs K J gd lv s σ H D} g hn k hI ht => ?_⟩
  exact seg_execs_nil (k.ok n ys s₀ s .next hn ⟨σ, H, hI, ht⟩)
theorem nss_cons {tg u : TGn} (a : NS X C Good st tg) (b : NSs X C Good rest u) : NSs X C Good (st :: rest) (tGThen tg u) := by
  refine ⟨fun {A ip R n ys s₀ c fs K J gd lv s σ H D} g hn k hI ht => ?_⟩
  refine seg_execs_cons ?_
  refine a.run (D := { D with nx := fun ys' σ' H' => u D ys' σ' H' }) g hn ⟨fun n' ys' s₀' s' f hn' hs => ?_, k.exc⟩ hI ht
  cases f with
  | next =>
    obtain ⟨σ', H', I', q⟩ := hs
    exact b.run g hn' k I' q
  | brk => exact k.ok n' ys' s₀' s' .brk hn' hs
  | cont => exact k.ok n' ys' s₀' s' .cont hn' hs
  | ret u => exact k.ok n' ys' s₀' s' (.ret u) hn' hs
theorem nss_one {tg : TGn} (a : NS X C Good st tg) : NSs X C Good [st] (tGThen tg tG0) := nss_cons a nss_nil
/-! ### yield -/
def tNYield (Good : Gd) (te : TE) : TGn := fun D ys σ H => ys.length < sizeLine ∧ te σ H fun x H1 => Good.ok (ys ++ [x]) H1 ∧ (ys.length + 1 < Good.lim → D.nx (ys ++ [x]) σ H1)
theorem ns_yield {e : Expr} {yp pos : Pos} {te : TE} (he : PE X e te) (hco : X.env.scope.isCoroutine = false := by rfl) (hi : interactive X.env = false := by rfl) : NS X C Good (.Expr (.Yield (some e) yp) pos) (tNYield Good te) := by
  refine ⟨fun {A ip R n ys s₀ c fs K J gd lv s σ H D} g hn k hI ht => ?_⟩
  obtain ⟨hlt, ht⟩ := ht
  obtain ⟨n, rfl⟩ : ∃ m, n = m + 1 := ⟨n - 1, by omega⟩
  obtain ⟨hc, I⟩ := hI
  refine seg_Expr_Yield g.split g.gd g.guard ?_ hco hi
  rw [g.over]
  refine wpAny_mono (he.run _ s σ H _ I ht) (fun v t hv => ?_) fun x t hx => k.exc _ s₀ x t hx
  obtain ⟨x, H1, I1, rv, hG, q⟩ := hv
  intro kap hk
  have U1 : Up X C s₀.heap ip σ H1 t := ⟨hc, I1⟩
  refine ⟨ys, x, ip, σ, H1, hn, rv, U1, hG, fun lt t2 z => hk .none t2 ?_⟩
  refine k.ok n (ys ++ [x]) t2 t2 .next ?_ ⟨σ, H1, U1.woken g.pn g.ip g.far z, q lt⟩
  rw [List.length_append, List.length_singleton]
  omega
/-! ### if -/
def tNIf (c : TT) (ta tb : TGn) : TGn := fun D ys σ H => c σ H fun b H1 => if b = true then ta D ys σ H1 else tb D ys σ H1
theorem ns_if {test : Expr} {body orelse : List Stmt} {pos : Pos} {tc : TT} {ta tb : TGn} (hc : PT X test tc) (ha : NSs X C Good body ta) (hb : NSs X C Good orelse tb) : NS X C Good (.If test body orelse pos) (tNIf tc ta tb) := by
  refine ⟨fun {A ip R n ys s₀ c fs K J gd lv s σ H D} g hn k hI ht => ?_⟩
  rw [exec_If]
  refine seg_bind_wrap (wpAny_standAt ?_)
  obtain ⟨hcc, I⟩ := hI
  refine seg_bind_wrap ?_
  rw [g.over]
  refine wpAny_mono (hc.run _ s σ H _ I ht) (fun b t hv => ?_) fun x t hx => k.exc n s₀ x t hx
  obtain ⟨H2, I2, q⟩ := hv
  cases b with
  | true => exact ha.run g hn k ⟨hcc, I2⟩ q
  | false => exact hb.run g hn k ⟨hcc, I2⟩ q
/-! ### loops -/
theorem nc_loop {A : Around} {c c' : Code} {fs : List Frame} {gd : Bool → Bool} {k : Result → Sem PySem.Fin} {l kp : List Value} {p : Pos} {ip' : List (Addr × Obj)} (g : NC X C ip A c fs gd) (hi : ∀ q ∈ ip', q.1 ∉ C) (hw : c'.weight = 0) (hu : c'.cUnits = 0) :
    NC X C ip' A c' (.ret k none (gd false) l c p kp :: fs) id where
  pn := g.pn
  ip := hi
  far := g.far
  over := (over_loop hw hu).trans g.over
  split := by
    show Option.map _ (splitAtGen fs) = none
    rw [g.split]
    rfl
  guard := by
    show (_ || List.any fs Frame.guarded) = false
    rw [g.gd, g.guard]
    rfl
  gd := rfl
theorem seg_back {A : Around} {R : GenEnd} {c : Code} {fs : List Frame} {K : Flow → Sem PySem.Fin} {J : Value → Sem PySem.Fin} {gd : Bool → Bool} {lv : List Value → List Value} {D : GEnds} {n : Nat} {s₀ : Shared} {e : Value}
    (g : NC X C ip A c fs gd) (k : NK X C Good ip A R c fs K J D) (h : cameBackBy (model X.prog X.w) X.A X.env X.xe e s) :
    Seg (model X.prog X.w) A R (NY X C Good) n s₀ c (((Sem.raise e : Sem Flow).onRaise (cameBack X.env)).wrap K J gd lv) fs s := by
  have e1 : (Sem.raise e : Sem Flow).onRaise (cameBack X.env) = (cameBack X.env e).bind fun _ => Sem.raise e := rfl
  rw [e1, Sem.bind_eq_wrap, Sem.wrap_wrap]
  refine seg_wrap ?_
  rw [g.over]
  exact wpAny_mono h (fun _ t hx => k.exc n s₀ e t hx) fun x t hx => k.exc n s₀ x t hx
/-- an exception within a loop's code leaves it -/
theorem seg_gone {A : Around} {R : GenEnd} {c c' : Code} {fs : List Frame} {K : Flow → Sem PySem.Fin} {J : Value → Sem PySem.Fin} {gd : Bool → Bool} {lv : List Value → List Value} {D : GEnds} {n : Nat} {s₀ : Shared} {x : Value} {p : Pos}
    (hp : PassesOwn (model X.prog X.w) X.A X.env X.xe) (g : NC X C ip A c fs gd) (hw : c'.weight = 0) (hu : c'.cUnits = 0) (k : NK X C Good ip A R c fs K J D) (hx : X.xe x s) :
    Seg (model X.prog X.w) A R (NY X C Good) n s₀ c' ((do noteFrame x X.env; theTreesLotGoes x : Sem Unit).wrap (fun _ => .raise x) .raise id id)
      (.ret (fun r => ((match r with | .ok f => (.pure f : Sem Flow) | .error e => .raise e).onRaise (cameBack X.env)).wrap K J gd lv) none (gd false) (lv []) c p [] :: fs) s := by
  refine seg_wrap ?_
  rw [(over_loop hw hu).trans g.over]
  refine wpAny_bind (wpAny_mono (hp x s hx) (fun _ t hcb => wpAny_theTreesLotGoes ?_) fun y t hcb => ?_)
  · exact seg_leaf (.error x) (seg_back g k hcb)
  · exact seg_leaf (.error y) (seg_back g k hcb)
theorem ns_while {test : Expr} {body : List Stmt} {pos : Pos} {tc : TT} {tb : TGn} (hp : PassesOwn (model X.prog X.w) X.A X.env X.xe) (hc : PT X test tc) (hb : NSs X C Good body tb) : NS X C Good (.While test body [] pos) (tGWhile tc tb) := by
  refine ⟨fun {A ip R n ys s₀ c fs K J gd lv s σ H D} g hn k hI ht => ?_⟩
  obtain ⟨W, ⟨m0, w0⟩, turn⟩ := ht
  refine seg_While fun p => ?_
  have gl := fun (kk : Result → Sem PySem.Fin) => nc_loop (k := kk) (c' := .whileLoop test body [] X.env) (l := lv []) (kp := []) (p := p) g g.ip rfl rfl
  suffices loop : ∀ (m n : Nat) (ys : List V) (s₀ s : Shared) (σ : L2.St) (H : Hp), n + ys.length = sizeLine → W m ys σ H → Up X C s₀.heap ip σ H s →
      Seg (model X.prog X.w) A R (NY X C Good) n s₀ (.whileLoop test body [] X.env) ((model X.prog X.w).den (.whileLoop test body [] X.env))
        (.ret (fun r => ((match r with | .ok f => (.pure f : Sem Flow) | .error e => .raise e).onRaise (cameBack X.env)).wrap K J gd lv) none (gd false) (lv []) c p [] :: fs) s from
    loop m0 n ys s₀ s σ H hn w0 hI
  intro m
  induction m using Nat.strongRecOn with
  | ind m ih =>
    intro n ys s₀ s σ H hn w hI
    refine seg_whileLoop ?_
    rw [(gl _).over]
    obtain ⟨hcc, I⟩ := hI
    refine wpAny_mono (hc.run _ s σ H _ I (turn m ys σ H w)) (fun b t hb' => ?_) fun x t hx => seg_gone hp g rfl rfl k hx
    obtain ⟨H2, I2, q2⟩ := hb'
    cases b with
    | true =>
      obtain ⟨N, hN, q2⟩ := q2
      rw [if_pos rfl]
      refine hb.run (D := { D with nx := N, ct := N, bk := D.nx }) (gl _) hn ⟨fun n' ys' s₀' s3 f hn' hs => ?_, fun n' s₀' x s3 hx => seg_gone hp g rfl rfl k hx⟩ ⟨hcc, I2⟩ q2
      cases f with
      | next =>
        obtain ⟨σ3, H3, I3, n3⟩ := hs
        obtain ⟨m', hm, w3⟩ := hN ys' σ3 H3 n3
        exact seg_again rfl (ih m' hm n' ys' s₀' s3 σ3 H3 hn' w3 I3)
      | cont =>
        obtain ⟨σ3, H3, I3, n3⟩ := hs
        obtain ⟨m', hm, w3⟩ := hN ys' σ3 H3 n3
        exact seg_again rfl (ih m' hm n' ys' s₀' s3 σ3 H3 hn' w3 I3)
      | brk => exact seg_leaf (.ok .next) (k.ok n' ys' s₀' s3 .next hn' hs)
      | ret v => exact seg_leaf (.ok (.ret v)) (k.ok n' ys' s₀' s3 (.ret v) hn' hs)
    | false =>
      rw [if_neg Bool.false_ne_true]
      refine seg_execs_nil ?_
      exact seg_leaf (.ok .next) (k.ok n ys s₀ t .next hn ⟨σ, H2, ⟨hcc, I2⟩, q2⟩)
def tNFor (wi : TI) (gt : TG) (tb : TGn) : TGn := fun D ys σ H => wi σ H fun J H1 => ∃ W : Nat → Nat → List V → L2.St → Hp → Prop, (∃ m, W 0 m ys σ H1) ∧ ∀ i m ys σ H, W i m ys σ H →
  (J.stop i H ∧ D.nx ys σ H) ∨ (J.go i H ∧ ∃ N : List V → L2.St → Hp → Prop, (∀ ys' σ' H', N ys' σ' H' → ∃ m', m' < m ∧ W (i + 1) m' ys' σ' H') ∧
    ∀ x H', J.yld i H x H' → gt x σ H' fun σ2 H2 => tb { D with nx := N, ct := N, bk := D.nx } ys σ2 H2)
theorem ns_for {tg iter : Expr} {body : List Stmt} {pos : Pos} {wi : TI} {gt : TG} {tb : TGn} (hp : PassesOwn (model X.prog X.w) X.A X.env X.xe) (hc : X.calm = true) (hi : PI X tg iter wi) (hg : PG X tg gt) (hb : NSs X C Good body tb)
    (hs : ∀ x, foldedSetIterable iter X.env x = pure x := by intro _; rfl) : NS X C Good (.For tg iter body [] pos) (tNFor wi gt tb) := by
  refine ⟨fun {A ip R n ys s₀ c fs K J gd lv s σ H D} g hn k hI ht => ?_⟩
  rw [exec_For]
  refine seg_bind_wrap (wpAny_standAt ?_)
  obtain ⟨hcc, I⟩ := hI
  refine seg_bind_wrap ?_
  rw [g.over]
  refine wpAny_mono (hi.run _ s σ H _ I ht) (fun v s1 h1 => ?_) fun x t hx => k.exc n s₀ x t hx
  refine seg_bind_wrap (wpAny_of_eq (hs v) ?_)
  refine seg_bind_wrap (wpAny_standAt ?_)
  refine seg_bind_wrap (wpAny_holding ?_)
  rw [g.over]
  refine wpAny_mono h1 (fun itv s2 h2 => ?_) fun x t hx => k.exc n s₀ x t hx
  obtain ⟨it, fp, tn, Jt, H2, e, I2, T, st2, f2, W, ⟨m0, w0⟩, turn⟩ := h2
  subst e
  have fC : ∀ b ∈ fp, b ∉ C := fun b hb hC => by
    obtain ⟨o, e, _⟩ := hcc b hC
    exact (f2 b hb).2.2.2.2.2 (b, o) (List.mem_append_right _ (List.mem_append_left _ (mem_pinsAt hC e))) rfl
  have stat : ∀ {H' : Hp} {h : Heap}, (∀ b ∈ fp, H' b = none) → ∀ b ∈ fp, FpOk X (pinsAt C h ++ ip) H' b := fun {H' h} hn b hb => by
    obtain ⟨_, q1, q2, q3, q4, q5⟩ := f2 b hb
    refine ⟨hn b hb, q1, q2, q3, q4, fun p hp e => ?_⟩
    rcases List.mem_append.mp hp with hp | hp
    · exact q5 p (List.mem_append_left _ hp) e
    rcases List.mem_append.mp hp with hp | hp
    · exact fC b hb (e ▸ (of_pinsAt hp).1)
    · exact q5 p (List.mem_append_right _ (List.mem_append_right _ hp)) e
  refine seg_call fun p => ?_
  suffices loop : ∀ (m i n : Nat) (ys : List V) (s₀ s : Shared) (σ : L2.St) (H : Hp), n + ys.length = sizeLine → W i m ys σ H → Up X C s₀.heap ip σ H s → tn i s.heap → (∀ b ∈ fp, H b = none) →
      Seg (model X.prog X.w) A R (NY X C Good) n s₀ (.forLoop tg (.ref it) body [] X.env) ((model X.prog X.w).den (.forLoop tg (.ref it) body [] X.env))
        (.ret (fun r => ((match r with | .ok f => (.pure f : Sem Flow) | .error e => .raise e).onRaise (cameBack X.env)).wrap K J gd lv) none (gd false) (lv []) c p [] :: fs) s from
    loop m0 0 n ys s₀ s2 σ H2 hn w0 ⟨hcc, I2⟩ st2 fun b hb => (f2 b hb).1
  intro m
  induction m using Nat.strongRecOn with
  | ind m ih =>
    intro i n ys s₀ s σ H hn w hI st fr
    show Seg _ A R _ n s₀ _ ((forTurn tg (.ref it) body [] X.env).onRaise (fun x => do noteFrame x X.env; theTreesLotGoes x)) _ s
    have gone : ∀ {n : Nat} {s₀ s : Shared} {x : Value}, X.xe x s → Seg (model X.prog X.w) A R (NY X C Good) n s₀ (.forLoop tg (.ref it) body [] X.env) ((do noteFrame x X.env; theTreesLotGoes x : Sem Unit).bind fun _ => .raise x)
        (.ret (fun r => ((match r with | .ok f => (.pure f : Sem Flow) | .error e => .raise e).onRaise (cameBack X.env)).wrap K J gd lv) none (gd false) (lv []) c p [] :: fs) s := fun {n s₀ s x} hx => by
      rw [Sem.bind_eq_wrap]
      exact seg_gone hp g rfl rfl k hx
    rw [Sem.onRaise_eq_wrap]
    unfold forTurn
    have ov : ∀ {k : Result → Sem PySem.Fin}, A.over (.forLoop tg (.ref it) body [] X.env) (.ret k none (gd false) (lv []) c p [] :: fs) = X.A := fun {k} => (over_loop rfl rfl).trans g.over
    refine seg_bind_wrap (wpAny_standAt ?_)
    obtain ⟨hcc, I⟩ := hI
    rcases turn i m ys σ H w with ⟨stop, qn⟩ | ⟨go, N, hN, step⟩
    · refine seg_bind_wrap (wpAny_onRaise ?_)
      rw [ov]
      refine wpAny_mono (T.done X rfl rfl rfl hc i _ s σ H X.xe I (stat fr) st stop) (fun r s4 hr => ?_) fun x t hx => wpAny_standAt (gone hx)
      obtain ⟨hr, I4⟩ := hr
      subst hr
      refine seg_again rfl ?_
      show Seg _ A R _ n s₀ _ ((execs [] X.env).onRaise (fun x => do noteFrame x X.env; theTreesLotGoes x) >>= fun f => pure (PySem.Fin.done f)) _ s4
      refine seg_bind (wpAny_onRaise (wpAny_execs_nil ?_))
      exact seg_leaf (.ok .next) (k.ok n ys s₀ s4 .next hn ⟨σ, H, ⟨hcc, I4⟩, qn⟩)
    · refine seg_bind_wrap (wpAny_onRaise ?_)
      rw [ov]
      refine wpAny_mono (T.item X rfl rfl rfl hc i _ s σ H X.xe I (stat fr) st go) (fun r s4 hr => ?_) fun x t hx => wpAny_standAt (gone hx)
      obtain ⟨u, hr, h4⟩ := hr
      subst hr
      refine seg_bind_wrap ?_
      rw [ov]
      refine wpAny_mono h4 (fun _ s5 h5 => ?_) fun x t hx => gone hx
      obtain ⟨x, H5, I5, r5, y5, st5, fr5⟩ := h5
      have I5' := I5.pinned (stat fr5) (T.obj _ _ st5)
      refine seg_bind_wrap ?_
      rw [ov]
      refine wpAny_mono (hg.run _ s5 σ H5 x u _ I5' r5 (step x H5 y5)) (fun _ s6 h6 => ?_) fun x t hx => gone hx
      obtain ⟨σ6, H6, I6, q6⟩ := h6
      rw [Sem.bind_eq_wrap', Sem.wrap_wrap]
      have hip : ∀ q ∈ ip ++ pinsAt fp s5.heap, q.1 ∉ C := fun q hq => by
        rcases List.mem_append.mp hq with hq | hq
        · exact g.ip q hq
        · exact fC _ (of_pinsAt hq).1
      have less : ∀ {s₀ s7 : Shared} {σ7 : L2.St} {H7 : Hp}, Up X C s₀.heap (ip ++ pinsAt fp s5.heap) σ7 H7 s7 → Up X C s₀.heap ip σ7 H7 s7 ∧ tn (i + 1) s7.heap ∧ ∀ b ∈ fp, H7 b = none := fun {s₀ s7 σ7 H7} U => by
        have pin : ∀ b ∈ fp, ∀ o, s5.heap.get? b = some o → s7.heap.get? b = some o ∧ H7 b = none := fun b hb o e => by
          have := U.2.pin (b, o) (List.mem_append_right _ (List.mem_append_right _ (List.mem_append_right _ (mem_pinsAt hb e))))
          exact ⟨this.1, this.2.1⟩
        refine ⟨⟨U.1, U.2.pins_of fun p hp => U.2.pin p (List.mem_append_right _ ?_)⟩, T.keep _ _ _ st5 fun b hb o e => (pin b hb o e).1, fun b hb => ?_⟩
        · rcases List.mem_append.mp hp with hp | hp
          · exact List.mem_append_left _ hp
          · exact List.mem_append_right _ (List.mem_append_left _ hp)
        · obtain ⟨o, e, _⟩ := T.obj _ _ st5 b hb
          exact (pin b hb o e).2
      refine hb.run (ip := ip ++ pinsAt fp s5.heap) (D := { D with nx := N, ct := N, bk := D.nx }) (nc_loop g hip rfl rfl) hn ⟨fun n' ys' s₀' s3 f hn' hs => ?_, fun n' s₀' x s3 hx => gone hx⟩ ⟨hcc, by rw [← List.append_assoc]; exact I6⟩ q6
      cases f with
      | next =>
        obtain ⟨σ3, H3, I3, n3⟩ := hs
        obtain ⟨m', hm, w3⟩ := hN ys' σ3 H3 n3
        obtain ⟨q1, q2, q3⟩ := less I3
        exact seg_again rfl (ih m' hm (i + 1) n' ys' s₀' s3 σ3 H3 hn' w3 q1 q2 q3)
      | cont =>
        obtain ⟨σ3, H3, I3, n3⟩ := hs
        obtain ⟨m', hm, w3⟩ := hN ys' σ3 H3 n3
        obtain ⟨q1, q2, q3⟩ := less I3
        exact seg_again rfl (ih m' hm (i + 1) n' ys' s₀' s3 σ3 H3 hn' w3 q1 q2 q3)
      | brk =>
        obtain ⟨σ3, H3, I3, n3⟩ := hs
        exact seg_leaf (.ok .next) (k.ok n' ys' s₀' s3 .next hn' ⟨σ3, H3, (less I3).1, n3⟩)
      | ret v =>
        obtain ⟨v3, σ3, H3, I3, r3, n3⟩ := hs
        exact seg_leaf (.ok (.ret v)) (k.ok n' ys' s₀' s3 (.ret v) hn' ⟨v3, σ3, H3, (less I3).1, r3, n3⟩)
end
end FM
-- FmGenFn
set_option maxRecDepth 100000
set_option maxHeartbeats 1000000
/-! A call of a generator def: what any consumer may rely on. -/
namespace FM
open PySem PySem.Spec PyProof.Rows L2 GenW
/-- the consumer's objects stand as they stood when the generator was woken -/
def Still (C : List Addr) (H : Hp) (s₀ s : Shared) : Prop := ∀ b ∈ C, H b = none ∧ ∀ o, s₀.heap.get? b = some o → s.heap.get? b = some o
/-- an end, or an exception -/
def ZEnd (P : Program) (w : World) (outer : List Env) (H : Hp) (s : Shared) (C : List Addr) (a : Addr) (g : Nat) (Q : List V → Hp → Prop) (E : XK) : GenEnd := fun n s₀ r s1 =>
  ((r = .ok (.ret .none) ∨ r = .ok .next) ∧ ∃ H' ys, n + ys.length = sizeLine ∧ s1.os = s.os ∧ AllBare s1.gens ∧ Un (frs outer) [] H H' s.heap s1.heap ∧ HOk P w H' s1.heap ∧ Still C H' s₀ s1 ∧ Q ys H') ∨
  ∃ e, r = .error e ∧ CX P w outer H s E e s1 ∧ s1.heap.IsGen a g
/-- an item -/
def ZItem (P : Program) (w : World) (outer : List Env) (H : Hp) (s : Shared) (C : List Addr) (a : Addr) (g : Nat) (Good : Gd) : Protocol := fun n s₀ v s1 kap =>
  ∃ ys x H1, n + 1 + ys.length = sizeLine ∧ RelV x v ∧ Good.ok (ys ++ [x]) H1 ∧ s1.os = s.os ∧ AllBare s1.gens ∧ s1.heap.IsGen a g ∧ Un (frs outer) [] H H1 s.heap s1.heap ∧ HOk P w H1 s1.heap ∧ Still C H1 s₀ s1 ∧
    (ys.length + 1 < Good.lim → ∀ t, Nap C s1 t → kap (.send .none) t)
/-- a generator that has not begun -/
def ZMade (P : Program) (w : World) (k : Nat) (outer : List Env) (H : Hp) (s : Shared) (Good : Gd) (Q : List V → Hp → Prop) (E : XK) (u : Value) (s' : Shared) : Prop :=
  ∃ (a : Addr) (g : Nat) (c : Code), u = .ref a ∧ s.heap.objs.size ≤ a ∧ a < s'.heap.objs.size ∧ s'.heap.IsGen a g ∧ s'.gens[g]? = some (.fresh c) ∧ s'.os = s.os ∧ AllBare s'.gens ∧ s'.heap.NoLimit ∧ (∀ b o, s.heap.get? b = some o → s'.heap.get? b = some o) ∧
    ∀ (A : Around) (C : List Addr) (s2 : Shared), Room k A → A.frames = some outer → (∀ b ∈ C, s'.heap.objs.size ≤ b) → (∀ b o, s'.heap.get? b = some o → s2.heap.get? b = some o) → (∀ b ∈ C, ∃ o, s2.heap.get? b = some o ∧ ∀ v, o.data ≠ .cell v) → s2.os = s.os → AllBare s2.gens →
      Seg (model P w) A (ZEnd P w outer H s C a g Q E) (ZItem P w outer H s C a g Good) sizeLine s2 c ((model P w).den c) [] s2
/-- arguments, heap, what each item is, the end, the exception -/
abbrev SpZ := List V → Hp → Gd → (List V → Hp → Prop) → XK → Prop
structure ZFn (P : Program) (w : World) (K : PySem.W.Frag) (mg : Str → Option Value) (base : Heap) (k : Nat) (f : Addr) (fd : FuncData) (ps : List Str) (sp : SpZ) : Prop where
  len : ∀ vs H G Q E, sp vs H G Q E → vs.length = ps.length
  run : ∀ (A : Around) (outer : List Env) (s : Shared) (H : Hp) (args : Args) (us : List Value) (vs : List V) (G : Gd) (Q : List V → Hp → Prop) (E : XK), Room k A → Env0 P w K mg base A outer s H → BindsTo s fd args (ps.zip us) → Vals vs us → sp vs H G Q E →
    codeAny (model P w) A (.call (.ref f) args) (fun r s' => match r with | .ok (.ret u) => ZMade P w k outer H s G Q E u s' | _ => False) s
theorem zfn_of {P : Program} {w : World} {K : PySem.W.Frag} {mg : Str → Option Value} {base : Heap} {k : Nat} {f : Addr} {name qual : Str} {params : Arguments} {body : List Stmt} {scope : Scope} {dV kV doc pm cdv ct oc : Value} {an od : Option Addr}
    {osl : Array (Option Value)} {N ps : List Str} {sp : SpZ} (lk : K.lookup f = some ⟨oc, od, .func (PySem.W.fnOf name qual params body scope dV kV doc pm an cdv ct), osl⟩) (hcd : PySem.W.codeIn K cdv qual = true) (S : GScope N ps scope)
    (len : ∀ vs H G Q E, sp vs H G Q E → vs.length = ps.length)
    (hbody : ∀ (A : Around) (outer : List Env) (s : Shared) (H : Hp) (vs : List V) (G : Gd) (Q : List V → Hp → Prop) (E : XK) (pn : List (Addr × Obj)) (C : List Addr), Room k (A.deeper (envOfC qual scope s.heap.objs.size f cdv)) → sp vs H G Q E →
      ∃ t, NSs (gcxOf P w K mg base N qual scope f cdv A outer s H E pn) C G body t ∧ t { nx := fun ys _ H' => Q ys H', rt := fun ys v H' => v = .non ∧ Q ys H' } [] (start N vs) H) :
    ZFn P w K mg base (k + 1) f (PySem.W.fnOf name qual params body scope dV kV doc pm an cdv ct) ps sp := by
  refine ⟨len, fun A outer s H args us vs G Q E hr e0 hb r hsp => ?_⟩
  have hl : vs.length = ps.length := len _ _ _ _ _ hsp
  have KX : K.In s.heap := e0.mod.kin.keeps fun b o e => And.left (e0.bs b o e)
  have lim : s.heap.NoLimit := e0.mod.nolimit.keeps fun b o e => And.left (e0.bs b o e)
  have hkind : ∀ y ∈ ps.zip us, scope.names.lookup y.1 = some .local ∨ (scope.names.lookup y.1 = some .cell ∧ ((cellsFrom (s.heap.objs.size + 1) scope.names []).lookup y.1).isSome = true) := by
    rintro ⟨n, v⟩ hy
    rcases S.par n (List.of_mem_zip hy).1 with q | q
    · exact .inl q
    · exact .inr ⟨q, PySem.W.cellsFrom_some _ _ _ (.inl q)⟩
  refine codeAny_call_generator hr.depth (KX _ _ lk) rfl S.co S.gen rfl (PySem.W.codeRec_of KX hcd) (hb _ _ _ _ (wpAny_newFunctionEnv_cells S.kind hkind fun env he s1 x => ?_))
  subst he
  have lim1 : s1.heap.NoLimit := lim.keeps x.toInCall.keep
  refine ⟨lim1, ?_⟩
  obtain ⟨h1, tk, es1, hk1⟩ := x.done
  have os1 : s1.os = s.os := by rw [es1]
  have gen1 : s1.gens = s.gens := by rw [es1]
  have lt1 : s.heap.objs.size < s1.heap.objs.size := x.toInCall.ns.lt
  have sz1 : s.heap.objs.size ≤ s1.heap.objs.size := Nat.le_of_lt lt1
  have kp1 : ∀ b o, s.heap.get? b = some o → s1.heap.get? b = some o := x.toInCall.keep
  suffices main : ∀ (go : Obj) (nm qn : Value) (tk2 : Nat), go.cls = .type "generator" → go.data = .fields #[.int s1.gens.size 0, nm, qn] → go.slots = #[] → (∀ h : Heap, (h.push go).get? h.objs.size = some go) →
      ZMade P w (k + 1) outer H s G Q E (.ref s1.heap.objs.size) { s1 with gens := s1.gens.push (.fresh (.func body (envOfC qual scope s.heap.objs.size f cdv))), toks := tk2, heap := s1.heap.push go } from
    main _ _ _ _ rfl rfl rfl fun h => Heap.get?_push_size _ rfl
  intro go nm qn tk2 hgc hgd0 hgs hgp
  have hgen : ∀ h : Heap, h.get? s1.heap.objs.size = some go → h.IsGen s1.heap.objs.size s1.gens.size := fun h e => ⟨go, nm, qn, e, hgc, hgd0, hgs⟩
  have hpushed : (s1.heap.push go).get? s1.heap.objs.size = some go := hgp _
  have e1 : (s1.heap.push go).objs.size = s1.heap.objs.size + 1 := Heap.size_push ..
  refine ⟨s1.heap.objs.size, s1.gens.size, _, rfl, sz1, ?_, hgen _ hpushed, Array.getElem?_push_size .., os1, AllBare.push (by rw [gen1]; exact e0.bare) rfl, lim1.keeps fun b o e => Heap.get?_push_of_some _ e, fun b o e => Heap.get?_push_of_some _ (kp1 b o e), ?_⟩
  · show s1.heap.objs.size < (s1.heap.push go).objs.size
    rw [e1]
    exact Nat.lt_succ_self _
  intro Aw C s2 hrw hfr hCx hk2 hCo hos hba
  have e0w : Env0 P w K mg base Aw outer s H := ⟨hfr, e0.mod, e0.bs, e0.bsz, e0.funs, e0.frf, e0.hok, e0.bare⟩
  obtain ⟨t, ht, hq⟩ := hbody Aw outer s H vs G Q E [(s1.heap.objs.size, go)] C (hrw.deeper _) hsp
  have I1 : Inv (gcxOf P w K mg base N qual scope f cdv Aw outer s H E []) [] (start N vs) H s1 := inv_startG S hrw.hd e0w hl r x
  have kp2 : ∀ b o, s1.heap.get? b = some o → s2.heap.get? b = some o := fun b o e => hk2 b o (Heap.get?_push_of_some _ e)
  have I2 : Inv (gcxOf P w K mg base N qual scope f cdv Aw outer s H E []) [] (start N vs) H s2 :=
    I1.call' (ch := []) (hos.trans os1.symm) (Un.kept kp2) (I1.hok.kept kp2) hba fun b z => (nomatch z)
  have hCz : ∀ b ∈ C, s1.heap.objs.size < b := fun b hb => by
    have q : (s1.heap.push go).objs.size ≤ b := hCx b hb
    rw [e1] at q
    exact q
  have hea : s2.heap.get? s1.heap.objs.size = some go := hk2 s1.heap.objs.size go hpushed
  have hgd : ∀ v, go.data ≠ .cell v := fun v q => by rw [hgd0] at q; cases q
  have young : ∀ b, s1.heap.objs.size ≤ b → H b = none ∧ b ≠ s.heap.objs.size ∧ b ∉ frs outer ∧ s.heap.objs.size ≤ b ∧ ∀ y c, (cellsFrom (s.heap.objs.size + 1) scope.names []).lookup y = some c → c ≠ b := fun b hb => by
    refine ⟨I1.hok.fresh hb, Nat.ne_of_gt (Nat.lt_of_lt_of_le lt1 hb), I1.nofs hb, Nat.le_trans sz1 hb, fun y c e z => ?_⟩
    obtain ⟨v, ob, ho, _⟩ := I1.cell y c e
    have q := Heap.lt_size ho
    rw [z] at q
    exact Nat.lt_irrefl _ (Nat.lt_of_lt_of_le q hb)
  have hU : Up (gcxOf P w K mg base N qual scope f cdv Aw outer s H E [(s1.heap.objs.size, go)]) C s2.heap [] (start N vs) H s2 := by
    refine ⟨hCo, Inv.pinnedG I2 fun p hp => ?_⟩
    rcases List.mem_append.mp hp with z | z
    · rw [List.mem_singleton.mp z]
      obtain ⟨y1, y2, y3, _⟩ := young s1.heap.objs.size (Nat.le_refl _)
      exact ⟨hea, y1, y2, y3, hgd⟩
    · rw [List.append_nil] at z
      obtain ⟨hb, e⟩ := of_pinsAt z
      obtain ⟨y1, y2, y3, _⟩ := young p.1 (Nat.le_of_lt (hCz _ hb))
      obtain ⟨o, e', d⟩ := hCo p.1 hb
      rw [e] at e'
      cases e'
      exact ⟨e, y1, y2, y3, d⟩
  have hFar : Far (gcxOf P w K mg base N qual scope f cdv Aw outer s H E [(s1.heap.objs.size, go)]) C := fun b hb => by
    obtain ⟨_, y2, _, y4, y5⟩ := young b (Nat.le_of_lt (hCz b hb))
    exact ⟨y4, y2, y5⟩
  have hpn : ∀ p ∈ [(s1.heap.objs.size, go)], p.1 ∉ C := fun p hp hb => by
    rw [List.mem_singleton.mp hp] at hb
    exact absurd (hCz _ hb) (Nat.lt_irrefl _)
  have pinned : ∀ {ip : List (Addr × Obj)} {h0 : Heap} {s' : Shared} {σ' : L2.St} {H' : Hp}, Up (gcxOf P w K mg base N qual scope f cdv Aw outer s H E [(s1.heap.objs.size, go)]) C h0 ip σ' H' s' → s'.heap.IsGen s1.heap.objs.size s1.gens.size := fun {ip h0 s' σ' H'} U =>
    hgen _ (U.2.pin (s1.heap.objs.size, go) (List.mem_append_left _ (List.mem_singleton.mpr rfl))).1
  have still : ∀ {ip : List (Addr × Obj)} {s₀ s' : Shared} {σ' : L2.St} {H' : Hp}, Up (gcxOf P w K mg base N qual scope f cdv Aw outer s H E [(s1.heap.objs.size, go)]) C s₀.heap ip σ' H' s' → Still C H' s₀ s' := fun {ip s₀ s' σ' H'} U b hb => by
    obtain ⟨o, q1, q2, q3, _⟩ := U.at hb
    refine ⟨q3, fun o' e => ?_⟩
    rw [q1] at e
    cases e
    exact q2
  refine seg_func ?_
  refine seg_imp (R := fun n s₀ r s' => match r with
      | .ok (.ret u) => ∃ ys v ip σ' H', n + ys.length = sizeLine ∧ Up (gcxOf P w K mg base N qual scope f cdv Aw outer s H E [(s1.heap.objs.size, go)]) C s₀.heap ip σ' H' s' ∧ RelV v u ∧ v = .non ∧ Q ys H'
      | .ok _ => False
      | .error e => CX P w outer H s E e s' ∧ ∀ p ∈ [(s1.heap.objs.size, go)], s'.heap.get? p.1 = some p.2)
    (Y := NY (gcxOf P w K mg base N qual scope f cdv Aw outer s H E [(s1.heap.objs.size, go)]) C G) (fun n s₀ r s' hR => ?_) (fun n s₀ v s' kap kap' hkk hY => ?_) sizeLine ?_
  · cases r with
    | error e =>
      obtain ⟨q1, q2⟩ := hR
      exact .inr ⟨e, rfl, q1, hgen _ (q2 (s1.heap.objs.size, go) (List.mem_singleton.mpr rfl))⟩
    | ok fl =>
      cases fl with
      | next => exact False.elim hR
      | brk => exact False.elim hR
      | cont => exact False.elim hR
      | ret u =>
        obtain ⟨ys, v, ip, σ', H', hn, U, rv, ev, hQ⟩ := hR
        subst ev
        have eu : u = Value.none := rv
        subst eu
        exact .inl ⟨.inl rfl, H', ys, hn, U.2.os, U.2.bare, U.2.base, U.2.hok, still U, hQ⟩
  · obtain ⟨ys, x, ip, σ', H', hn, rv, U, hG, hk⟩ := hY
    exact ⟨ys, x, H', hn, rv, hG, U.2.os, U.2.bare, pinned U, U.2.base, U.2.hok, still U, fun lt t z => hkk _ _ (hk lt t z)⟩
  · refine ht.run (ip := []) (n := sizeLine) (ys := []) (gd := id) (lv := id) ⟨hpn, fun p hp => (nomatch hp), hFar, over_func, rfl, rfl, rfl⟩ (Nat.add_zero _) ⟨fun n ys s₀ s' fl hn hs => ?_, fun n s₀ e s' hx => ?_⟩ hU hq
    · cases fl with
      | next =>
        obtain ⟨σ', H', U, hQ⟩ := hs
        exact seg_end (.ok (.ret .none)) ⟨ys, .non, [], σ', H', hn, U, rfl, rfl, hQ⟩
      | brk => obtain ⟨_, _, _, q⟩ := hs; exact False.elim q
      | cont => obtain ⟨_, _, _, q⟩ := hs; exact False.elim q
      | ret u =>
        obtain ⟨v, σ', H', U, rv, ev, hQ⟩ := hs
        exact seg_end (.ok (.ret u)) ⟨ys, v, [], σ', H', hn, U, rv, ev, hQ⟩
    · refine seg_wrap ?_
      rw [over_func]
      have hx' : wpAny (model P w) (Aw.deeper (envOfC qual scope s.heap.objs.size f cdv)) (leaving (envOfC qual scope s.heap.objs.size f cdv) e) (fun _ s'' => CX P w outer H s E e s'' ∧ ∀ p ∈ [(s1.heap.objs.size, go)], s''.heap.get? p.1 = some p.2) (fun _ _ => False) s' := hx
      exact wpAny_mono hx' (fun _ s'' q => seg_end (.error e) q) fun _ s'' q => q.elim
end FM
-- FmGenZip
set_option maxRecDepth 100000
set_option maxHeartbeats 1000000
/-! list(zip(range(n), g)), g a generator: the machine's steps. -/
namespace FM
open PySem PySem.Spec PyProof.Rows L2 GenW
open Sem (wp)
abbrev rgI (n : Int) : Obj := { cls := .type "range_iterator", data := .fields #[rawInt 0, rawInt n, rawInt 1] }
abbrev rgT (h : Heap) (n : Int) (a : Addr) : Heap := (h.push (rgI n)).push { cls := .type "tuple", data := .seq #[.ref h.objs.size, .ref a] }
abbrev rgO (h : Heap) (n : Int) (a : Addr) : Heap := (rgT h n a).push { cls := .type "tuple", data := .seq #[.none, .none] }
abbrev rgZ (h : Heap) (n : Int) (a : Addr) : Heap := (rgO h n a).push { cls := .type "zip", data := .fields #[.none, .bool false, .bool false, .ref (h.push (rgI n)).objs.size, .ref (rgT h n a).objs.size] }
/-- what stands where iter(range object) and iter(generator) can be taken -/
def RgOk (h : Heap) (r : Addr) (n : Int) (a : Addr) (g : Nat) : Prop := (∃ t u v, IsRange h r 0 n 1 t u v) ∧ Builtin.Range.small 0 n 1 = true ∧ Builtin.Range.rangeSize 0 n 1 = n ∧ h.IsGen a g
theorem meets_zip_rg {r a : Addr} {n : Int} {g : Nat} :
    Meets (Builtin.«zip.__new__» ⟨[.type "zip", .ref r, .ref a], []⟩) (fun _ R s => RgOk s.heap r n a g ∧
      R (.ok (.ret (.ref (rgO s.heap n a).objs.size))) { s with heap := rgZ s.heap n a }) :=
  .of_wp fun prog w A R s h => by
    obtain ⟨hp, gg, d, tk, os⟩ := s
    obtain ⟨⟨⟨t, u, v, hr⟩, hs, hz, hg⟩, h⟩ := h
    have hsub := sub_zip
    have q1 : ∀ {A' : Around} {E : Value → Shared → Prop} {Q : Value → Shared → Prop}, Q (.ref hp.objs.size) ⟨hp.push (rgI n), gg, d, tk, os⟩ → wpAny (model prog w) A' (pyIter (.ref r)) Q E ⟨hp, gg, d, tk, os⟩ :=
      fun q => wpAny_pyIter_range (s := ⟨hp, gg, d, tk, os⟩) hr hs (by rw [hz]; exact q)
    have q2 : ∀ {A' : Around} {E : Value → Shared → Prop} {Q : Value → Shared → Prop}, Q (.ref a) ⟨hp.push (rgI n), gg, d, tk, os⟩ → wpAny (model prog w) A' (pyIter (.ref a)) Q E ⟨hp.push (rgI n), gg, d, tk, os⟩ :=
      fun q => wpAny_pyIter_gen (s := ⟨hp.push (rgI n), gg, d, tk, os⟩) (hg.keeps fun b o e => Heap.get?_push_of_some _ e) q
    wp_walk using q1, q2
    exact ⟨_, rfl, h⟩
section
variable {prog : Program} {w : World} {A : Around} {E : Value → Shared → Prop} {s : Shared}
theorem zip_rg {r a : Addr} {n : Int} {g : Nat} {Q : Value → Shared → Prop} (hk : RgOk s.heap r n a g)
    (h : ∀ h', IsZip h' (s.heap.objs.size + 3) (s.heap.objs.size + 1) (s.heap.objs.size + 2) .none → IsTupOf2 h' (s.heap.objs.size + 1) (.ref s.heap.objs.size) (.ref a) →
      IsTupOf2 h' (s.heap.objs.size + 2) .none .none → IsRangeIter h' s.heap.objs.size 0 n 1 → h'.objs.size = s.heap.objs.size + 4 →
      (∀ c o, s.heap.get? c = some o → h'.get? c = some o) → Q (.ref (s.heap.objs.size + 3)) { s with heap := h' }) :
    wpAny (model prog w) A (call (.type "zip") [.ref r, .ref a]) Q E s := by
  refine callType_new F.called_zip (by decide) (F.typeCall_zip_2 _ _) (F.newCall_zip_2 _ _) (fun obj => F.args_object_init_3 obj _ _) F.entry_zip_new
    (meets_zip_rg (n := n) (g := g)) ⟨hk, ?_⟩
  have z1 : (s.heap.push (rgI n)).objs.size = s.heap.objs.size + 1 := by rw [Heap.size_push]
  have zT : (rgT s.heap n a).objs.size = s.heap.objs.size + 2 := by rw [Heap.size_push, z1]
  have zO : (rgO s.heap n a).objs.size = s.heap.objs.size + 3 := by rw [Heap.size_push, zT]
  have zZ : (rgZ s.heap n a).objs.size = s.heap.objs.size + 4 := by rw [Heap.size_push, zO]
  have gZ : (rgZ s.heap n a).get? (rgO s.heap n a).objs.size = some { cls := .type "zip", data := .fields #[.none, .bool false, .bool false, .ref (s.heap.push (rgI n)).objs.size, .ref (rgT s.heap n a).objs.size] } := Heap.get?_push_size _ rfl
  have gO : (rgZ s.heap n a).get? (rgT s.heap n a).objs.size = some { cls := .type "tuple", data := .seq #[.none, .none] } := Heap.get?_push_of_some _ (Heap.get?_push_size _ rfl)
  have gT : (rgZ s.heap n a).get? (s.heap.push (rgI n)).objs.size = some { cls := .type "tuple", data := .seq #[.ref s.heap.objs.size, .ref a] } := Heap.get?_push_of_some _ (Heap.get?_push_of_some _ (Heap.get?_push_size _ rfl))
  have g1 : (rgZ s.heap n a).get? s.heap.objs.size = some (rgI n) := Heap.get?_push_of_some _ (Heap.get?_push_of_some _ (Heap.get?_push_of_some _ (Heap.get?_push_size _ rfl)))
  rw [zO, zT, z1] at gZ
  rw [zT] at gO
  rw [z1] at gT
  show _ ∧ _
  rw [zO]
  exact ⟨⟨_, gZ, rfl⟩, h _ gZ gT gO g1 zZ fun c o e => Heap.get?_push_of_some _ (Heap.get?_push_of_some _ (Heap.get?_push_of_some _ (Heap.get?_push_of_some _ e)))⟩
/-! ### the turns -/
abbrev IsZipB (h : Heap) (z TI TO : Addr) (f0 : Value) (b : Bool) : Prop :=
  h.get? z = some { cls := .type "zip", dict := none, data := .fields #[f0, .bool b, .bool false, .ref TI, .ref TO], slots := #[] }
structure ZApart (z TI TO i : Addr) : Prop where
  TIz : TI ≠ z
  TOz : TO ≠ z
  iz : i ≠ z
  TITO : TI ≠ TO
  TIi : TI ≠ i
  TOi : TO ≠ i
/-- the tuple handed out last is free again, or there is none -/
def ZFree (h : Heap) (f0 : Value) : Prop := f0 = .none ∨ ∃ T : Addr, f0 = rawInt T ∧ h.get? T = none
theorem not_alive {T : Addr} {Q : Option Obj → Shared → Prop} (hT : s.heap.get? T = none) (h : Q none s) : wpAny (model prog w) A (loadIfAlive T) Q E s := fun Γ p _ => by
  unfold loadIfAlive
  rw [Sem.wp_loadIfAlive, hT]
  exact h
theorem owned_free {z TI TO : Addr} {f0 : Value} {b : Bool} {Q : Bool → Shared → Prop} (hz : IsZipB s.heap z TI TO f0 b) (hf : ZFree s.heap f0) (h : Q true s) : wpAny (model prog w) A (Builtin.SmallTypes.ownedTupleIsFree (.ref z)) Q E s := by
  unfold Builtin.SmallTypes.ownedTupleIsFree
  rcases hf with rfl | ⟨T, rfl, hT⟩
  · exact wpAny_bind (wpAny_field hz rfl (x := .none) rfl (wpAny_pure h))
  · refine wpAny_bind (wpAny_field hz rfl (x := rawInt T) rfl ?_)
    show wpAny _ _ (loadIfAlive ((T : Int).toNat) >>= _) _ _ _
    rw [Int.toNat_natCast]
    exact wpAny_bind (not_alive hT (wpAny_pure h))
/-- a turn with a free tuple -/
theorem zip_turn0 {z TI TO i a : Addr} {x left : Int} {a1 a2 : Value} {Q : Value → Shared → Prop} (D : ZApart z TI TO i) {f0 : Value} {bb : Bool} (hz : IsZipB s.heap z TI TO f0 bb) (hf : ZFree s.heap f0) (hTI : IsTupOf2 s.heap TI (.ref i) (.ref a)) (hTO : IsTupOf2 s.heap TO a1 a2)
    (hr : IsRangeIter s.heap i x left 1) (hl : 0 < left)
    (hN : ∀ h1 tk t, IsZipB h1 z TI TO .ellipsis bb → IsTupOf2 h1 TO (.int x t) a2 → IsRangeIter h1 i (x + 1) (left - 1) 1 → h1.objs.size = s.heap.objs.size → (∀ c o, c ≠ z → c ≠ TO → c ≠ i → s.heap.get? c = some o → h1.get? c = some o) →
      wpAny (model prog w) A (callSpecial? (.ref a) "__next__") (fun r s2 => ∃ v, r = some v ∧ IsZipB s2.heap z TI TO .ellipsis bb ∧ IsTupOf2 s2.heap TO (.int x t) a2 ∧
          ∀ h', IsZipB h' z TI TO (rawInt s2.heap.objs.size) false → IsTupOf2 h' TO (.int x t) v → IsTupOf2 h' s2.heap.objs.size (.int x t) v → h'.objs.size = s2.heap.objs.size + 1 →
            (∀ c o, c ≠ z → c ≠ TO → s2.heap.get? c = some o → h'.get? c = some o) → Q (.ref s2.heap.objs.size) { s2 with heap := h' })
        (fun e s2 => IsZipB s2.heap z TI TO .ellipsis bb ∧ ∀ h', IsZipB h' z TI TO .none bb → Heap.SameBut z s2.heap h' → E e { s2 with heap := h' }) { s with heap := h1, toks := tk }) :
    wpAny (model prog w) A (Builtin.«zip.__next__» ⟨[.ref z], []⟩) (fun fin s' => ∃ v, fin = .done (.ret v) ∧ Q v s') E s := by
  obtain ⟨hp, g, d, tk0, os⟩ := s
  show wpAny _ _ (field (.ref z) 2 >>= _) _ _ _
  refine wpAny_bind (wpAny_field hz rfl (x := .bool false) rfl ?_)
  show wpAny _ _ (field (.ref z) 3 >>= _) _ _ _
  refine wpAny_bind (wpAny_field hz rfl (x := .ref TI) rfl ?_)
  refine wpAny_bind (wpAny_seqItems hTI rfl ?_)
  show wpAny _ _ (Builtin.SmallTypes.ownedTupleIsFree (.ref z) >>= _) _ _ _
  refine wpAny_bind (owned_free hz hf ?_)
  simp only [if_true]
  refine wpAny_bind (wpAny_rule ?_)
  refine wpAny_bind (wpAny_field hz rfl (x := .ref TO) rfl ?_)
  refine wpAny_bind (wpAny_setField_rec hz (by simp) fun g0 hz0 hs0 => ?_)
  replace hz0 : IsZipB g0 z TI TO .ellipsis bb := hz0
  replace hs0 : Heap.SameBut z hp g0 := hs0
  refine wpAny_bind ?_
  simp only [List.zipIdx_cons, List.zipIdx_nil, List.forIn_cons, List.forIn_nil]
  refine wpAny_bind (wpAny_bind (wpAny_onRaise ?_))
  show wpAny _ _ (Builtin.SmallTypes.nextOf (.ref i) >>= _) _ _ ⟨g0, g, d, tk0, os⟩
  unfold Builtin.SmallTypes.nextOf
  refine wpAny_bind (wpAny_bind (CpRep.range_item (s := ⟨g0, g, d, tk0, os⟩) (hs0.extBut _ _ D.iz hr) hl fun p1 hr1 hp1 => wpAny_pure (wpAny_pure ?_)))
  replace hp1 : Heap.SameBut i g0 p1 := hp1
  have hU1 : IsTupOf2 p1 TO a1 a2 := hp1.extBut _ _ D.TOi (hs0.extBut _ _ D.TOz hTO)
  refine wpAny_bind (wpAny_seqItems (s := ⟨p1, g, d, tk0 + 1, os⟩) hU1 rfl ?_)
  refine wpAny_bind (updateSeq_IsTupOf2 (s := ⟨p1, g, d, tk0 + 1, os⟩) hU1 fun g1 hT1 hs1 => ?_)
  replace hT1 : IsTupOf2 g1 TO (.int x tk0) a2 := hT1
  replace hs1 : Heap.SameBut TO p1 g1 := hs1
  refine wpAny_bind (wpAny_letGo (wpAny_pure ?_))
  refine wpAny_bind (wpAny_bind (wpAny_onRaise ?_))
  show wpAny _ _ ((callSpecial? (.ref a) "__next__" >>= _) >>= _) _ _ ⟨g1, g, d, tk0 + 1, os⟩
  have hz1 : IsZipB g1 z TI TO .ellipsis bb := hs1.extBut _ _ D.TOz.symm (hp1.extBut _ _ D.iz.symm hz0)
  refine wpAny_bind (wpAny_bind (wpAny_mono (hN g1 (tk0 + 1) tk0 hz1 hT1 (hs1.extBut _ _ D.TOi.symm hr1) (by rw [hs1.1, hp1.1, hs0.1]) fun c o cz cT ci e => hs1.extBut _ _ cT (hp1.extBut _ _ ci (hs0.extBut _ _ cz e))) (fun r s2 hv => ?_) fun e s2 he => ?_))
  · obtain ⟨v, rfl, hz2, hT2, hQ⟩ := hv
    refine wpAny_pure (wpAny_pure ?_)
    obtain ⟨p2, gg, dd, tk2, os2⟩ := s2
    refine wpAny_bind (wpAny_seqItems (s := ⟨p2, gg, dd, tk2, os2⟩) hT2 rfl ?_)
    refine wpAny_bind (updateSeq_IsTupOf2 (s := ⟨p2, gg, dd, tk2, os2⟩) hT2 fun g2 hT3 hs2 => ?_)
    replace hT3 : IsTupOf2 g2 TO (.int x tk0) v := hT3
    replace hs2 : Heap.SameBut TO p2 g2 := hs2
    refine wpAny_bind (wpAny_letGo (wpAny_pure (wpAny_pure ?_)))
    refine wpAny_bind (wpAny_seqItems (s := ⟨g2, gg, dd, tk2, os2⟩) hT3 rfl ?_)
    refine wpAny_bind (wpAny_newTuple ?_)
    have hzz : IsZipB g2 z TI TO .ellipsis bb := hs2.extBut _ _ D.TOz.symm hz2
    have hzlt : z < g2.objs.size := Heap.lt_size hzz
    show wpAny _ _ (Builtin.SmallTypes.ownedTupleHandOut (.ref z) (.ref g2.objs.size) >>= _) _ _ ⟨g2.push { cls := .type "tuple", data := .seq #[.int x tk0, v] }, gg, dd, tk2, os2⟩
    refine wpAny_bind ?_
    unfold Builtin.SmallTypes.ownedTupleHandOut
    have hz6 : IsZipB (g2.push { cls := .type "tuple", data := .seq #[.int x tk0, v] }) z TI TO .ellipsis bb := Heap.get?_push_of_some _ hzz
    refine wpAny_bind (wpAny_setField_rec hz6 (by simp) fun h7 hz7 hs7 => ?_)
    replace hz7 : IsZipB h7 z TI TO (rawInt g2.objs.size) bb := hz7
    refine wpAny_setField_rec hz7 (by simp) fun h8 hz8 hs8 => ?_
    replace hz8 : IsZip h8 z TI TO (rawInt g2.objs.size) := hz8
    replace hs7 : Heap.SameBut z (g2.push { cls := .type "tuple", data := .seq #[.int x tk0, v] }) h7 := hs7
    replace hs8 : Heap.SameBut z h7 h8 := hs8
    have up : ∀ c o, c ≠ z → g2.get? c = some o → h8.get? c = some o := fun c o c1 e => hs8.extBut _ _ c1 (hs7.extBut _ _ c1 (Heap.get?_push_of_some _ e))
    have hT8 : IsTupOf2 h8 g2.objs.size (.int x tk0) v := hs8.extBut _ _ (Nat.ne_of_gt hzlt) (hs7.extBut _ _ (Nat.ne_of_gt hzlt) (Heap.get?_push_size _ rfl))
    have hz9 : h8.objs.size = g2.objs.size + 1 := by rw [hs8.1, hs7.1, Heap.size_push]
    have hsz : g2.objs.size = p2.objs.size := hs2.1
    rw [hsz] at hz8 hT8 hz9
    refine wpAny_pure ⟨_, rfl, ?_⟩
    show Q (.ref g2.objs.size) ⟨h8, gg, dd, tk2, os2⟩
    rw [hsz]
    exact hQ h8 hz8 (up _ _ D.TOz hT3) hT8 hz9 fun c o cz cT e => up c o cz (hs2.extBut _ _ cT e)
  · obtain ⟨hz2, hE⟩ := he
    exact wpAny_setField_rec hz2 (by simp) fun h' hz' hs' => hE h' hz' hs'
/-- the range is at its end, at the first turn -/
theorem zip_end0 {z TI TO i a : Addr} {x left : Int} {a1 a2 : Value} {Q : Fin → Shared → Prop} (hh : A.handled = none) (D : ZApart z TI TO i) {f0 : Value} {bb : Bool} (hz : IsZipB s.heap z TI TO f0 bb) (hf : ZFree s.heap f0) (hTI : IsTupOf2 s.heap TI (.ref i) (.ref a)) (hTO : IsTupOf2 s.heap TO a1 a2)
    (hr : IsRangeIter s.heap i x left 1) (hl : left ≤ 0)
    (hE : ∀ h' e, (∀ c o, c ≠ z → c ≠ TO → c ≠ i → s.heap.get? c = some o → h'.get? c = some o) → (∃ o, h'.get? e = some o ∧ o.cls = .type "StopIteration") → E (.ref e) { s with heap := h' }) :
    wpAny (model prog w) A (Builtin.«zip.__next__» ⟨[.ref z], []⟩) Q E s := by
  obtain ⟨hp, g, d, tk0, os⟩ := s
  show wpAny _ _ (field (.ref z) 2 >>= _) _ _ _
  refine wpAny_bind (wpAny_field hz rfl (x := .bool false) rfl ?_)
  show wpAny _ _ (field (.ref z) 3 >>= _) _ _ _
  refine wpAny_bind (wpAny_field hz rfl (x := .ref TI) rfl ?_)
  refine wpAny_bind (wpAny_seqItems hTI rfl ?_)
  show wpAny _ _ (Builtin.SmallTypes.ownedTupleIsFree (.ref z) >>= _) _ _ _
  refine wpAny_bind (owned_free hz hf ?_)
  simp only [if_true]
  refine wpAny_bind (wpAny_rule ?_)
  refine wpAny_bind (wpAny_field hz rfl (x := .ref TO) rfl ?_)
  refine wpAny_bind (wpAny_setField_rec hz (by simp) fun g0 hz0 hs0 => ?_)
  replace hz0 : IsZipB g0 z TI TO .ellipsis bb := hz0
  replace hs0 : Heap.SameBut z hp g0 := hs0
  refine wpAny_bind ?_
  simp only [List.zipIdx_cons, List.zipIdx_nil, List.forIn_cons, List.forIn_nil]
  refine wpAny_bind (wpAny_bind (wpAny_onRaise ?_))
  show wpAny _ _ (Builtin.SmallTypes.nextOf (.ref i) >>= _) _ _ ⟨g0, g, d, tk0, os⟩
  unfold Builtin.SmallTypes.nextOf
  refine wpAny_bind (wpAny_bind (CpRep.range_end (s := ⟨g0, g, d, tk0, os⟩) hh (hs0.extBut _ _ D.iz hr) hl fun e q he hq => ?_))
  obtain ⟨ea, oe, vs, rfl, hoe, hce, _⟩ := he
  replace hq : Heap.ExtBut i g0 q := hq
  replace hoe : q.get? ea = some oe := hoe
  have hzq : IsZipB q z TI TO .ellipsis bb := hq _ _ D.iz.symm hz0
  have hez : ea ≠ z := fun x => by subst x; rw [hzq] at hoe; cases hoe; simp at hce
  refine wpAny_setField_rec (s := ⟨q, g, d, tk0, os⟩) hzq (by simp) fun q' _ hq' => ?_
  replace hq' : Heap.SameBut z q q' := hq'
  exact hE q' ea (fun c o cz cT c1 x => hq'.extBut _ _ cz (hq _ _ c1 (hs0.extBut _ _ cz x))) ⟨oe, hq'.extBut _ _ hez hoe, hce⟩
/-- a later turn: the tuples handed out so far stand -/
theorem zip_turnN {z TI TO i a T : Addr} {f : Bool} {oT : Obj} {x left : Int} {Q : Value → Shared → Prop} (D : ZApart z TI TO i) (hz : IsZipHeld s.heap z TI TO T f) (hT : s.heap.get? T = some oT) (hTI : IsTupOf2 s.heap TI (.ref i) (.ref a))
    (hr : IsRangeIter s.heap i x left 1) (hl : 0 < left)
    (hN : ∀ h1 tk t, IsZipHeld h1 z TI TO T true → IsRangeIter h1 i (x + 1) (left - 1) 1 → h1.objs.size = s.heap.objs.size → (∀ c o, c ≠ z → c ≠ i → s.heap.get? c = some o → h1.get? c = some o) →
      wpAny (model prog w) A (callSpecial? (.ref a) "__next__") (fun r s2 => ∃ v, r = some v ∧
          ∀ h', IsTupOf2 h' s2.heap.objs.size (.int x t) v → h'.objs.size = s2.heap.objs.size + 1 → (∀ c o, s2.heap.get? c = some o → h'.get? c = some o) → Q (.ref s2.heap.objs.size) { s2 with heap := h' })
        E { s with heap := h1, toks := tk }) :
    wpAny (model prog w) A (Builtin.«zip.__next__» ⟨[.ref z], []⟩) (fun fin s' => ∃ v, fin = .done (.ret v) ∧ Q v s') E s := by
  obtain ⟨hp, g, d, tk0, os⟩ := s
  show wpAny _ _ (field (.ref z) 2 >>= _) _ _ _
  refine wpAny_bind (wpAny_field hz rfl (x := .bool false) rfl ?_)
  show wpAny _ _ (field (.ref z) 3 >>= _) _ _ _
  refine wpAny_bind (wpAny_field hz rfl (x := .ref TI) rfl ?_)
  refine wpAny_bind (wpAny_seqItems hTI rfl ?_)
  show wpAny _ _ (Builtin.SmallTypes.ownedTupleIsFree (.ref z) >>= _) _ _ _
  refine wpAny_bind (wpAny_tupleHeld_zip hz hT fun g0 hz0 hs0 => ?_)
  simp only [Bool.false_eq_true, if_false]
  refine wpAny_bind ?_
  rw [← Array.forIn_toList]
  simp only [List.forIn_cons, List.forIn_nil]
  refine wpAny_bind (wpAny_bind (wpAny_holding ?_))
  show wpAny _ _ (Builtin.SmallTypes.nextOf (.ref i) >>= _) _ _ ⟨g0, g, d, tk0, os⟩
  unfold Builtin.SmallTypes.nextOf
  replace hs0 : Heap.SameBut z hp g0 := hs0
  refine wpAny_bind (wpAny_bind (CpRep.range_item (s := ⟨g0, g, d, tk0, os⟩) (hs0.extBut _ _ D.iz hr) hl fun p1 hr1 hp1 => wpAny_pure (wpAny_pure ?_)))
  replace hp1 : Heap.SameBut i g0 p1 := hp1
  refine wpAny_pure ?_
  refine wpAny_bind (wpAny_bind (wpAny_holding ?_))
  show wpAny _ _ ((callSpecial? (.ref a) "__next__" >>= _) >>= _) _ _ ⟨p1, g, d, tk0 + 1, os⟩
  have hz1 : IsZipHeld p1 z TI TO T true := hp1.extBut _ _ D.iz.symm hz0
  refine wpAny_bind (wpAny_bind (wpAny_mono (hN p1 (tk0 + 1) tk0 hz1 hr1 (by rw [hp1.1, hs0.1]) fun c o cz ci e => hp1.extBut _ _ ci (hs0.extBut _ _ cz e)) (fun r s2 hv => ?_) fun e s2 he => he))
  obtain ⟨v, rfl, hQ⟩ := hv
  refine wpAny_pure (wpAny_pure (wpAny_pure (wpAny_pure ?_)))
  obtain ⟨p2, gg, dd, tk2, os2⟩ := s2
  show wpAny _ _ (newTuple [.int x tk0, v] >>= _) _ _ _
  refine wpAny_bind (wpAny_newTuple (wpAny_pure ⟨_, rfl, ?_⟩))
  exact hQ _ (Heap.get?_push_size _ rfl) (Heap.size_push ..) fun c o e => Heap.get?_push_of_some _ e
theorem zip_endN {z TI TO i a T : Addr} {f : Bool} {oT : Obj} {x left : Int} {Q : Fin → Shared → Prop} (hh : A.handled = none) (D : ZApart z TI TO i) (hz : IsZipHeld s.heap z TI TO T f) (hT : s.heap.get? T = some oT) (hTI : IsTupOf2 s.heap TI (.ref i) (.ref a))
    (hr : IsRangeIter s.heap i x left 1) (hl : left ≤ 0)
    (hE : ∀ h' e, (∀ c o, c ≠ z → c ≠ i → s.heap.get? c = some o → h'.get? c = some o) → (∃ o, h'.get? e = some o ∧ o.cls = .type "StopIteration") → E (.ref e) { s with heap := h' }) :
    wpAny (model prog w) A (Builtin.«zip.__next__» ⟨[.ref z], []⟩) Q E s := by
  obtain ⟨hp, g, d, tk0, os⟩ := s
  show wpAny _ _ (field (.ref z) 2 >>= _) _ _ _
  refine wpAny_bind (wpAny_field hz rfl (x := .bool false) rfl ?_)
  show wpAny _ _ (field (.ref z) 3 >>= _) _ _ _
  refine wpAny_bind (wpAny_field hz rfl (x := .ref TI) rfl ?_)
  refine wpAny_bind (wpAny_seqItems hTI rfl ?_)
  show wpAny _ _ (Builtin.SmallTypes.ownedTupleIsFree (.ref z) >>= _) _ _ _
  refine wpAny_bind (wpAny_tupleHeld_zip hz hT fun g0 hz0 hs0 => ?_)
  simp only [Bool.false_eq_true, if_false]
  refine wpAny_bind ?_
  rw [← Array.forIn_toList]
  simp only [List.forIn_cons, List.forIn_nil]
  refine wpAny_bind (wpAny_bind (wpAny_holding ?_))
  show wpAny _ _ (Builtin.SmallTypes.nextOf (.ref i) >>= _) _ _ ⟨g0, g, d, tk0, os⟩
  unfold Builtin.SmallTypes.nextOf
  replace hs0 : Heap.SameBut z hp g0 := hs0
  refine wpAny_bind (wpAny_bind (CpRep.range_end (s := ⟨g0, g, d, tk0, os⟩) hh (hs0.extBut _ _ D.iz hr) hl fun e q he hq => ?_))
  obtain ⟨ea, oe, vs, rfl, hoe, hce, _⟩ := he
  replace hq : Heap.ExtBut i g0 q := hq
  replace hoe : q.get? ea = some oe := hoe
  exact hE q ea (fun c o cz c1 x => hq _ _ c1 (hs0.extBut _ _ cz x)) ⟨oe, hoe, hce⟩
end
end FM
-- FmGenRaise
set_option maxRecDepth 100000
set_option maxHeartbeats 1000000
/-! A generator def that raises when it is first woken; next of a generator; an exception past a turned object. -/
namespace FM
open PySem PySem.Spec PyProof.Rows L2 GenW
open Sem (wp)
/-- what is raised, and the pinned objects are untracked -/
def EPin (E : XK) (pn : List (Addr × Obj)) : XK := fun cls d H => E cls d H ∧ ∀ p ∈ pn, H p.1 = none
theorem xe_more {X : Cx} {W : WX} {u : Value} {s : Shared} (x : XE X W u s) : XE X (fun cls d σ H => W cls d σ H ∧ ∀ p ∈ X.pn, H p.1 = none) u s := by
  obtain ⟨a, B, sI, pins, σ, H, cls, d, e, I, nb, up, sky, na, os, ag, w⟩ := x
  exact ⟨a, B, sI, pins, σ, H, cls, d, e, I, nb, up, sky, na, os, ag, w, fun p hp => (I.pin p (List.mem_append_left _ hp)).2.1⟩
section
variable {P : Program} {w : World} {K : PySem.W.Frag} {mg : Str → Option Value} {base : Heap} {N : List Str} {qual : Str} {scope : Scope} {f : Addr} {cd : Value} {A : Around} {outer : List Env} {s : Shared} {H : Hp} {E : XK} {pn : List (Addr × Obj)}
theorem takes_pin : Takes (gcxOf P w K mg base N qual scope f cd A outer s H (EPin E pn) pn) (fun cls d _ H' => E cls d H') := fun u s' x =>
  XE.leaveG (E := EPin E pn) rfl rfl rfl (fun _ _ _ _ h => h) (xe_more x)
end
/-- a generator that has not begun, and raises when it is woken -/
def RMade (P : Program) (w : World) (k : Nat) (outer : List Env) (H : Hp) (s : Shared) (E : XK) (u : Value) (s' : Shared) : Prop :=
  ∃ (a : Addr) (g : Nat) (c : Code), u = .ref a ∧ s.heap.objs.size ≤ a ∧ a < s'.heap.objs.size ∧ s'.heap.IsGen a g ∧ s'.gens[g]? = some (.fresh c) ∧ s'.os = s.os ∧ AllBare s'.gens ∧ s'.heap.NoLimit ∧ (∀ b o, s.heap.get? b = some o → s'.heap.get? b = some o) ∧
    ∀ (A : Around) (C : List Addr) (s2 : Shared), Room k A → A.frames = some outer → (∀ b ∈ C, s'.heap.objs.size ≤ b) → (∀ b o, s'.heap.get? b = some o → s2.heap.get? b = some o) → (∀ b ∈ C, ∃ o, s2.heap.get? b = some o ∧ ∀ v, o.data ≠ .cell v) → s2.os = s.os → AllBare s2.gens →
      Seg (model P w) A (fun _ _ r s1 => ∃ e, r = .error e ∧ CX P w outer H s (EPin E (pinsAt C s2.heap)) e s1 ∧ s1.heap.IsGen a g ∧ ∀ b ∈ C, ∀ o, s2.heap.get? b = some o → s1.heap.get? b = some o) (fun _ _ _ _ _ => False) sizeLine s2 c ((model P w).den c) [] s2
abbrev SpR := List V → Hp → XK → Prop
structure RFn (P : Program) (w : World) (K : PySem.W.Frag) (mg : Str → Option Value) (base : Heap) (k : Nat) (f : Addr) (fd : FuncData) (ps : List Str) (sp : SpR) : Prop where
  len : ∀ vs H E, sp vs H E → vs.length = ps.length
  run : ∀ (A : Around) (outer : List Env) (s : Shared) (H : Hp) (args : Args) (us : List Value) (vs : List V) (E : XK), Room k A → Env0 P w K mg base A outer s H → BindsTo s fd args (ps.zip us) → Vals vs us → sp vs H E →
    codeAny (model P w) A (.call (.ref f) args) (fun r s' => match r with | .ok (.ret u) => RMade P w k outer H s E u s' | _ => False) s
theorem rfn_of {P : Program} {w : World} {K : PySem.W.Frag} {mg : Str → Option Value} {base : Heap} {k : Nat} {f : Addr} {name qual : Str} {params : Arguments} {body : List Stmt} {scope : Scope} {dV kV doc pm cdv ct oc : Value} {an od : Option Addr}
    {osl : Array (Option Value)} {N ps : List Str} {sp : SpR} (lk : K.lookup f = some ⟨oc, od, .func (PySem.W.fnOf name qual params body scope dV kV doc pm an cdv ct), osl⟩) (hcd : PySem.W.codeIn K cdv qual = true) (S : GScope N ps scope)
    (len : ∀ vs H E, sp vs H E → vs.length = ps.length)
    (hbody : ∀ (A : Around) (outer : List Env) (s : Shared) (H : Hp) (vs : List V) (E : XK) (pn : List (Addr × Obj)), Room k (A.deeper (envOfC qual scope s.heap.objs.size f cdv)) → sp vs H E →
      ∃ t, NSs (gcxOf P w K mg base N qual scope f cdv A outer s H (EPin E pn) pn) [] ⟨fun _ _ => False, 0⟩ body t ∧ t { nx := fun _ _ _ => False, rt := fun _ _ _ => False } [] (start N vs) H) :
    RFn P w K mg base (k + 1) f (PySem.W.fnOf name qual params body scope dV kV doc pm an cdv ct) ps sp := by
  refine ⟨len, fun A outer s H args us vs E hr e0 hb r hsp => ?_⟩
  have hl : vs.length = ps.length := len _ _ _ hsp
  have KX : K.In s.heap := e0.mod.kin.keeps fun b o e => And.left (e0.bs b o e)
  have lim : s.heap.NoLimit := e0.mod.nolimit.keeps fun b o e => And.left (e0.bs b o e)
  have hkind : ∀ y ∈ ps.zip us, scope.names.lookup y.1 = some .local ∨ (scope.names.lookup y.1 = some .cell ∧ ((cellsFrom (s.heap.objs.size + 1) scope.names []).lookup y.1).isSome = true) := by
    rintro ⟨n, v⟩ hy
    rcases S.par n (List.of_mem_zip hy).1 with q | q
    · exact .inl q
    · exact .inr ⟨q, PySem.W.cellsFrom_some _ _ _ (.inl q)⟩
  refine codeAny_call_generator hr.depth (KX _ _ lk) rfl S.co S.gen rfl (PySem.W.codeRec_of KX hcd) (hb _ _ _ _ (wpAny_newFunctionEnv_cells S.kind hkind fun env he s1 x => ?_))
  subst he
  have lim1 : s1.heap.NoLimit := lim.keeps x.toInCall.keep
  refine ⟨lim1, ?_⟩
  obtain ⟨h1, tk, es1, hk1⟩ := x.done
  have os1 : s1.os = s.os := by rw [es1]
  have gen1 : s1.gens = s.gens := by rw [es1]
  have lt1 : s.heap.objs.size < s1.heap.objs.size := x.toInCall.ns.lt
  have sz1 : s.heap.objs.size ≤ s1.heap.objs.size := Nat.le_of_lt lt1
  have kp1 : ∀ b o, s.heap.get? b = some o → s1.heap.get? b = some o := x.toInCall.keep
  suffices main : ∀ (go : Obj) (nm qn : Value) (tk2 : Nat), go.cls = .type "generator" → go.data = .fields #[.int s1.gens.size 0, nm, qn] → go.slots = #[] → (∀ h : Heap, (h.push go).get? h.objs.size = some go) →
      RMade P w (k + 1) outer H s E (.ref s1.heap.objs.size) { s1 with gens := s1.gens.push (.fresh (.func body (envOfC qual scope s.heap.objs.size f cdv))), toks := tk2, heap := s1.heap.push go } from
    main _ _ _ _ rfl rfl rfl fun h => Heap.get?_push_size _ rfl
  intro go nm qn tk2 hgc hgd0 hgs hgp
  have hgen : ∀ h : Heap, h.get? s1.heap.objs.size = some go → h.IsGen s1.heap.objs.size s1.gens.size := fun h e => ⟨go, nm, qn, e, hgc, hgd0, hgs⟩
  have hpushed : (s1.heap.push go).get? s1.heap.objs.size = some go := hgp _
  have e1 : (s1.heap.push go).objs.size = s1.heap.objs.size + 1 := Heap.size_push ..
  refine ⟨s1.heap.objs.size, s1.gens.size, _, rfl, sz1, ?_, hgen _ hpushed, Array.getElem?_push_size .., os1, AllBare.push (by rw [gen1]; exact e0.bare) rfl, lim1.keeps fun b o e => Heap.get?_push_of_some _ e, fun b o e => Heap.get?_push_of_some _ (kp1 b o e), ?_⟩
  · show s1.heap.objs.size < (s1.heap.push go).objs.size
    rw [e1]
    exact Nat.lt_succ_self _
  intro Aw C s2 hrw hfr hCx hk2 hCo hos hba
  have e0w : Env0 P w K mg base Aw outer s H := ⟨hfr, e0.mod, e0.bs, e0.bsz, e0.funs, e0.frf, e0.hok, e0.bare⟩
  let pn : List (Addr × Obj) := (s1.heap.objs.size, go) :: pinsAt C s2.heap
  obtain ⟨t, ht, hq⟩ := hbody Aw outer s H vs E pn (hrw.deeper _) hsp
  have I1 : Inv (gcxOf P w K mg base N qual scope f cdv Aw outer s H (EPin E pn) []) [] (start N vs) H s1 := inv_startG S hrw.hd e0w hl r x
  have kp2 : ∀ b o, s1.heap.get? b = some o → s2.heap.get? b = some o := fun b o e => hk2 b o (Heap.get?_push_of_some _ e)
  have I2 : Inv (gcxOf P w K mg base N qual scope f cdv Aw outer s H (EPin E pn) []) [] (start N vs) H s2 :=
    I1.call' (ch := []) (hos.trans os1.symm) (Un.kept kp2) (I1.hok.kept kp2) hba fun b z => (nomatch z)
  have hCz : ∀ b ∈ C, s1.heap.objs.size < b := fun b hb => by
    have q : (s1.heap.push go).objs.size ≤ b := hCx b hb
    rw [e1] at q
    exact q
  have hea : s2.heap.get? s1.heap.objs.size = some go := hk2 s1.heap.objs.size go hpushed
  have hgd : ∀ v, go.data ≠ .cell v := fun v q => by rw [hgd0] at q; cases q
  have young : ∀ b, s1.heap.objs.size ≤ b → H b = none ∧ b ≠ s.heap.objs.size ∧ b ∉ frs outer := fun b hb =>
    ⟨I1.hok.fresh hb, Nat.ne_of_gt (Nat.lt_of_lt_of_le lt1 hb), I1.nofs hb⟩
  have hU : Up (gcxOf P w K mg base N qual scope f cdv Aw outer s H (EPin E pn) pn) [] s2.heap [] (start N vs) H s2 := by
    refine ⟨fun b hb => (nomatch hb), Inv.pinnedG I2 fun p hp => ?_⟩
    rcases List.mem_append.mp hp with z | z
    · rcases List.mem_cons.mp z with z | z
      · rw [z]
        obtain ⟨y1, y2, y3⟩ := young s1.heap.objs.size (Nat.le_refl _)
        exact ⟨hea, y1, y2, y3, hgd⟩
      · obtain ⟨hb, e⟩ := of_pinsAt z
        obtain ⟨y1, y2, y3⟩ := young p.1 (Nat.le_of_lt (hCz _ hb))
        obtain ⟨o, e', d⟩ := hCo p.1 hb
        rw [e] at e'
        cases e'
        exact ⟨e, y1, y2, y3, d⟩
    · exact (nomatch z)
  refine seg_func ?_
  refine seg_imp (R := fun n s₀ r s' => match r with
      | .ok _ => False
      | .error e => CX P w outer H s (EPin E pn) e s' ∧ ∀ p ∈ pn, s'.heap.get? p.1 = some p.2)
    (Y := NY (gcxOf P w K mg base N qual scope f cdv Aw outer s H (EPin E pn) pn) [] ⟨fun _ _ => False, 0⟩) (fun n s₀ r s' hR => ?_) (fun n s₀ v s' kap kap' hkk hY => ?_) sizeLine ?_
  · cases r with
    | error e =>
      obtain ⟨q1, q2⟩ := hR
      refine ⟨e, rfl, ?_, hgen _ (q2 (s1.heap.objs.size, go) List.mem_cons_self), fun b hb o eo => q2 (b, o) (List.mem_cons_of_mem _ (mem_pinsAt hb eo))⟩
      obtain ⟨a, B, H', cls, d, z1, z2, z3, z4, z5, z6, z7, z8, z9⟩ := q1
      exact ⟨a, B, H', cls, d, z1, z2, z3, z4, z5, z6, z7, z8, fun p hp => z9 p (List.mem_cons_of_mem _ hp)⟩
    | ok fl => exact False.elim hR
  · obtain ⟨_, _, _, _, _, _, _, _, hG, _⟩ := hY
    exact hG
  · refine ht.run (ip := []) (n := sizeLine) (ys := []) (gd := id) (lv := id) ⟨fun p _ hp => (nomatch hp), fun p hp => (nomatch hp), fun b hb => (nomatch hb), over_func, rfl, rfl, rfl⟩ (Nat.add_zero _) ⟨fun n ys s₀ s' fl hn hs => ?_, fun n s₀ e s' hx => ?_⟩ hU hq
    · cases fl with
      | next => obtain ⟨_, _, _, q⟩ := hs; exact False.elim q
      | brk => obtain ⟨_, _, _, q⟩ := hs; exact False.elim q
      | cont => obtain ⟨_, _, _, q⟩ := hs; exact False.elim q
      | ret u => obtain ⟨_, _, _, _, _, q⟩ := hs; exact False.elim q
    · refine seg_wrap ?_
      rw [over_func]
      have hx' : wpAny (model P w) (Aw.deeper (envOfC qual scope s.heap.objs.size f cdv)) (leaving (envOfC qual scope s.heap.objs.size f cdv) e) (fun _ s'' => CX P w outer H s (EPin E pn) e s'' ∧ ∀ p ∈ pn, s''.heap.get? p.1 = some p.2) (fun _ _ => False) s' := hx
      exact wpAny_mono hx' (fun _ s'' q => seg_end (.error e) q) fun _ s'' q => q.elim
theorem funFrames_but {base : Heap} {h h' : Heap} {z : Addr} (hsb : Heap.SameBut z h h') : ∀ {l : List Env}, h.FunFrames base l → z ∉ frs l → h'.FunFrames base l
  | [], _, _ => trivial
  | env :: l, q, hn => by
    obtain ⟨hk, ⟨L, o, hf, hb, ho, hd⟩, hr⟩ := q
    have ne : L ≠ z := fun e => hn (List.mem_filterMap.mpr ⟨env, List.mem_cons_self, by rw [hf, e]⟩)
    exact ⟨hk, ⟨L, o, hf, hb, hsb.extBut _ _ ne ho, hd⟩, funFrames_but hsb hr fun hm => hn (by
      obtain ⟨e, he, q⟩ := List.mem_filterMap.mp hm
      exact List.mem_filterMap.mpr ⟨e, List.mem_cons_of_mem _ he, q⟩)⟩
/-- an exception past a zip that turned, which is untracked -/
theorem cx_past {P : Program} {w : World} {outer : List Env} {H : Hp} {s t : Shared} {E : XK} {e : Value} {z TI TO : Addr} {bb : Bool} {h' : Heap}
    (c : CX P w outer H s (fun cls d H' => E cls d H' ∧ H' z = none) e t) (hz : IsZipB t.heap z TI TO .ellipsis bb) (hy : s.heap.objs.size ≤ z) (hsb : Heap.SameBut z t.heap h') (hfr : z ∉ frs outer) : CX P w outer H s E e { t with heap := h' } := by
  obtain ⟨a, B, H', cls, d, rfl, ⟨f1, f2, f3, oe, vs, T, oT, ts, t1, t2, t3, t4, t5, t6, t7, t8, t9⟩, hok, ub, na, os, ag, hE, hzn⟩ := c
  have az : a ≠ z := fun q => by
    rw [q, hz] at t1
    cases t1
    cases t3
    cases t4
  have Tz : T ≠ z := fun q => by
    rw [q, hz] at t7
    cases t7
    cases t8
    cases t9
  obtain ⟨G, g1, g2⟩ := restrict B fun b => decide (b ≠ z)
  have gz : ∀ b, b ≠ z → G.get? b = B.get? b := fun b hb => g1 b (decide_eq_true hb)
  have gn : G.get? z = none := g2 z (decide_eq_false (fun q => q rfl))
  have up : ∀ b o, b ≠ z → t.heap.get? b = some o → h'.get? b = some o := fun b o hb q => hsb.extBut _ _ hb q
  have Gne : ∀ b o, G.get? b = some o → b ≠ z ∧ B.get? b = some o := fun b o q => by
    have hb : b ≠ z := fun q2 => by rw [q2, gn] at q; cases q
    exact ⟨hb, by rw [← gz b hb]; exact q⟩
  have old : ∀ b o, s.heap.get? b = some o → b ≠ z := fun b o q => Nat.ne_of_lt (Nat.lt_of_lt_of_le (Heap.lt_size q) hy)
  refine ⟨a, G, H', cls, d, rfl, ⟨fun b o q => ?_, by rw [gz a az]; exact f2, ?_, oe, vs, T, oT, ts, up _ _ az t1, t2, t3, t4, by rw [gz T Tz]; exact t5, t6, up _ _ Tz t7, t8, t9⟩, fun b o q => ?_, ⟨fun b o q1 q2 q3 => ?_, fun b o q1 q2 => ?_, ub.free, fun b o q1 q2 => ?_, ub.tups, ub.frzs, ub.tbls⟩, na, os, ag, hE⟩
  · obtain ⟨hb, q⟩ := Gne b o q
    exact up b o hb (f1 b o q)
  · refine funFrames_but hsb (funFrames_none f3 fun L hL => ?_) hfr
    cases q : G.get? L with
    | none => rfl
    | some o =>
      obtain ⟨_, q⟩ := Gne L o q
      have := (Heap.FunFrames.mem f3 hL).1
      rw [this] at q
      cases q
  · have bz : ∀ c u, H' c = some u → c ≠ z := fun c u q2 q3 => by rw [q3, hzn] at q2; cases q2
    refine (hok b o q).stay (fun c u hc q2 => ?_) (fun _ q => q) fun _ _ q => q
    have cz : c ≠ z := by
      rcases hc with q3 | q3
      · rw [q3]; exact bz b o q
      · exact bz c _ q3
    rw [gz c cz]
    exact q2
  · rw [gz b (old b o q1)]
    exact ub.keep b o q1 q2 q3
  · obtain ⟨sl, q⟩ := ub.slot b o q1 q2
    exact ⟨sl, up _ _ (fun q3 => hfr (q3 ▸ q2)) q⟩
  · rw [gz b (old b o q1)]
    exact ub.there b o q1 q2
end FM
-- FmGenList
set_option maxRecDepth 100000
set_option maxHeartbeats 1000000
/-! next of a generator within another built-in's next; list(a zip). -/
namespace FM
open PySem PySem.Spec PyProof.Rows L2 GenW
open Sem (wp)
section
variable {P : Program} {w : World} {A : Around} {E : Value → Shared → Prop} {s : Shared}
/-- a generator that never ends by itself is asked for its next value -/
theorem gen_special {a : Addr} {g n : Nat} {gs : GenState} {R : GenEnd} {Y : Protocol} {Q : Option Value → Shared → Prop}
    (hl : s.heap.NoLimit) (hroom : A.depth < recursionLimit) (hg : s.heap.IsGen a g) (hgs : s.gens[g]? = some gs)
    (hgo : gs.Goes (model P w) A.in1 R Y n (.send .none) (s.setGen g .running))
    (hR : ∀ r s₁, R n (s.setGen g .running) r s₁ → ∃ e, r = .error e ∧ s₁.heap.IsGen a g ∧ NotStop (model P w) e s₁.heap ∧ E e (s₁.setGen g .finished))
    (hY : ∀ v s₁ gs', gs'.bare = true → Y (n - 1) (s.setGen g .running) v s₁ (fun r' s'' => match n with
        | 0 => False
        | m + 1 => gs'.Goes (model P w) A.in1 R Y m r' s'') → Q (some v) (s₁.setGen g gs')) :
    wpAny (model P w) A (callSpecial? (.ref a) "__next__") Q E s := by
  refine wpAny_callSpecial?_slot (name := Str.ofString "__next__") hg.typeIs slot_gen_next (wpAny_call_entry slot_gen_next hg.typeIs entry_gen_next ?_ (args_gen_next _))
  show wpAny _ A.in1 (Builtin.Generator.genWake (.ref a) (.send .none)) _ _ s
  unfold Builtin.Generator.genWake
  refine wpAny_bind (wpAny_holding (wpAny_genNumber hg (wpAny_bind (wpAny_genState hgs ?_))))
  cases gs with
  | running => exact hgo.elim
  | finished => exact hgo.elim
  | _ =>
    refine wpAny_bind (wpAny_roomToWake hl hroom ?_)
    show wpAny _ A.in1 (.resume g (.send .none) [] _) _ _ s
    refine wpAny_resumeQ hgs hgo (fun x s₁ hx => ?_) (fun v s₁ gs' hb hv => ?_)
    · obtain ⟨e, rfl, hg1, hns, hq⟩ := hR x s₁ hx
      obtain ⟨o, nm, qn, ho, hc, hd, hsl⟩ := hg1
      show wpAny _ A.in1 (Builtin.Generator.genLeft (.ref a) e) _ _ _
      unfold Builtin.Generator.genLeft Builtin.Generator.madeByALambda
      refine wpAny_bind (wpAny_bind (wpAny_load (o := o) ho (wpAny_pure ?_)))
      refine wpAny_bind (hns _ _ _ _ rfl ?_)
      rw [Bool.and_false, if_neg Bool.false_ne_true]
      unfold Builtin.Generator.genEscaped
      first
        | refine wpAny_bind (hns _ _ _ _ rfl ?_)
        | refine wpAny_bind (wpAny_pure (wpAny_bind (hns _ _ _ _ rfl ?_)))
      rw [if_pos (show (!false) = true from rfl)]
      first
        | exact wpAny_throw hq
        | exact wpAny_bind (wpAny_throw hq)
    · exact wpAny_pure ⟨v, rfl, hY v s₁ gs' hb hv⟩
/-- next of a zip -/
theorem next_zip {z : Addr} {Q : Option Value → Shared → Prop} (hT : s.TypeIs (.ref z) "zip")
    (h : wpAny (model P w) A.in1 (Builtin.«zip.__next__» ⟨[.ref z], []⟩) (fun fin s' => ∃ v, fin = .done (.ret v) ∧ Q (some v) s')
      (fun e s' => (∃ b, e = .ref b ∧ (∃ o, s'.heap.get? b = some o ∧ o.cls = .type "StopIteration") ∧ Q none s') ∨ (NotStop (model P w) e s'.heap ∧ E e s')) s) :
    wpAny (model P w) A (pyNext (.ref z)) Q E s := by
  unfold pyNext
  refine wpAny_bind (wpAny_attempt (wpAny_callSpecial?_slot (name := Str.ofString "__next__") hT F.slot_zip_next
    (wpAny_call_entry F.slot_zip_next hT F.entry_zip_next (wpAny_mono h (fun fin s' hv => ?_) fun e s' he => ?_) (F.args_zip_next_1 _))))
  · obtain ⟨v, rfl, q⟩ := hv
    exact ⟨v, rfl, wpAny_pure q⟩
  · rcases he with ⟨b, rfl, ⟨o, ho, hc⟩, q⟩ | ⟨hns, q⟩
    · refine wpAny_bind (wpAny_isInstance (T := "StopIteration") (b := true) ⟨o, ho, hc⟩ isSubtype_stop ?_)
      exact wpAny_pure q
    · refine wpAny_bind (hns _ _ _ _ rfl ?_)
      rw [if_neg Bool.false_ne_true]
      exact wpAny_throw q
theorem nolen_zip : typeLookup (.type "zip") "__len__" = pure none := by rw [typeLookup_type, builtinLookup_eq_fast]; kernel_rfl
theorem nohint_zip : typeLookup (.type "zip") "__length_hint__" = pure none := by rw [typeLookup_type, builtinLookup_eq_fast]; kernel_rfl
/-- list(z), up to its loop -/
theorem list_zip {z TI TO : Addr} {f0 : Value} {Q : Value → Shared → Prop} (hz : IsZip s.heap z TI TO f0)
    (h : ∀ (h' : Heap) (R : Result → Shared → Prop), (∃ c, h'.get? s.heap.objs.size = some (lstObj #[] c)) → (∀ b o, s.heap.get? b = some o → h'.get? b = some o) → h'.objs.size = s.heap.objs.size + 1 →
      (∀ s', Q (.ref s.heap.objs.size) s' → R (.ok (.ret .none)) s') → (∀ e s', E e s' → R (.error e) s') →
      codeAny (model P w) A.in1 (.builtin "list.extend.loop" ⟨[.ref s.heap.objs.size, .ref z, .none], []⟩) R { s with heap := h' }) :
    wpAny (model P w) A (call (.type "list") [.ref z]) Q E s := by
  have hzl : z < s.heap.objs.size := Heap.lt_size hz
  have hSz : s.heap.objs.size ≠ z := Nat.ne_of_gt hzl
  refine callType_codes (Q₁ := fun obj s₁ => obj = .ref s.heap.objs.size ∧ s₁ = { s with heap := s.heap.push { cls := .type "list", data := .seq #[] } }) F.called_list (F.typeCall_list_1 _) F.entry_list_init
    (code_list_new _ ⟨rfl, rfl⟩) fun obj s₁ h₁ => ?_
  obtain ⟨rfl, rfl⟩ := h₁
  have hS : (s.heap.push { cls := .type "list", data := .seq #[] }).get? s.heap.objs.size = some { cls := .type "list", data := .seq #[] } := Heap.get?_push_size _ rfl
  refine ⟨⟨_, hS, rfl⟩, F.args_list_init_2 _ _, ?_⟩
  show wpAny _ A.in1.in1 (do let old ← Builtin.List.listItems (.ref s.heap.objs.size); Builtin.List.listUpdate (.ref s.heap.objs.size) (fun _ => #[]); letGo old.toList.reverse; Builtin.List.listExtendWith (.ref s.heap.objs.size) (.ref z) .none) _ _ _
  refine wpAny_bind ?_
  unfold Builtin.List.listItems
  refine wpAny_bind (wpAny_seqItems hS rfl (wpAny_pure ?_))
  show wpAny _ A.in1.in1 (updateSeq s.heap.objs.size (fun _ => #[]) >>= fun _ => letGo (#[] : Array Value).toList.reverse >>= fun _ => Builtin.List.listExtendWith (.ref s.heap.objs.size) (.ref z) .none) _ _ _
  refine wpAny_bind (wpAny_updateSeq hS rfl ?_)
  have hS2 := Heap.get?_update_self (Obj.mapSeq (fun _ => (#[] : Array Value))) hS rfl
  refine wpAny_bind (wpAny_letGo ?_)
  unfold Builtin.List.listExtendWith
  have up : ∀ (h : Heap) (f : Obj → Obj), (∀ b o, s.heap.get? b = some o → h.get? b = some o) → ∀ b o, s.heap.get? b = some o → (h.update s.heap.objs.size f).get? b = some o := fun h f q b o e =>
    (Heap.get?_update_other _ _ (Ne.symm (Nat.ne_of_lt (Heap.lt_size e)))).trans (q b o e)
  have k1 : ∀ b o, s.heap.get? b = some o → (s.heap.push { cls := .type "list", data := .seq #[] }).get? b = some o := fun b o e => Heap.get?_push_of_some _ e
  have k2 := up _ (Obj.mapSeq (fun _ => (#[] : Array Value))) k1
  have gty : ∀ {h : Heap}, (∀ b o, s.heap.get? b = some o → h.get? b = some o) → ({ s with heap := h } : Shared).TypeIs (.ref z) "zip" := fun {h} q => ⟨_, q _ _ hz, rfl⟩
  refine wpAny_bind (wpAny_typeOf (gty k2) ?_)
  have h1 : Builtin.List.listSameRef (.ref s.heap.objs.size) (.ref z) = false := by simp [Builtin.List.listSameRef, hSz]
  have h2 : (Value.type "zip" == Value.type "list") = false := by decide
  have h3 : (Value.type "zip" == Value.type "tuple") = false := by decide
  simp only [h1, h2, h3, Bool.or_false, Bool.false_eq_true, if_false]
  refine wpAny_bind (wpAny_pyIter_zip (s := { s with heap := _ }) (k2 _ _ hz) ?_)
  refine wpAny_bind (wpAny_holding ?_)
  unfold Builtin.List.listLengthHint
  refine wpAny_bind (wpAny_specialOf (gty k2) nolen_zip ?_)
  show wpAny _ A.in1.in1 (specialOf (Value.ref z) (Str.ofString "__length_hint__") >>= _) _ _ _
  refine wpAny_bind (wpAny_specialOf (gty k2) nohint_zip ?_)
  refine wpAny_pure ?_
  show wpAny _ A.in1.in1 (rule "list.extend.makes-room" >>= fun _ => Builtin.List.listTouch (.ref s.heap.objs.size) >>= fun _ =>
    again (.builtin "list.extend.loop" ⟨[.ref s.heap.objs.size, .ref z, .none], []⟩)) _ _ _
  refine wpAny_bind (wpAny_rule ?_)
  refine wpAny_bind ?_
  show wpAny _ A.in1.in1 (updateSeq s.heap.objs.size (·.push .none) >>= fun _ => updateSeq s.heap.objs.size (·.pop)) _ _ _
  refine wpAny_bind (wpAny_updateSeq hS2 rfl ?_)
  have hS3 := Heap.get?_update_self (Obj.mapSeq (·.push Value.none)) hS2 rfl
  refine wpAny_updateSeq (hz := by seq_fits) hS3 rfl ?_
  have hS4 := Heap.get?_update_self (Obj.mapSeq (·.pop)) hS3 rfl
  have k4 := up _ (Obj.mapSeq (·.pop)) (up _ (Obj.mapSeq (·.push Value.none)) k2)
  refine wpAny_pure ⟨plainId_quiet F.plain_extend_loop _, ?_⟩
  refine h _ _ ⟨_, hS4⟩ k4 ?_ (fun s' q => ⟨rfl, q⟩) fun e s' q => q
  rw [Heap.size_update, Heap.size_update, Heap.size_update, Heap.size_push]
/-- the loop's next turn: an item, the end, an exception -/
theorem extend_turn {L z : Addr} {R : Result → Shared → Prop} (hT : s.TypeIs (.ref z) "zip")
    (h : wpAny (model P w) A.in1.in1 (Builtin.«zip.__next__» ⟨[.ref z], []⟩)
      (fun fin s' => ∃ v, fin = .done (.ret v) ∧ ∃ acc c, s'.heap.get? L = some (lstObj acc c) ∧ acc.size < sizeLine ∧
        codeAny (model P w) A (.builtin "list.extend.loop" ⟨[.ref L, .ref z, .none], []⟩) R { s' with heap := s'.heap.update L (Obj.mapSeq (·.push v)) })
      (fun e s' => (∃ b, e = .ref b ∧ (∃ o, s'.heap.get? b = some o ∧ o.cls = .type "StopIteration") ∧ R (.ok (.ret .none)) s') ∨ (NotStop (model P w) e s'.heap ∧ R (.error e) s')) s) :
    codeAny (model P w) A (.builtin "list.extend.loop" ⟨[.ref L, .ref z, .none], []⟩) R s := by
  refine codeAny_builtin F.entry_extend_loop ?_
  rw [Around.under_plainId F.plain_extend_loop _]
  show wpAny _ A.in1 (pyNext (.ref z) >>= _) _ _ s
  refine wpAny_bind (next_zip hT (wpAny_mono h (fun fin s' hv => ?_) fun e s' he => ?_))
  · obtain ⟨v, rfl, acc, c, hL, hsz, hc⟩ := hv
    refine ⟨v, rfl, ?_⟩
    show wpAny _ A.in1 (updateSeq L (·.push v) >>= _) _ _ _
    refine wpAny_bind ?_
    exact wpAny_updateSeq hL rfl (wpAny_pure ⟨plainId_quiet F.plain_extend_loop _, hc⟩) (Nat.le_of_lt hsz) (by show (acc.push v).size ≤ sizeLine + 1; rw [Array.size_push]; omega)
  · rcases he with ⟨b, rfl, ho, q⟩ | q
    · exact .inl ⟨b, rfl, ho, wpAny_pure q⟩
    · exact .inr q
end
end FM
-- FmGenEx
set_option maxRecDepth 100000
set_option maxHeartbeats 1000000
/-! The expression list(zip(range(n), g(..))). -/
namespace FM
open PySem PySem.Spec PyProof.Rows L2 GenW
open Sem (wp)
section
variable {X : Cx}
/-- a range object over a literal -/
structure PRn (X : Cx) (e : Expr) (n : Int) : Prop where
  run : ∀ (pins : List (Addr × Obj)) (s : Shared) (σ : L2.St) (H : Hp), Inv X pins σ H s → wpAny (model X.prog X.w) X.A (eval e X.env) (fun x s1 => ∃ r t u v, x = .ref r ∧ IsRange s1.heap r 0 n 1 t u v ∧ Inv X pins σ H s1 ∧ FpOk X pins H r) X.xe s
theorem prn {a : Expr} {n : Int} {p pos : Pos} (hg : Gl X "range") (hm : X.mg "range" = none) (ha : PE X a (tC (.int n))) (na : starEach [a] X.env = (false, eval a X.env) :: starEach [] X.env := by rfl) : PRn X (.Call (.Name "range" p) [a] [] pos) n := by
  refine ⟨fun pins s σ H I => ?_⟩
  refine Call_ (ld_blt I hg hm PyProof.Rows.boot_range (PyProof.Rows.callWith_type1 (one_arg (R := fun x H' => x = .int n ∧ H' = H) ha I ⟨rfl, rfl⟩ (fun v s2 x H2 I2 r q => ?_) na) na))
  obtain ⟨rfl, rfl⟩ := q
  obtain ⟨t, rfl⟩ := r
  refine call_range_1 ⟨_, _, _, _, rfl, IsRange.new _ _ _ _ _ _ _, I2.kept fun b u e => Heap.get?_push_of_some _ e, I2.fpOk (Nat.le_refl _) (I2.hok.fresh (Nat.le_refl _))⟩
theorem lz_prefix {er e : Expr} {n : Int} {Q : Value → Shared → Prop} {pins : List (Addr × Obj)} {s : Shared} {σ : L2.St} {H : Hp} {p p2 pos pos2 : Pos} (I : Inv X pins σ H s) (hr0 : PRn X er n)
    (hsm : Builtin.Range.small 0 n 1 = true) (hsz : Builtin.Range.rangeSize 0 n 1 = n) (hgl : Gl X "list") (hml : X.mg "list" = none) (hgz : Gl X "zip") (hmz : X.mg "zip" = none)
    (h : ∀ r s1, Inv X (pins ++ pinsAt [r] s1.heap) σ H s1 → (∃ o, s1.heap.get? r = some o) → wpAny (model X.prog X.w) X.A (eval e X.env) (fun u s2 => ∃ a g, u = .ref a ∧ s2.heap.IsGen a g ∧ (∀ o, s1.heap.get? r = some o → s2.heap.get? r = some o) ∧
      ∀ (h3 : Heap) (R : Result → Shared → Prop), IsZip h3 (s2.heap.objs.size + 3) (s2.heap.objs.size + 1) (s2.heap.objs.size + 2) .none → IsTupOf2 h3 (s2.heap.objs.size + 1) (.ref s2.heap.objs.size) (.ref a) → IsTupOf2 h3 (s2.heap.objs.size + 2) .none .none →
        IsRangeIter h3 s2.heap.objs.size 0 n 1 → (∃ c, h3.get? (s2.heap.objs.size + 4) = some (lstObj #[] c)) → (∀ b o, s2.heap.get? b = some o → h3.get? b = some o) →
        (∀ s', Q (.ref (s2.heap.objs.size + 4)) s' → R (.ok (.ret .none)) s') → (∀ e s', X.xe e s' → R (.error e) s') →
        codeAny (model X.prog X.w) X.A.in1 (.builtin "list.extend.loop" ⟨[.ref (s2.heap.objs.size + 4), .ref (s2.heap.objs.size + 3), .none], []⟩) R { s2 with heap := h3 }) X.xe s1)
    (he1 : starEach [.Call (.Name "zip" p2) [er, e] [] pos2] X.env = (false, eval (.Call (.Name "zip" p2) [er, e] [] pos2) X.env) :: starEach [] X.env := by rfl)
    (he2 : starEach [er, e] X.env = (false, eval er X.env) :: starEach [e] X.env := by rfl) (he3 : starEach [e] X.env = (false, eval e X.env) :: starEach [] X.env := by rfl) (hpl : (backTo pos2 (starEach [e] X.env)).any (·.1) = false := by rfl) :
    wpAny (model X.prog X.w) X.A (eval (.Call (.Name "list" p) [.Call (.Name "zip" p2) [er, e] [] pos2] [] pos) X.env) Q X.xe s := by
  refine Call_ (ld_blt I hgl hml PyProof.Rows.boot_list (PyProof.Rows.callWith_type1 (args_cons ?_ he1) he1 rfl))
  refine Call_ (ld_blt I hgz hmz PyProof.Rows.boot_zip (PyProof.Rows.callWith_type1 (args_cons (thn (hr0.run pins s σ H I) fun v1 s1 h1 => args_cons ?_ he3) he2) he2 hpl))
  obtain ⟨r, t, u, v, rfl, hr, I1, fr⟩ := h1
  have I1' : Inv X (pins ++ pinsAt [r] s1.heap) σ H s1 := I1.pinned (fun b hb => by rw [List.mem_singleton.mp hb]; exact fr) fun b hb => by
    rw [List.mem_singleton.mp hb]
    exact ⟨_, hr, fun v q => by cases q⟩
  refine thn (h r s1 I1' ⟨_, hr⟩) fun v2 s2 h2 => args_nil ?_
  obtain ⟨a, g, rfl, hg, hkr, go⟩ := h2
  refine zip_rg (n := n) (g := g) ⟨⟨t, u, v, hkr _ hr⟩, hsm, hsz, hg⟩ fun h' z1 z2 z3 z4 z5 z6 => args_nil ?_
  refine list_zip (s := { s2 with heap := h' }) z1 fun h3 R q1 q2 q3 q4 q5 => ?_
  have e4 : h'.objs.size = s2.heap.objs.size + 4 := z5
  dsimp only at q1 q2 q3 q4 q5 ⊢
  rw [e4] at q1 q4 ⊢
  exact go h3 R (q2 _ _ z1) (q2 _ _ z2) (q2 _ _ z3) (q2 _ _ z4) q1 (fun b o q => q2 _ _ (z6 _ _ q)) q4 q5
/-- an expression whose value is a generator that raises when it is woken -/
abbrev TRen := L2.St → Hp → (Hp → Prop) → Prop
structure PRen (X : Cx) (k : Nat) (e : Expr) (tr : TRen) (E : XK) : Prop where
  run : ∀ (pins : List (Addr × Obj)) (s : Shared) (σ : L2.St) (H : Hp) (B : Hp → Prop), Inv X pins σ H s → tr σ H B → wpAny (model X.prog X.w) X.A (eval e X.env)
    (fun u s1 => ∃ H1 sc, Inv X pins σ H1 sc ∧ RMade X.prog X.w k X.stack H1 sc E u s1 ∧ B H1) X.xe s
theorem pren_call {k : Nat} {f : Addr} {fd : FuncData} {ps : List Str} {sp : SpR} {dvs : List V} {ds : List Value} {x : Str} {p pos : Pos} {E : XK} {e : Expr} {es : List Expr} {t : TA} (F : RFn X.prog X.w X.K X.mg X.base k f fd ps sp) (hr : Room k X.A) (hg : Gl X x) (hm : X.mg x = some (.ref f)) (hk : PySem.W.keepIn X.K (.ref f) = true) (hb : Binds X.K fd ps ds) (hd : Vals dvs ds)
    (ha : PA X (e :: es) t) (hdb : (x == ("__debug__" : Str)) = false := by decide) (he : starEach (e :: es) X.env = (false, eval e X.env) :: starEach es X.env := by rfl) (hpl : (backTo pos (starEach es X.env)).any (·.1) = false := by rfl) :
    PRen X k (.Call (.Name x p) (e :: es) [] pos) (fun σ H B => t σ H fun vs H1 => sp (vs ++ dvs) H1 E ∧ B H1) E := by
  refine ⟨fun pins s σ H B I h => ?_⟩
  refine wpAny_Call_Name_kw (ld_glob I hg hm ?_ hdb)
  refine PySem.W.callWith_K (h₀ := X.base) I.ok.mod.kin hk (thn (ha.run pos pins s σ H _ I h) fun us s1 ⟨vs, H1, I1, r, q⟩ => ⟨I1.kIn, ?_⟩) he hpl
  have r2 : Vals (vs ++ dvs) (us ++ ds) := r.append hd
  have hl2 : (us ++ ds).length = ps.length := by rw [← r2.length]; exact F.len _ _ _ q.1
  refine wpAny_call (codeAny_mono (F.run X.A X.stack s1 H1 ⟨us, []⟩ (us ++ ds) (vs ++ dvs) E hr I1.env0 (hb s1 us I1.kIn hl2) r2 q.1) fun r s' hq => ?_)
  cases r with
  | error e => exact False.elim hq
  | ok fl =>
    cases fl with
    | ret u => exact ⟨H1, s1, I1, hq, q.2⟩
    | next => exact False.elim hq
    | brk => exact False.elim hq
    | cont => exact False.elim hq
theorem zap (N : Nat) : ZApart (N + 3) (N + 1) (N + 2) N := ⟨by show (N + 1 : Nat) ≠ N + 3; omega, by show (N + 2 : Nat) ≠ N + 3; omega, by show (N : Nat) ≠ N + 3; omega, by show (N + 1 : Nat) ≠ N + 2; omega, by show (N + 1 : Nat) ≠ N; omega, by show (N + 2 : Nat) ≠ N; omega⟩
theorem inv_onward {pins : List (Addr × Obj)} {σ : L2.St} {H : Hp} {s t : Shared} (I : Inv X pins σ H s) (os : t.os = s.os) (hb : AllBare t.gens) (hk : ∀ b o, s.heap.get? b = some o → t.heap.get? b = some o) : Inv X pins σ H t :=
  I.call' (ch := []) os (Un.kept hk) (I.hok.kept hk) hb fun b z => (nomatch z)
/-- list(zip(range(0), g)): the generator never begins -/
theorem pe_lz0 {k : Nat} {er e : Expr} {tr : TRen} {E : XK} {p p2 pos pos2 : Pos} (hr0 : PRn X er 0) (h : PRen X k e tr E) (hh : X.A.handled = none) (hgl : Gl X "list") (hml : X.mg "list" = none) (hgz : Gl X "zip") (hmz : X.mg "zip" = none)
    (he1 : starEach [.Call (.Name "zip" p2) [er, e] [] pos2] X.env = (false, eval (.Call (.Name "zip" p2) [er, e] [] pos2) X.env) :: starEach [] X.env := by rfl)
    (he2 : starEach [er, e] X.env = (false, eval er X.env) :: starEach [e] X.env := by rfl) (he3 : starEach [e] X.env = (false, eval e X.env) :: starEach [] X.env := by rfl) (hpl : (backTo pos2 (starEach [e] X.env)).any (·.1) = false := by rfl) :
    PE X (.Call (.Name "list" p) [.Call (.Name "zip" p2) [er, e] [] pos2] [] pos) (fun σ H Q => tr σ H fun H1 => ∀ q, H1 q = none → Q (.ref q) H1) := by
  refine ⟨fun pins s σ H Q I hq => ?_⟩
  refine lz_prefix I hr0 (by decide) (by decide) hgl hml hgz hmz (fun r s1 I1 hrr => thn (h.run _ s1 σ H _ I1 hq) fun u s2 hm => ?_) he1 he2 he3 hpl
  obtain ⟨H1, sc, I2, ⟨a, g, c, rfl, m1, m2, mg, mgs, mos, mb, ml, mk, _⟩, hB⟩ := hm
  refine ⟨a, g, rfl, mg, fun o eo => mk _ _ (I2.pin (r, o) (List.mem_append_right _ (List.mem_append_right _ (mem_pinsAt (List.mem_singleton.mpr rfl) eo)))).1, fun h3 R z1 z2 z3 z4 z5 z6 z7 z8 => ?_⟩
  have ssz : sc.heap.objs.size ≤ s2.heap.objs.size := Nat.le_trans m1 (Nat.le_of_lt m2)
  refine extend_turn ⟨_, z1, rfl⟩ (zip_end0 hh (zap _) z1 (.inl rfl) z2 z3 z4 (Int.le_refl 0) fun h' b hk ho => .inl ⟨b, rfl, ho, z7 _ ⟨.ref _, H1, inv_onward I2.unpinned mos mb fun b' o' q => ?_, rfl, hB _ (I2.hok.fresh (Nat.le_trans ssz (Nat.le_add_right _ _)))⟩⟩)
  have lt : b' < s2.heap.objs.size := Nat.lt_of_lt_of_le (Heap.lt_size q) ssz
  exact hk _ _ (Nat.ne_of_lt (Nat.lt_of_lt_of_le lt (Nat.le_add_right _ _))) (Nat.ne_of_lt (Nat.lt_of_lt_of_le lt (Nat.le_add_right _ _))) (Nat.ne_of_lt lt) (z6 _ _ (mk _ _ q))
/-- list(zip(range(n), g)), n not 0: the generator's first step raises -/
theorem pe_lzR {k : Nat} {er e : Expr} {tr : TRen} {E : XK} {n : Int} {p p2 pos pos2 : Pos} (hr0 : PRn X er n) (h : PRen X k e tr E) (hn : 0 < n) (hsm : Builtin.Range.small 0 n 1 = true) (hsz : Builtin.Range.rangeSize 0 n 1 = n)
    (hx : Passes (CX X.prog X.w) X E) (hns : NoStop X.K E) (hr : Room (k + 3) X.A) (hgl : Gl X "list") (hml : X.mg "list" = none) (hgz : Gl X "zip") (hmz : X.mg "zip" = none)
    (he1 : starEach [.Call (.Name "zip" p2) [er, e] [] pos2] X.env = (false, eval (.Call (.Name "zip" p2) [er, e] [] pos2) X.env) :: starEach [] X.env := by rfl)
    (he2 : starEach [er, e] X.env = (false, eval er X.env) :: starEach [e] X.env := by rfl) (he3 : starEach [e] X.env = (false, eval e X.env) :: starEach [] X.env := by rfl) (hpl : (backTo pos2 (starEach [e] X.env)).any (·.1) = false := by rfl) :
    PE X (.Call (.Name "list" p) [.Call (.Name "zip" p2) [er, e] [] pos2] [] pos) (fun σ H _ => tr σ H fun _ => True) := by
  refine ⟨fun pins s σ H Q I hq => ?_⟩
  refine lz_prefix I hr0 hsm hsz hgl hml hgz hmz (fun r s1 I1 hrr => thn (h.run _ s1 σ H _ I1 hq) fun u s2 hm => ?_) he1 he2 he3 hpl
  obtain ⟨H1, sc, I2, ⟨a, g, c, rfl, m1, m2, mg, mgs, mos, mb, ml, mk, wake⟩, _⟩ := hm
  refine ⟨a, g, rfl, mg, fun o eo => mk _ _ (I2.pin (r, o) (List.mem_append_right _ (List.mem_append_right _ (mem_pinsAt (List.mem_singleton.mpr rfl) eo)))).1, fun h3 R z1 z2 z3 z4 z5 z6 z7 z8 => ?_⟩
  have ssz : sc.heap.objs.size ≤ s2.heap.objs.size := Nat.le_trans m1 (Nat.le_of_lt m2)
  refine extend_turn ⟨_, z1, rfl⟩ (zip_turn0 (zap _) z1 (.inl rfl) z2 z3 z4 hn fun h1 tk t y1 y2 y3 y4 y5 => ?_)
  have old : ∀ b o, s2.heap.get? b = some o → h1.get? b = some o := fun b o q => by
    have lt : b < s2.heap.objs.size := Heap.lt_size q
    exact y5 b o (Nat.ne_of_lt (Nat.lt_of_lt_of_le lt (Nat.le_add_right _ _))) (Nat.ne_of_lt (Nat.lt_of_lt_of_le lt (Nat.le_add_right _ _))) (Nat.ne_of_lt lt) (z6 b o q)
  let C : List Addr := [s2.heap.objs.size + 3, s2.heap.objs.size + 2, s2.heap.objs.size]
  have hC : ∀ b ∈ C, s2.heap.objs.size ≤ b ∧ ∃ o, h1.get? b = some o ∧ ∀ v, o.data ≠ .cell v := fun b hb => by
    have q : b = s2.heap.objs.size + 3 ∨ b = s2.heap.objs.size + 2 ∨ b = s2.heap.objs.size := by simpa [C] using hb
    rcases q with q | q | q
    · rw [q]; exact ⟨Nat.le_add_right _ _, _, y1, fun v q => by cases q⟩
    · rw [q]; exact ⟨Nat.le_add_right _ _, _, y2, fun v q => by cases q⟩
    · rw [q]; exact ⟨Nat.le_refl _, _, y3, fun v q => by cases q⟩
  have sg := wake X.A.in1.in1.in1.in1 C (({ s2 with heap := h1, toks := tk } : Shared).setGen g .running) ⟨hr.hd, by have := hr.dp; show X.A.depth + 3 * k + 5 < _; omega, by have := hr.un; show X.A.units + 1 + 1 + 1 + 1 + 16 * k + 200 < _; omega⟩ I2.ok.frames
    (fun b hb => (hC b hb).1) old (fun b hb => (hC b hb).2) mos (allBare_setGen (s := { s2 with heap := h1, toks := tk }) mb rfl)
  refine gen_special (ml.keeps old) (by have := hr.dp; show X.A.depth < _; omega) (mg.keeps old) (n := sizeLine) mgs ⟨rfl, sg⟩ (fun r s₁ hR => ?_) fun v s₁ gs' hb hv => False.elim hv
  obtain ⟨e, rfl, hc, hg1, still⟩ := hR
  have zin : s2.heap.objs.size + 3 ∈ C := List.mem_cons_self
  have hz1 : IsZipB s₁.heap (s2.heap.objs.size + 3) (s2.heap.objs.size + 1) (s2.heap.objs.size + 2) .ellipsis false := still _ zin _ y1
  have hcE : CX X.prog X.w X.stack H1 sc (fun cls d H' => E cls d H' ∧ H' (s2.heap.objs.size + 3) = none) e (s₁.setGen g .finished) := by
    obtain ⟨a, B, H', cls, d, q1, q2, q3, q4, q5, q6, q7, q8, q9⟩ := hc
    exact ⟨a, B, H', cls, d, q1, q2, q3, q4, q5, q6, allBare_setGen q7 rfl, q8, q9 _ (mem_pinsAt zin y1)⟩
  have kinOf : ∀ {e : Value} {s' : Shared}, CX X.prog X.w X.stack H1 sc E e s' → X.K.In s'.heap := fun {e s'} hc => by
    obtain ⟨a, B, H', cls, d, _, fl, _, ub, _⟩ := id hc
    refine I2.ok.mod.kin.keeps fun b o eb => fl.1 b o (ub.keep b o (I2.bs b o eb).1 (I2.bs b o eb).2 fun hm => ?_)
    rcases List.mem_cons.mp (I2.stkSub b hm) with z | z
    · have q1 := Heap.lt_size eb
      have q2 := Nat.le_trans I2.ok.bsz I2.ok.above
      rw [z] at q1
      exact absurd (Nat.lt_of_lt_of_le q1 q2) (Nat.lt_irrefl _)
    · exact I2.ok.nofr eb z
  have zfr : s2.heap.objs.size + 3 ∉ frs X.stack := fun hm => by
    rcases List.mem_cons.mp (I2.stkSub _ hm) with z | z
    · exact absurd (Nat.lt_of_lt_of_le I2.lt (Nat.le_trans ssz (Nat.le_add_right _ 3))) (by rw [z]; exact Nat.lt_irrefl _)
    · exact I2.nofs (Nat.le_trans ssz (Nat.le_add_right _ 3)) z
  have ysz : sc.heap.objs.size ≤ s2.heap.objs.size + 3 := Nat.le_trans ssz (Nat.le_add_right _ _)
  have plain : CX X.prog X.w X.stack H1 sc E e s₁ := by
    obtain ⟨a, B, H', cls, d, q1, q2, q3, q4, q5, q6, q7, q8, _⟩ := hc
    exact ⟨a, B, H', cls, d, q1, q2, q3, q4, q5, q6, q7, q8⟩
  refine ⟨e, rfl, hg1, notStop_of hns (kinOf plain) plain, hz1, fun h' hz' hsb => .inr ?_⟩
  have fin := cx_past hcE hz1 ysz hsb zfr
  exact ⟨notStop_of hns (kinOf fin) fin, z8 _ _ (hx _ σ H1 sc e _ I2 fin)⟩
end
end FM
-- FmGenNs
set_option maxRecDepth 100000
set_option maxHeartbeats 2000000
/-! list(zip(range(n), g)) where g hands out n items and sleeps. -/
namespace FM
open PySem PySem.Spec PyProof.Rows L2 GenW
open Sem (wp)
theorem un_but {fs C : List Addr} {H H' : Hp} {h h1 h2 : Heap} (u : Un fs [] H H' h h1) (hC : ∀ b ∈ C, h.objs.size ≤ b) (hf : ∀ b ∈ C, b ∉ fs) (hk : ∀ b o, b ∉ C → h1.get? b = some o → h2.get? b = some o) : Un fs [] H H' h h2 := by
  have nC : ∀ b o, h.get? b = some o → b ∉ C := fun b o q hb => absurd (Nat.lt_of_lt_of_le (Heap.lt_size q) (hC b hb)) (Nat.lt_irrefl _)
  refine ⟨fun b o q n f x => hk b o (nC b o q) (u.keep b o q n f x), fun b o q n f x => ?_, u.free, fun b o q x => ?_, u.tups, u.frzs, u.tbls⟩
  · obtain ⟨sl, e⟩ := u.slot b o q n f x
    exact ⟨sl, hk b _ (nC b o q) e⟩
  · obtain ⟨o', e⟩ := u.there b o q x
    exact ⟨o', hk b o' (nC b o q) e⟩
theorem hok_but {P : Program} {w : World} {C : List Addr} {H : Hp} {h h' : Heap} (x : HOk P w H h) (hn : ∀ b ∈ C, H b = none) (hk : ∀ b o, b ∉ C → h.get? b = some o → h'.get? b = some o) : HOk P w H h' := fun b o q => by
  have nt : ∀ c u, H c = some u → c ∉ C := fun c u e hc => by
    have := hn c hc
    rw [e] at this
    cases this
  refine (x b o q).stay (fun c u hc e => hk c u ?_ e) (fun _ q => q) fun _ _ q => q
  rcases hc with z | z
  · rw [z]; exact nt b o q
  · exact nt c _ z
section
variable {X : Cx}
abbrev TZen := L2.St → Hp → Gd → Prop
structure PZen (X : Cx) (k : Nat) (e : Expr) (tz : TZen) : Prop where
  run : ∀ (pins : List (Addr × Obj)) (s : Shared) (σ : L2.St) (H : Hp) (G : Gd), Inv X pins σ H s → tz σ H G → wpAny (model X.prog X.w) X.A (eval e X.env)
    (fun u s1 => ∃ H1 sc, Inv X pins σ H1 sc ∧ ZMade X.prog X.w k X.stack H1 sc G (fun _ _ => False) (fun _ _ _ => False) u s1) X.xe s
theorem pzen_call {k : Nat} {f : Addr} {fd : FuncData} {ps : List Str} {sp : SpZ} {dvs : List V} {ds : List Value} {x : Str} {p pos : Pos} {e : Expr} {es : List Expr} {t : TA} (F : ZFn X.prog X.w X.K X.mg X.base k f fd ps sp) (hr : Room k X.A) (hg : Gl X x) (hm : X.mg x = some (.ref f)) (hk : PySem.W.keepIn X.K (.ref f) = true) (hb : Binds X.K fd ps ds) (hd : Vals dvs ds)
    (ha : PA X (e :: es) t) (hdb : (x == ("__debug__" : Str)) = false := by decide) (he : starEach (e :: es) X.env = (false, eval e X.env) :: starEach es X.env := by rfl) (hpl : (backTo pos (starEach es X.env)).any (·.1) = false := by rfl) :
    PZen X k (.Call (.Name x p) (e :: es) [] pos) (fun σ H G => t σ H fun vs H1 => sp (vs ++ dvs) H1 G (fun _ _ => False) (fun _ _ _ => False)) := by
  refine ⟨fun pins s σ H G I h => ?_⟩
  refine wpAny_Call_Name_kw (ld_glob I hg hm ?_ hdb)
  refine PySem.W.callWith_K (h₀ := X.base) I.ok.mod.kin hk (thn (ha.run pos pins s σ H _ I h) fun us s1 ⟨vs, H1, I1, r, q⟩ => ⟨I1.kIn, ?_⟩) he hpl
  have r2 : Vals (vs ++ dvs) (us ++ ds) := r.append hd
  have hl2 : (us ++ ds).length = ps.length := by rw [← r2.length]; exact F.len _ _ _ _ _ q
  refine wpAny_call (codeAny_mono (F.run X.A X.stack s1 H1 ⟨us, []⟩ (us ++ ds) (vs ++ dvs) G _ _ hr I1.env0 (hb s1 us I1.kIn hl2) r2 q) fun r s' hq => ?_)
  cases r with
  | error e => exact False.elim hq
  | ok fl =>
    cases fl with
    | ret u => exact ⟨H1, s1, I1, hq⟩
    | next => exact False.elim hq
    | brk => exact False.elim hq
    | cont => exact False.elim hq
/-- the objects of such a zip and of the list that is filled -/
abbrev zC (N : Addr) : List Addr := [N + 3, N + 2, N, N + 4, N + 1]
theorem mem_zC {N b : Addr} : b ∈ zC N ↔ b = N + 3 ∨ b = N + 2 ∨ b = N ∨ b = N + 4 ∨ b = N + 1 := by simp [zC]
/-- ahead of turn j -/
structure ZL (P : Program) (w : World) (A4 : Around) (outer : List Env) (H1 : Hp) (sc : Shared) (G : Gd) (N a : Addr) (g : Nat) (n : Int) (j : Nat) (s : Shared) : Prop where
  zip : ∃ f0 b, IsZipB s.heap (N + 3) (N + 1) (N + 2) f0 b ∧ (f0 = .none ∨ ∃ T : Addr, f0 = rawInt T)
  TI : IsTupOf2 s.heap (N + 1) (.ref N) (.ref a)
  TO : ∃ a1 a2, IsTupOf2 s.heap (N + 2) a1 a2
  rg : IsRangeIter s.heap N j (n - j) 1
  L : ∃ acc c, s.heap.get? (N + 4) = some (lstObj acc c) ∧ acc.size = j
  gen : s.heap.IsGen a g
  lim : s.heap.NoLimit
  os : s.os = sc.os
  bare : AllBare s.gens
  hp : ∃ H', Un (frs outer) [] H1 H' sc.heap s.heap ∧ HOk P w H' s.heap ∧ (∀ b ∈ zC N, H' b = none) ∧ (0 < j → ∃ ys, ys.length = j ∧ G.ok ys H')
  go : ∃ gs, s.gens[g]? = some gs ∧ (((j : Nat) : Int) < n → ∀ t, Nap (zC N) s t → gs.Goes (model P w) A4 (ZEnd P w outer H1 sc (zC N) a g (fun _ _ => False) fun _ _ _ => False) (ZItem P w outer H1 sc (zC N) a g G) (sizeLine - j) (.send .none) (t.setGen g .running))
theorem pe_lzN {k : Nat} {er e : Expr} {tz : TZen} {n : Nat} {p p2 pos pos2 : Pos} (hr0 : PRn X er n) (h : PZen X k e tz) (hn : 0 < n) (hn2 : n ≤ 1000) (hsm : Builtin.Range.small 0 n 1 = true) (hsz : Builtin.Range.rangeSize 0 n 1 = n)
    (hr : Room (k + 3) X.A) (hgl : Gl X "list") (hml : X.mg "list" = none) (hgz : Gl X "zip") (hmz : X.mg "zip" = none)
    (he1 : starEach [.Call (.Name "zip" p2) [er, e] [] pos2] X.env = (false, eval (.Call (.Name "zip" p2) [er, e] [] pos2) X.env) :: starEach [] X.env := by rfl)
    (he2 : starEach [er, e] X.env = (false, eval er X.env) :: starEach [e] X.env := by rfl) (he3 : starEach [e] X.env = (false, eval e X.env) :: starEach [] X.env := by rfl) (hpl : (backTo pos2 (starEach [e] X.env)).any (·.1) = false := by rfl) :
    PE X (.Call (.Name "list" p) [.Call (.Name "zip" p2) [er, e] [] pos2] [] pos) (fun σ H Q => tz σ H ⟨fun ys H1 => ys.length = n → ∀ q, H1 q = none → Q (.ref q) H1, n⟩) := by
  refine ⟨fun pins s σ H Q I hq => ?_⟩
  refine lz_prefix I hr0 hsm hsz hgl hml hgz hmz (fun r s1 I1 hrr => thn (h.run _ s1 σ H _ I1 hq) fun u s2 hm => ?_) he1 he2 he3 hpl
  obtain ⟨H1, sc, I2, ⟨a, g, c, rfl, m1, m2, mg, mgs, mos, mb, ml, mk, wake⟩⟩ := hm
  refine ⟨a, g, rfl, mg, fun o eo => mk _ _ (I2.pin (r, o) (List.mem_append_right _ (List.mem_append_right _ (mem_pinsAt (List.mem_singleton.mpr rfl) eo)))).1, fun h3 R z1 z2 z3 z4 z5 z6 z7 z8 => ?_⟩
  have ssz : sc.heap.objs.size ≤ s2.heap.objs.size := Nat.le_trans m1 (Nat.le_of_lt m2)
  generalize hN : s2.heap.objs.size = N at *
  have hCs : ∀ b ∈ zC N, N ≤ b := fun b hb => by
    rcases mem_zC.mp hb with q | q | q | q | q
    · rw [q]; exact Nat.le_add_right _ _
    · rw [q]; exact Nat.le_add_right _ _
    · rw [q]; exact Nat.le_refl _
    · rw [q]; exact Nat.le_add_right _ _
    · rw [q]; exact Nat.le_add_right _ _
  have hCsc : ∀ b ∈ zC N, sc.heap.objs.size ≤ b := fun b hb => Nat.le_trans ssz (hCs b hb)
  have hCf : ∀ b ∈ zC N, b ∉ frs X.stack := fun b hb hm => by
    rcases List.mem_cons.mp (I2.stkSub _ hm) with z | z
    · exact absurd (Nat.lt_of_lt_of_le I2.lt (hCsc b hb)) (by rw [z]; exact Nat.lt_irrefl _)
    · exact I2.nofs (hCsc b hb) z
  have aN : a < N := m2
  have aC : a ∉ zC N := fun hb => absurd (Nat.lt_of_lt_of_le aN (hCs a hb)) (Nat.lt_irrefl _)
  have cs : cStatics ∉ zC N := fun hb => by
    have : cStatics < s2.heap.objs.size := let ⟨_, q, _⟩ := ml; q.lt
    rw [hN] at this
    exact absurd (Nat.lt_of_lt_of_le this (hCs _ hb)) (Nat.lt_irrefl _)
  have noLim : ∀ (h' : Heap) {H' : Hp}, Un (frs X.stack) [] H1 H' sc.heap h' → h'.NoLimit := fun h' {H'} un => I2.ok.mod.nolimit.keeps fun b o eb => un.keep b o (I2.bs b o eb).1 (I2.bs b o eb).2 (fun hm => by
    rcases List.mem_cons.mp (I2.stkSub b hm) with z | z
    · have q1 := Heap.lt_size eb
      have q2 := Nat.le_trans I2.ok.bsz I2.ok.above
      rw [z] at q1
      exact absurd (Nat.lt_of_lt_of_le q1 q2) (Nat.lt_irrefl _)
    · exact I2.ok.nofr eb z) (fun hb => (nomatch hb))
  suffices loop : ∀ (m j : Nat) (s : Shared), j + m = n → ZL X.prog X.w X.A.in1.in1.in1.in1 X.stack H1 sc ⟨fun ys H1 => ys.length = n → ∀ q, H1 q = none → Q (.ref q) H1, n⟩ N a g n j s →
      codeAny (model X.prog X.w) X.A.in1 (.builtin "list.extend.loop" ⟨[.ref (N + 4), .ref (N + 3), .none], []⟩) R s by
    have hsd : ∀ b ∈ zC N, ∃ o, h3.get? b = some o ∧ ∀ v, o.data ≠ .cell v := fun b hb => by
      obtain ⟨c5, z5⟩ := z5
      rcases mem_zC.mp hb with q | q | q | q | q
      · rw [q]; exact ⟨_, z1, fun v q => by cases q⟩
      · rw [q]; exact ⟨_, z3, fun v q => by cases q⟩
      · rw [q]; exact ⟨_, z4, fun v q => by cases q⟩
      · rw [q]; exact ⟨_, z5, fun v q => by cases q⟩
      · rw [q]; exact ⟨_, z2, fun v q => by cases q⟩
    obtain ⟨c5, z5⟩ := z5
    have kp : ∀ b o, sc.heap.get? b = some o → h3.get? b = some o := fun b o q => z6 b o (mk b o q)
    refine loop n 0 _ (Nat.zero_add _) ⟨⟨_, _, z1, .inl rfl⟩, z2, ⟨_, _, z3⟩, by simpa using z4, ⟨_, _, z5, rfl⟩, mg.keeps z6, ml.keeps z6, mos, mb, ⟨H1, Un.kept kp, I2.hok.kept kp, fun b hb => I2.hok.fresh (hCsc b hb), fun q => absurd q (Nat.lt_irrefl _)⟩, _, mgs, fun _ t ht => ⟨rfl, ?_⟩⟩
    refine wake X.A.in1.in1.in1.in1 (zC N) (t.setGen g .running) ⟨hr.hd, by have := hr.dp; show X.A.depth + 3 * k + 5 < _; omega, by have := hr.un; show X.A.units + 1 + 1 + 1 + 1 + 16 * k + 200 < _; omega⟩ I2.ok.frames
      hCs (fun b o q => ht.keep b o (fun hb => ?_) (z6 b o q)) ht.own (ht.os.trans mos) (allBare_setGen ht.bare rfl)
    have lt := Heap.lt_size q
    rw [hN] at lt
    exact absurd (Nat.lt_of_lt_of_le lt (hCs b hb)) (Nat.lt_irrefl _)
  intro m
  induction m with
  | zero =>
    intro j s hj z
    have ej : j = n := by omega
    subst ej
    obtain ⟨⟨f0, b, hz, hf⟩, hTI, ⟨a1, a2, hTO⟩, hrg, _, _, _, hos, hb, ⟨H', hu, hok, hL, hG⟩, _⟩ := z
    obtain ⟨ys, hy, hG⟩ := hG hn
    have hle : ((j : Nat) : Int) - ((j : Nat) : Int) ≤ 0 := by omega
    have fin : ∀ h' : Heap, (∀ c o, c ≠ N + 3 → c ≠ N + 2 → c ≠ N → s.heap.get? c = some o → h'.get? c = some o) → R (.ok (.ret .none)) { s with heap := h' } := fun h' hk0 => by
      have hk : ∀ b o, b ∉ zC N → s.heap.get? b = some o → h'.get? b = some o := fun b o hb q =>
        hk0 b o (fun e => hb (mem_zC.mpr (.inl e))) (fun e => hb (mem_zC.mpr (.inr (.inl e)))) (fun e => hb (mem_zC.mpr (.inr (.inr (.inl e))))) q
      exact z7 _ ⟨.ref _, H', I2.unpinned.call' (ch := []) hos (un_but hu hCsc hCf hk) (hok_but hok hL hk) hb fun b z => (nomatch z), rfl, hG hy _ (hL _ (mem_zC.mpr (.inr (.inr (.inr (.inl rfl))))))⟩
    refine extend_turn ⟨_, hz, rfl⟩ ?_
    by_cases hf2 : ZFree s.heap f0
    · exact zip_end0 hr.hd (zap _) hz hf2 hTI hTO hrg hle fun h' b hk ho => .inl ⟨b, rfl, ho, fin h' hk⟩
    · rcases hf with rfl | ⟨T, rfl⟩
      · exact absurd (.inl rfl) hf2
      · cases eT : s.heap.get? T with
        | none => exact absurd (.inr ⟨T, rfl, eT⟩) hf2
        | some oT => exact zip_endN hr.hd (zap _) hz eT hTI hrg hle fun h' b hk ho => .inl ⟨b, rfl, ho, fin h' fun c o q1 _ q3 q => hk c o q1 q3 q⟩
  | succ m ih =>
    intro j s hj z
    obtain ⟨⟨f0, bz, hz, hf⟩, hTI, ⟨a1, a2, hTO⟩, hrg, ⟨acc, ca, hL, hacc⟩, hgen, hlim, hos, hb, _, ⟨gs, hgs, hgo⟩⟩ := z
    have hlt : (0 : Int) < (n : Int) - (j : Nat) := by omega
    obtain ⟨m', hm'⟩ : ∃ m', sizeLine - j = m' + 1 := ⟨sizeLine - j - 1, by rw [sizeLine_eq]; omega⟩
    have hm2 : sizeLine - (j + 1) = m' := by omega
    have nz : ∀ {x y : Nat}, x ≠ y → (N + x : Nat) ≠ N + y := fun h q => h (by omega)
    -- the step of the generator, and what follows it
    have step : ∀ (h1 : Heap) (tk : Nat) (t : Tok) (Q2 : Option Value → Shared → Prop) (E2 : Value → Shared → Prop), (∃ f b, IsZipB h1 (N + 3) (N + 1) (N + 2) f b) → (∃ a1 a2, IsTupOf2 h1 (N + 2) a1 a2) → IsRangeIter h1 N ((j : Nat) + 1) ((n : Int) - (j : Nat) - 1) 1 →
        (∀ c o, c ≠ N + 3 → c ≠ N + 2 → c ≠ N → s.heap.get? c = some o → h1.get? c = some o) →
        (∀ (v : Value) (s₁ : Shared) (gs' : GenState), (∀ b ∈ zC N, ∀ o, h1.get? b = some o → s₁.heap.get? b = some o) → (∀ h' : Heap, (∃ f b, IsZipB h' (N + 3) (N + 1) (N + 2) f b ∧ (f = .none ∨ ∃ T : Addr, f = rawInt T)) → (∃ a1 a2, IsTupOf2 h' (N + 2) a1 a2) → (∀ c o, c ≠ N + 3 → c ≠ N + 2 → s₁.heap.get? c = some o → h'.get? c = some o) →
          ∃ acc c, h'.get? (N + 4) = some (lstObj acc c) ∧ acc.size < sizeLine ∧ ∀ u, codeAny (model X.prog X.w) X.A.in1 (.builtin "list.extend.loop" ⟨[.ref (N + 4), .ref (N + 3), .none], []⟩) R { s₁.setGen g gs' with heap := h'.update (N + 4) (Obj.mapSeq (·.push u)) }) → Q2 (some v) (s₁.setGen g gs')) →
        wpAny (model X.prog X.w) X.A.in1.in1.in1 (callSpecial? (.ref a) "__next__") Q2 E2 { s with heap := h1, toks := tk } := fun h1 tk t Q2 E2 y1 y2 y3 y5 hQ2 => by
      have kC : ∀ b o, b ∉ zC N → s.heap.get? b = some o → h1.get? b = some o := fun b o hb q =>
        y5 b o (fun e => hb (mem_zC.mpr (.inl e))) (fun e => hb (mem_zC.mpr (.inr (.inl e)))) (fun e => hb (mem_zC.mpr (.inr (.inr (.inl e))))) q
      have hL1 : h1.get? (N + 4) = some (lstObj acc ca) := y5 _ _ (nz (by decide)) (nz (by decide)) (nz (x := 4) (y := 0) (by decide)) hL
      have hTI1 : IsTupOf2 h1 (N + 1) (.ref N) (.ref a) := y5 _ _ (nz (by decide)) (nz (by decide)) (nz (x := 1) (y := 0) (by decide)) hTI
      have nap : Nap (zC N) s { s with heap := h1, toks := tk } := ⟨rfl, hb, kC, fun b hb => by
        obtain ⟨f, bb, y1⟩ := y1
        obtain ⟨b1, b2, y2⟩ := y2
        rcases mem_zC.mp hb with q | q | q | q | q
        · rw [q]; exact ⟨_, y1, fun v q => by cases q⟩
        · rw [q]; exact ⟨_, y2, fun v q => by cases q⟩
        · rw [q]; exact ⟨_, y3, fun v q => by cases q⟩
        · rw [q]; exact ⟨_, hL1, fun v q => by cases q⟩
        · rw [q]; exact ⟨_, hTI1, fun v q => by cases q⟩⟩
      have lim1 : h1.NoLimit := let ⟨mc, q1, q2⟩ := hlim; ⟨mc, q1.at' fun o e => kC _ o cs e, q2⟩
      have gen1 : h1.IsGen a g := let ⟨o, nm, qn, e, q⟩ := hgen; ⟨o, nm, qn, kC _ _ aC e, q⟩
      have hgl : g < s.gens.size := (Array.getElem?_eq_some_iff.mp hgs).1
      refine wpAny_gsz (n := g + 1) hgl (gen_special (n := sizeLine - j) lim1 (by have := hr.dp; show X.A.depth < _; omega) gen1 hgs (hgo (by omega) _ nap) (fun r s₁ hR => ?_) fun v s₁ gs' hbare hv hsz => ?_)
      · rcases hR with ⟨_, _, _, _, _, _, _, _, _, hF⟩ | ⟨_, _, hc, _⟩
        · exact hF.elim
        · obtain ⟨_, _, _, _, _, _, _, _, _, _, _, _, hF⟩ := hc
          exact hF.elim
      · rw [hm'] at hv
        obtain ⟨ys, x, H', hlen, rv, hG, os1, bare1, gen2, un1, hok1, still, kap⟩ := hv
        have ylen : ys.length = j := by omega
        have noC : ∀ b ∈ zC N, H' b = none := fun b hb => (still b hb).1
        have keepC : ∀ b ∈ zC N, ∀ o, h1.get? b = some o → s₁.heap.get? b = some o := fun b hb o e => (still b hb).2 o e
        refine hQ2 v s₁ gs' keepC fun h' zz zt hk => ?_
        have hk2 : ∀ b o, b ∉ zC N → s₁.heap.get? b = some o → h'.get? b = some o := fun b o hb q => hk b o (fun e => hb (mem_zC.mpr (.inl e))) (fun e => hb (mem_zC.mpr (.inr (.inl e)))) q
        have hL2 : h'.get? (N + 4) = some (lstObj acc ca) := hk _ _ (nz (by decide)) (nz (by decide)) (keepC _ (mem_zC.mpr (.inr (.inr (.inr (.inl rfl))))) _ hL1)
        have hR2 : IsRangeIter h' N ((j : Nat) + 1) ((n : Int) - (j : Nat) - 1) 1 := hk _ _ (nz (x := 0) (y := 3) (by decide)) (nz (x := 0) (y := 2) (by decide)) (keepC _ (mem_zC.mpr (.inr (.inr (.inl rfl)))) _ y3)
        refine ⟨acc, ca, hL2, by rw [sizeLine_eq]; omega, fun u => ?_⟩
        have up : ∀ b o, b ≠ N + 4 → h'.get? b = some o → (h'.update (N + 4) (Obj.mapSeq (·.push u))).get? b = some o := fun b o hb e => (Heap.get?_update_other _ _ (Ne.symm hb)).trans e
        have hk3 : ∀ b o, b ∉ zC N → s₁.heap.get? b = some o → (h'.update (N + 4) (Obj.mapSeq (·.push u))).get? b = some o := fun b o hb e =>
          up b o (fun q => hb (mem_zC.mpr (.inr (.inr (.inr (.inl q)))))) (hk2 b o hb e)
        have gsz : g < s₁.gens.size := by
          have q : (s₁.setGen g gs').gens.size = s₁.gens.size := setGen_size _ _ _
          have q2 : g + 1 ≤ (s₁.setGen g gs').gens.size := hsz
          omega
        refine ih (j + 1) _ (by omega) ⟨?_, ?_, ?_, ?_, ?_, ?_, ?_, os1, ?_, ?_, ?_⟩
        · obtain ⟨f, bb, q1, q2⟩ := zz
          exact ⟨f, bb, up _ _ (nz (by decide)) q1, q2⟩
        · exact up _ _ (nz (by decide)) (hk _ _ (nz (by decide)) (nz (by decide)) (keepC _ (mem_zC.mpr (.inr (.inr (.inr (.inr rfl))))) _ hTI1))
        · obtain ⟨b1, b2, q⟩ := zt
          exact ⟨b1, b2, up _ _ (nz (by decide)) q⟩
        · have e1 : (((j + 1 : Nat) : Int)) = (j : Nat) + 1 := by omega
          have e2 : (n : Int) - (((j : Nat) : Int) + 1) = (n : Int) - (j : Nat) - 1 := by omega
          rw [e1, e2]
          exact up _ _ (nz (x := 0) (y := 4) (by decide)) hR2
        · exact ⟨acc.push u, _, Heap.get?_update_self _ hL2 rfl, by rw [Array.size_push, hacc]⟩
        · exact let ⟨o, nm, qn, e, q⟩ := gen2; ⟨o, nm, qn, hk3 _ _ aC e, q⟩
        · exact noLim _ (un_but un1 hCsc hCf hk3)
        · exact allBare_setGen bare1 hbare
        · exact ⟨H', un_but un1 hCsc hCf hk3, hok_but hok1 noC hk3, noC, fun _ => ⟨ys ++ [x], by rw [List.length_append, ylen]; rfl, hG⟩⟩
        · refine ⟨gs', setGen_at gsz, fun lt t ht => ?_⟩
          rw [hm2]
          exact kap (by show ys.length + 1 < n; omega) (t.setGen g .running) ⟨ht.os, allBare_setGen ht.bare rfl, fun b o hb e => ht.keep b o hb (hk3 b o hb e), ht.own⟩
    have zin : N + 3 ∈ zC N := mem_zC.mpr (.inl rfl)
    have tin : N + 2 ∈ zC N := mem_zC.mpr (.inr (.inl rfl))
    refine extend_turn ⟨_, hz, rfl⟩ ?_
    by_cases hf2 : ZFree s.heap f0
    · refine zip_turn0 (zap _) hz hf2 hTI hTO hrg hlt fun h1 tk t y1 y2 y3 y4 y5 => step h1 tk t _ _ ⟨_, _, y1⟩ ⟨_, _, y2⟩ y3 y5 fun v s₁ gs' keepC fin => ⟨v, rfl, keepC _ zin _ y1, keepC _ tin _ y2, fun h' q1 q2 q3 q4 q5 => ?_⟩
      obtain ⟨acc, c, e1, e2, e3⟩ := fin h' ⟨_, _, q1, .inr ⟨_, rfl⟩⟩ ⟨_, _, q2⟩ q5
      exact ⟨acc, c, e1, e2, e3 _⟩
    · rcases hf with rfl | ⟨T, rfl⟩
      · exact absurd (.inl rfl) hf2
      · cases eT : s.heap.get? T with
        | none => exact absurd (.inr ⟨T, rfl, eT⟩) hf2
        | some oT =>
          refine zip_turnN (zap _) hz eT hTI hrg hlt fun h1 tk t y1 y3 y4 y5 => ?_
          have y2 : IsTupOf2 h1 (N + 2) a1 a2 := y5 _ _ (nz (by decide)) (nz (x := 2) (y := 0) (by decide)) hTO
          refine step h1 tk t _ _ ⟨_, _, y1⟩ ⟨_, _, y2⟩ y3 (fun c o q1 _ q3 q => y5 c o q1 q3 q) fun v s₁ gs' keepC fin => ⟨v, rfl, fun h' q3 q4 q5 => ?_⟩
          obtain ⟨acc, c, e1, e2, e3⟩ := fin h' ⟨_, _, q5 _ _ (keepC _ zin _ y1), .inr ⟨_, rfl⟩⟩ ⟨_, _, q5 _ _ (keepC _ tin _ y2)⟩ (fun c o _ _ q => q5 c o q)
          exact ⟨acc, c, e1, e2, e3 _⟩
end
end FM
-- FmRevS
set_option maxRecDepth 100000
set_option maxHeartbeats 1000000
/-! a text's [::-1] -/
namespace FM
open PySem PySem.Spec PyProof.Rows L2
/-- the text backwards -/
def backS (z : Str) : Str := ⟨((Builtin.Str.strSliceIndices none none (-1) z.length).filterMap (z.cps[·]?)).toArray⟩
def tBackS (te : TE) : TE := fun σ H Q => te σ H fun x H1 => ∃ z : Str, x = .str z ∧ (backS z).length ≤ sizeLine ∧ Q (.str (backS z)) H1
section
variable {X : Cx}
theorem pe_backS {e : Expr} {te : TE} {k : Nat} {p1 p2 p3 pos : Pos} (he : PE X e te) : PE X (.Subscript e (.Slice none none (some (.UnaryOp .USub (.Constant (.int 1) k p1) p2)) p3) pos) (tBackS te) := by
  refine ⟨fun pins s σ H Q I h => ?_⟩
  refine Subscript_ (thn (he.run pins s σ H _ I h) fun v s1 ⟨x, H1, I1, r1, q1⟩ => ?_)
  obtain ⟨z, rfl, hz, q⟩ := q1
  obtain ⟨t, rfl⟩ := r1
  have hst : PO X (some (.UnaryOp .USub (.Constant (.int 1) k p1) p2)) (tPart (tUn (rU fun i => .int (-i)) (tC (.int 1)))) := po_some (pe_un un_neg pe_int)
  refine wpAny_Slice (thn (po_none.run pins s1 σ H1 (fun o H2 => o = none ∧ H2 = H1) I1 ⟨rfl, rfl⟩) fun vl s2 ⟨l, H2, I2, pl, el, e2⟩ => ?_)
  subst el e2
  refine thn (po_none.run pins s2 σ H2 (fun o H3 => o = none ∧ H3 = H2) I2 ⟨rfl, rfl⟩) fun vu s3 ⟨u, H3, I3, pu, eu, e3⟩ => ?_
  subst eu e3
  refine thn (hst.run pins s3 σ H3 (fun o H4 => o = some (-1) ∧ H4 = H3) I3 ⟨1, rfl, -1, rfl, rfl, rfl⟩) fun vs s4 ⟨o, H4, I4, ps, eo, e4⟩ => ?_
  subst eo e4
  have I5 : Inv X pins σ H4 { s4 with heap := s4.heap.push { cls := .type "slice", data := .fields #[vl, vu, vs] } } := I4.kept (t' := s4.toks) fun b ob q => Heap.get?_push_of_some _ q
  obtain ⟨l, e1, f1⟩ := IsPart.raw pl
  obtain ⟨u, e2, f2⟩ := IsPart.raw pu
  obtain ⟨st, e3, f3⟩ := IsPart.raw ps
  show wpAny (model X.prog X.w) X.A (subscriptTail e (.Slice none none (some (.UnaryOp .USub (.Constant (.int 1) k p1) p2)) p3) (.str z t) (.ref s4.heap.objs.size)) (EP X pins σ Q) X.xe { s4 with heap := s4.heap.push { cls := .type "slice", data := .fields #[vl, vu, vs] } }
  refine tail_any (ops := [.str z t, .ref s4.heap.objs.size]) (typeIs_str _ _ _) F.slot_str_getitem.lookup ?_ (by with_unfolding_all rfl)
  subst e1 e2 e3
  cases l with
  | some l => cases f1
  | none =>
  cases u with
  | some u => cases f2
  | none =>
  obtain ⟨tk, rfl⟩ : ∃ tk, st = some (-1, tk) := by
    cases st with
    | none => cases f3
    | some p =>
      obtain ⟨i, tk⟩ := p
      have e : i = -1 := by simpa using f3
      exact ⟨tk, by rw [e]⟩
  refine wpAny_getItem_str_slice (l := none) (u := none) (st := some (-1, tk)) ⟨_, Heap.get?_push_size _ rfl, rfl, rfl⟩ rfl ?_
  exact ⟨hz, .str _, H4, I5.tok _, ⟨_, rfl⟩, q⟩
end
end FM
-- FmBackT
set_option maxRecDepth 100000
set_option maxHeartbeats 1000000
/-! a tuple's [::-1] -/
namespace FM
open PySem PySem.Spec PyProof.Rows L2
theorem applied_back {pr : Program} {wd : World} {ar : Around} {Er : Value → Shared → Prop} {st : Shared} {sl : Addr} {tk : Tok} {n : Nat} {Qr : Int × Int × Nat → Shared → Prop}
    (isS : st.heap.IsSliceOf sl .none .none (.int (-1) tk)) (q : Qr ((n : Int) - 1, -1, n) st) : wpAny (model pr wd) ar (Builtin.Slice.sliceApplied (.ref sl) (pure (n : Int))) Qr Er st := by
  have count : Builtin.Slice.slicePlaces ((n : Int) - 1) (-1) (-1) = n := by
    unfold Builtin.Slice.slicePlaces
    have one : (- (-1) : Int) = 1 := rfl
    rw [if_neg (by decide : ¬ ((-1 : Int) > 0)), one]
    simp only [Int.ediv_one]
    split <;> omega
  obtain ⟨osl, there, _, flds⟩ := isS
  unfold Builtin.Slice.sliceApplied Builtin.Slice.sliceFields
  refine wpAny_bind (wpAny_bind (wpAny_field there flds (x := .none) rfl (wpAny_bind ?_)))
  refine wpAny_field there flds (x := .none) rfl (wpAny_bind ?_)
  refine wpAny_field there flds (x := .int (-1) tk) rfl (wpAny_pure (wpAny_bind (slicePart_int ?_)))
  show wpAny _ _ (if ((-1 : Int) == 0) = true then _ else _) _ _ st
  rw [if_neg (by decide)]
  refine wpAny_bind (slicePart_none (wpAny_bind (slicePart_none (wpAny_bind (wpAny_pure ?_)))))
  show wpAny _ _ (pure ((n : Int) - 1, (-1 : Int), Builtin.Slice.slicePlaces ((n : Int) - 1) (-1) (-1))) _ _ st
  rw [count]
  exact wpAny_pure q
theorem pick_back (xs : Array Value) : ((List.range xs.size).filterMap fun (m : Nat) => xs[(((xs.size : Int) - 1) + (m : Int) * (-1)).toNat]?) = xs.toList.reverse := by
  have key : ∀ n, n = xs.size → (List.range n).filterMap (fun (m : Nat) => xs[(((xs.size : Int) - 1) + (m : Int) * (-1)).toNat]?) = (List.range n).map fun m => xs.toList.reverse.getD m .none := by
    intro n hn
    have : ∀ l : List Nat, (∀ m ∈ l, m < xs.size) → l.filterMap (fun (m : Nat) => xs[(((xs.size : Int) - 1) + (m : Int) * (-1)).toNat]?) = l.map fun m => xs.toList.reverse.getD m .none := by
      intro l
      induction l with
      | nil => intro _; rfl
      | cons a r ih =>
        intro h
        have ha := h a List.mem_cons_self
        have e1 : (((xs.size : Int) - 1) + (a : Int) * (-1)).toNat = xs.size - 1 - a := by omega
        have lt : xs.size - 1 - a < xs.size := by omega
        have e2 : xs[(((xs.size : Int) - 1) + (a : Int) * (-1)).toNat]? = some (xs.toList.reverse.getD a .none) := by
          rw [e1, Array.getElem?_eq_getElem lt, List.getD_eq_getElem?_getD, List.getElem?_reverse (by simpa using ha)]
          simp [lt]
        rw [List.filterMap_cons, e2, List.map_cons, ih fun m hm => h m (List.mem_cons_of_mem _ hm)]
    exact this _ fun m hm => by rw [← hn]; exact List.mem_range.mp hm
  rw [key _ rfl]
  refine List.ext_getElem (by simp) fun j h1 h2 => ?_
  have hj : j < xs.toList.reverse.length := h2
  rw [List.getElem_map, List.getElem_range, List.getD_eq_getElem?_getD, List.getElem?_eq_getElem hj]
  rfl
theorem getItem_tuple_back {pr : Program} {wd : World} {ar : Around} {Er Qr : Value → Shared → Prop} {st : Shared} {t sl : Addr} {us : Array Value} {tk : Tok} (isT : IsTup st.heap t us) (isS : st.heap.IsSliceOf sl .none .none (.int (-1) tk))
    (q : Qr (.ref st.heap.objs.size) { st with heap := st.heap.push { cls := .type "tuple", data := .seq us.toList.reverse.toArray } }) (most : us.size ≤ sizeLine) : wpAny (model pr wd) ar (getItem (.ref t) (.ref sl)) Qr Er st := by
  have fits : sizeOk (.seq us.toList.reverse.toArray) := by
    unfold sizeOk
    simpa using most
  have sliceCls : st.TypeIs (.ref sl) "slice" := let ⟨o, z, c, _⟩ := isS; ⟨o, z, c⟩
  have notWhole : (((us.size : Int) - 1 == 0) && (-1 : Int) == 1 && us.size == us.size) = false := by
    rw [show ((-1 : Int) == 1) = false from rfl, Bool.and_false, Bool.false_and]
  unfold getItem
  try with_reducible refine wpAny_holding ?_
  try refine wpAny_bind (wpAny_pure ?_)
  refine wpAny_bind (wpAny_sequenceKey isT.typeIs (by decide) ?_)
  refine wpAny_bind (wpAny_callSpecial?_slot (name := Str.ofString "__getitem__") isT.typeIs PyProof.Rows.slot_tuple_getitem ?_)
  refine wpAny_call_entry PyProof.Rows.slot_tuple_getitem isT.typeIs entry_tuple_getitem ?_ (args_tuple_getitem _ _)
  show wpAny _ _ (Builtin.Tuple.tupleItemsOf (.ref t) >>= _) _ _ st
  refine wpAny_bind (tupleItemsOf_ isT (wpAny_bind (wpAny_typeOf sliceCls ?_)))
  rw [if_pos (by decide)]
  refine wpAny_bind (applied_back isS ?_)
  show wpAny _ _ (if (((us.size : Int) - 1 == 0) && (-1 : Int) == 1 && us.size == us.size) = true then _ else _) _ _ st
  rw [notWhole, if_neg Bool.false_ne_true, pick_back]
  exact wpAny_bind (m := Builtin.Tuple.tupleExact _) (wpAny_newObj_type (wpAny_pure ⟨_, rfl, wpAny_pure q⟩) fits)
theorem Vals.rev {xs : List V} {us : List Value} (r : Vals xs us) : Vals xs.reverse us.reverse := by
  induction r with
  | nil => exact .nil
  | cons a _ ih =>
    rw [List.reverse_cons, List.reverse_cons]
    exact ih.append (.cons a .nil)
def tBackT (K : PySem.W.Frag) (te : TE) : TE := fun σ H Q => te σ H fun x H1 => ∃ a xs, x = .ref a ∧ SqT K H1 a xs ∧ ∀ p, H1 p = none → Q (.ref p) (upd H1 p (.tup xs.reverse))
theorem pe_backT {X : Cx} {e : Expr} {te : TE} {k : Nat} {p1 p2 p3 pos : Pos} (he : PE X e te) : PE X (.Subscript e (.Slice none none (some (.UnaryOp .USub (.Constant (.int 1) k p1) p2)) p3) pos) (tBackT X.K te) := by
  constructor
  intro pins st σ H Q I go
  have less : PO X (some (.UnaryOp .USub (.Constant (.int 1) k p1) p2)) (tPart (tUn (rU fun i => .int (-i)) (tC (.int 1)))) := po_some (pe_un un_neg pe_int)
  refine Subscript_ (thn (he.run pins st σ H _ I go) ?_)
  rintro v0 s1 ⟨x, H1, I1, rv0, a, xs, rfl, hx, q⟩
  cases rv0
  have part1 := po_none.run pins s1 σ H1 (fun o Hn => o = none ∧ Hn = H1) I1 ⟨rfl, rfl⟩
  refine wpAny_Slice (thn part1 ?_)
  rintro vl s2 ⟨_, _, I2, pl, rfl, rfl⟩
  have part2 := po_none.run pins s2 σ _ (fun o Hn => o = none ∧ Hn = _) I2 ⟨rfl, rfl⟩
  refine thn part2 ?_
  rintro vu s3 ⟨_, _, I3, pu, rfl, rfl⟩
  have part3 := less.run pins s3 σ _ (fun o Hn => o = some (-1) ∧ Hn = _) I3 ⟨1, rfl, -1, rfl, rfl, rfl⟩
  refine thn part3 ?_
  rintro vs s4 ⟨_, _, I4, ps, rfl, rfl⟩
  cases pl
  cases pu
  obtain ⟨tk, rfl⟩ : ∃ tk, vs = .int (-1) tk := by
    cases ps
    exact ⟨_, rfl⟩
  have I5 := I4.kept (t' := s4.toks) (h' := s4.heap.push { cls := .type "slice", data := .fields #[.none, .none, .int (-1) tk] }) fun _ _ z => Heap.get?_push_of_some _ z
  obtain ⟨its, rel, isT, most⟩ := I5.tuple hx
  have ln := rel.length
  have szo : its.toArray.size ≤ sizeLine := by
    rw [List.size_toArray]
    omega
  show wpAny (model X.prog X.w) X.A (subscriptTail e (.Slice none none (some (.UnaryOp .USub (.Constant (.int 1) k p1) p2)) p3) (.ref a) (.ref s4.heap.objs.size)) (EP X pins σ Q) X.xe { s4 with heap := s4.heap.push { cls := .type "slice", data := .fields #[.none, .none, .int (-1) tk] } }
  refine tail_any (ops := [.ref a, .ref s4.heap.objs.size]) isT.typeIs PyProof.Rows.slot_tuple_getitem.lookup (getItem_tuple_back isT (tk := tk) ⟨_, Heap.get?_push_size _ rfl, rfl, rfl⟩ ?_ szo) (by with_unfolding_all rfl)
  have turned := I5.laid (t' := s4.toks) (o := .tup xs.reverse) (fun _ _ z => Heap.get?_push_of_some _ z) (Nat.le_refl _) ⟨by rw [List.length_reverse]; exact most, _, Vals.rev rel, IsTup.new _ _⟩
  exact ⟨.ref _, _, turned, rfl, q _ (I5.hok.fresh (Nat.le_refl _))⟩
end FM
-- FmNfa
/-! texts that fit items, read letter by letter (pure) -/
namespace FM
abbrev Item := List Nat × Bool
def fitsA (ls : List Nat) (k : Bool) (f : List Nat → Bool) : List Nat → Bool
  | [] => k && f []
  | c :: t => if k = true then f (c :: t) || (decide (c ∈ ls) && fitsA ls k f t) else decide (c ∈ ls) && f t
/-- whether a text fits the items -/
def fitsL : List Item → List Nat → Bool
  | [], t => t.isEmpty
  | it :: r, t => fitsA it.1 it.2 (fitsL r) t
def Piece (it : Item) (s : List Nat) : Prop := if it.2 = true then ∀ c ∈ s, c ∈ it.1 else ∃ c ∈ it.1, s = [c]
def Fits : List Item → List Nat → Prop
  | [], t => t = []
  | it :: r, t => ∃ s1 s2, t = s1 ++ s2 ∧ Piece it s1 ∧ Fits r s2
theorem fitsA_iff {it : Item} {f : List Nat → Bool} {F : List Nat → Prop} (h : ∀ t, f t = true ↔ F t) : ∀ t, fitsA it.1 it.2 f t = true ↔ ∃ s1 s2, t = s1 ++ s2 ∧ Piece it s1 ∧ F s2
  | [] => by
    unfold fitsA Piece
    cases hk : it.2 with
    | true =>
      simp only [Bool.true_and, h, if_true]
      constructor
      · exact fun q => ⟨[], [], rfl, fun _ z => (nomatch z), q⟩
      · rintro ⟨s1, s2, e, _, q⟩
        obtain ⟨rfl, rfl⟩ := List.append_eq_nil_iff.mp e.symm
        exact q
    | false =>
      simp only [Bool.false_and, Bool.false_eq_true, if_false, false_iff]
      rintro ⟨s1, s2, e, ⟨c, _, rfl⟩, q⟩
      cases e
  | c :: t => by
    have ih := fitsA_iff (it := it) h t
    unfold fitsA Piece
    unfold Piece at ih
    cases hk : it.2 with
    | true =>
      simp only [hk, if_true] at ih
      simp only [if_true, Bool.or_eq_true, Bool.and_eq_true, decide_eq_true_eq, h, ih]
      constructor
      · rintro (q | ⟨hc, s1, s2, rfl, hs, q⟩)
        · exact ⟨[], _, rfl, fun _ z => (nomatch z), q⟩
        · refine ⟨c :: s1, s2, rfl, fun d hd => ?_, q⟩
          rcases List.mem_cons.mp hd with rfl | hd
          · exact hc
          · exact hs d hd
      · rintro ⟨s1, s2, e, hs, q⟩
        cases s1 with
        | nil =>
          have e' : c :: t = s2 := e
          rw [e']
          exact .inl q
        | cons d s1 =>
          rw [List.cons_append] at e
          cases e
          exact .inr ⟨hs _ List.mem_cons_self, s1, s2, rfl, fun x hx => hs x (List.mem_cons_of_mem _ hx), q⟩
    | false =>
      simp only [Bool.false_eq_true, if_false, Bool.and_eq_true, decide_eq_true_eq, h]
      constructor
      · rintro ⟨hc, q⟩
        exact ⟨[c], t, rfl, ⟨c, hc, rfl⟩, q⟩
      · rintro ⟨s1, s2, e, ⟨d, hd, rfl⟩, q⟩
        rw [List.singleton_append] at e
        cases e
        exact ⟨hd, q⟩
theorem fitsL_iff : ∀ (its : List Item) (t : List Nat), fitsL its t = true ↔ Fits its t
  | [], t => by
    unfold fitsL Fits
    cases t <;> simp
  | it :: r, t => by
    unfold fitsL Fits
    exact fitsA_iff (fitsL_iff r) t
theorem fits_append : ∀ (L M : List Item) (t : List Nat), Fits (L ++ M) t ↔ ∃ s1 s2, t = s1 ++ s2 ∧ Fits L s1 ∧ Fits M s2
  | [], M, t => by
    simp only [List.nil_append]
    constructor
    · exact fun h => ⟨[], t, rfl, rfl, h⟩
    · rintro ⟨s1, s2, rfl, e, h⟩
      have e' : s1 = [] := e
      subst e'
      exact h
  | it :: L, M, t => by
    show (∃ s1 s2, t = s1 ++ s2 ∧ Piece it s1 ∧ Fits (L ++ M) s2) ↔ _
    constructor
    · rintro ⟨s1, s2, rfl, hp, h⟩
      obtain ⟨a, b, rfl, h1, h2⟩ := (fits_append L M s2).mp h
      exact ⟨s1 ++ a, b, by rw [List.append_assoc], ⟨s1, a, rfl, hp, h1⟩, h2⟩
    · rintro ⟨s1, s2, rfl, ⟨a, b, rfl, hp, h1⟩, h2⟩
      exact ⟨a, b ++ s2, by rw [List.append_assoc], hp, (fits_append L M _).mpr ⟨b, s2, rfl, h1, h2⟩⟩
theorem fits_one (it : Item) (t : List Nat) : Fits [it] t ↔ Piece it t := by
  show (∃ s1 s2, t = s1 ++ s2 ∧ Piece it s1 ∧ s2 = []) ↔ _
  constructor
  · rintro ⟨s1, s2, rfl, h, rfl⟩
    rw [List.append_nil]
    exact h
  · exact fun h => ⟨t, [], by rw [List.append_nil], h, rfl⟩
theorem piece_rev (it : Item) (t : List Nat) : Piece it t.reverse ↔ Piece it t := by
  unfold Piece
  split
  · simp
  · constructor
    · rintro ⟨c, hc, e⟩
      exact ⟨c, hc, by have := congrArg List.reverse e; simpa using this⟩
    · rintro ⟨c, hc, rfl⟩
      exact ⟨c, hc, rfl⟩
theorem fits_rev : ∀ (L : List Item) (t : List Nat), Fits L t → Fits L.reverse t.reverse
  | [], t, h => by
    have h' : t = [] := h
    subst h'
    rfl
  | it :: L, t, h => by
    obtain ⟨s1, s2, rfl, hp, h⟩ := h
    rw [List.reverse_cons, List.reverse_append]
    exact (fits_append _ _ _).mpr ⟨_, _, rfl, fits_rev L s2 h, (fits_one _ _).mpr ((piece_rev _ _).mpr hp)⟩
theorem fits_rev_iff (L : List Item) (t : List Nat) : Fits L.reverse t ↔ Fits L t.reverse := by
  constructor
  · intro h
    have := fits_rev _ _ h
    rwa [List.reverse_reverse] at this
  · intro h
    have := fits_rev _ _ h
    rwa [List.reverse_reverse] at this
/-! ### traces -/
def bitF (its : List Item) : Nat → Bool
  | 0 => true
  | i + 1 => match its[i]? with
    | some it => it.2 && bitF its i
    | none => false
def bitN (its : List Item) (whole : Bool) (o : Nat → Bool) (c : Nat) : Nat → Bool
  | 0 => !whole
  | i + 1 => match its[i]? with
    | some it => (it.2 && bitN its whole o c i) || ((if it.2 = true then o (i + 1) else o i) && decide (c ∈ it.1))
    | none => false
def trB (its : List Item) (whole : Bool) (t : List Nat) : Nat → Bool := t.foldl (fun o c => bitN its whole o c) (bitF its)
/-- the first j items are fit by an end of the text -/
def EndsJ (its : List Item) (whole : Bool) (t : List Nat) (j : Nat) : Prop := ∃ pre s, t = pre ++ s ∧ (whole = true → pre = []) ∧ Fits (its.take j) s
theorem fits_nil : ∀ its : List Item, Fits its [] ↔ ∀ it ∈ its, it.2 = true
  | [] => by simp [Fits]
  | it :: r => by
    show (∃ s1 s2, [] = s1 ++ s2 ∧ Piece it s1 ∧ Fits r s2) ↔ _
    constructor
    · rintro ⟨s1, s2, e, hp, h⟩
      obtain ⟨rfl, rfl⟩ := List.append_eq_nil_iff.mp e.symm
      intro x hx
      rcases List.mem_cons.mp hx with rfl | hx
      · unfold Piece at hp
        cases hk : x.2 with
        | true => rfl
        | false =>
          rw [hk] at hp
          obtain ⟨c, _, e⟩ : ∃ c ∈ x.1, ([] : List Nat) = [c] := by simpa using hp
          cases e
      · exact (fits_nil r).mp h x hx
    · intro h
      refine ⟨[], [], rfl, ?_, (fits_nil r).mpr fun x hx => h x (List.mem_cons_of_mem _ hx)⟩
      unfold Piece
      rw [h it List.mem_cons_self]
      simp
theorem take_snoc {its : List Item} {j : Nat} {it : Item} (h : its[j]? = some it) : its.take (j + 1) = its.take j ++ [it] := by
  rw [List.take_add_one, h]
  rfl
theorem ends_nil (its : List Item) (whole : Bool) : ∀ j, j ≤ its.length → (bitF its j = true ↔ EndsJ its whole [] j)
  | 0, _ => by
    constructor
    · intro _
      exact ⟨[], [], rfl, fun _ => rfl, rfl⟩
    · intro _
      rfl
  | j + 1, hj => by
    have ih := ends_nil its whole j (by omega)
    have e : its[j]? = some its[j] := List.getElem?_eq_getElem hj
    have eE : ∀ k, EndsJ its whole [] k ↔ Fits (its.take k) [] := fun k => by
      constructor
      · rintro ⟨pre, s, e, _, h⟩
        obtain ⟨rfl, rfl⟩ := List.append_eq_nil_iff.mp e.symm
        exact h
      · exact fun h => ⟨[], [], rfl, fun _ => rfl, h⟩
    rw [eE] at ih ⊢
    rw [fits_nil] at ih ⊢
    unfold bitF
    rw [e, take_snoc e]
    simp only [Bool.and_eq_true, ih]
    constructor
    · rintro ⟨h1, h2⟩ x hx
      rcases List.mem_append.mp hx with hx | hx
      · exact h2 x hx
      · rw [List.mem_singleton.mp hx]; exact h1
    · intro h
      exact ⟨h _ (List.mem_append_right _ (List.mem_singleton.mpr rfl)), fun x hx => h x (List.mem_append_left _ hx)⟩
theorem snoc_split {pre s t : List Nat} {c : Nat} (h : t ++ [c] = pre ++ s) : (s = [] ∧ pre = t ++ [c]) ∨ ∃ s', s = s' ++ [c] ∧ t = pre ++ s' := by
  rcases List.eq_nil_or_concat s with rfl | ⟨s', d, rfl⟩
  · left
    rw [List.append_nil] at h
    exact ⟨rfl, h.symm⟩
  · right
    rw [List.concat_eq_append] at h ⊢
    rw [← List.append_assoc] at h
    obtain ⟨h1, h2⟩ := List.append_inj' h rfl
    cases h2
    exact ⟨s', rfl, h1⟩
theorem ends_snoc (its : List Item) (whole : Bool) (t : List Nat) (c : Nat) (o : Nat → Bool) (ho : ∀ j, j ≤ its.length → (o j = true ↔ EndsJ its whole t j)) :
    ∀ j, j ≤ its.length → (bitN its whole o c j = true ↔ EndsJ its whole (t ++ [c]) j)
  | 0, _ => by
    unfold bitN EndsJ
    cases whole with
    | true =>
      simp only [Bool.not_true, Bool.false_eq_true, false_iff]
      rintro ⟨pre, s, e, h1, h2⟩
      have e2 : s = [] := h2
      rw [h1 trivial, e2] at e
      simp at e
    | false =>
      simp only [Bool.not_false, true_iff]
      exact ⟨t ++ [c], [], by rw [List.append_nil], fun z => (by cases z), rfl⟩
  | j + 1, hj => by
    have ih := ends_snoc its whole t c o ho j (by omega)
    have e : its[j]? = some its[j] := List.getElem?_eq_getElem hj
    unfold bitN
    rw [e]
    simp only [Bool.or_eq_true, Bool.and_eq_true, decide_eq_true_eq, ih]
    have oj := ho j (by omega)
    have oj1 := ho (j + 1) hj
    generalize hit : its[j] = it at *
    have tk := take_snoc e
    unfold EndsJ at *
    rw [tk] at oj1 ⊢
    simp only [fits_append, fits_one] at oj1 ⊢
    cases hk : it.2 with
    | true =>
      simp only [true_and, if_true]
      rw [oj1]
      constructor
      · rintro (⟨pre, s, e, hw, hF⟩ | ⟨⟨pre, s, e, hw, s1, s2, rfl, hF, hp⟩, hc⟩)
        · refine ⟨pre, s, e, hw, s, [], by rw [List.append_nil], hF, ?_⟩
          unfold Piece
          rw [hk]
          simp
        · refine ⟨pre, s1 ++ s2 ++ [c], by rw [e]; simp, hw, s1, s2 ++ [c], by simp, hF, ?_⟩
          unfold Piece at hp ⊢
          rw [hk] at hp ⊢
          simp only [if_true] at hp ⊢
          intro d hd
          rcases List.mem_append.mp hd with hd | hd
          · exact hp d hd
          · rw [List.mem_singleton.mp hd]; exact hc
      · rintro ⟨pre, s, e, hw, s1, s2, rfl, hF, hp⟩
        have hp0 := hp
        unfold Piece at hp
        rw [hk] at hp
        simp only [if_true] at hp
        rcases List.eq_nil_or_concat s2 with rfl | ⟨s', d, rfl⟩
        · left
          exact ⟨pre, s1, by rw [e, List.append_nil], hw, hF⟩
        · right
          rw [List.concat_eq_append] at e hp
          have e2 : t ++ [c] = (pre ++ s1 ++ s') ++ [d] := by rw [e]; simp
          obtain ⟨h1, h2⟩ := List.append_inj' e2 rfl
          cases h2
          refine ⟨⟨pre, s1 ++ s', by rw [h1, List.append_assoc], hw, s1, s', rfl, hF, ?_⟩, hp c (by simp)⟩
          unfold Piece
          rw [hk]
          simp only [if_true]
          exact fun d hd => hp d (List.mem_append_left _ hd)
    | false =>
      simp only [Bool.false_eq_true, false_and, false_or, if_false]
      rw [oj]
      constructor
      · rintro ⟨⟨pre, s, e, hw, hF⟩, hc⟩
        refine ⟨pre, s ++ [c], by rw [e, List.append_assoc], hw, s, [c], rfl, hF, ?_⟩
        unfold Piece
        rw [hk]
        simp only [Bool.false_eq_true, if_false]
        exact ⟨c, hc, rfl⟩
      · rintro ⟨pre, s, e, hw, s1, s2, rfl, hF, hp⟩
        unfold Piece at hp
        rw [hk] at hp
        simp only [Bool.false_eq_true, if_false] at hp
        obtain ⟨d, hd, rfl⟩ := hp
        have e2 : t ++ [c] = (pre ++ s1) ++ [d] := by rw [e]; simp
        obtain ⟨h1, h2⟩ := List.append_inj' e2 rfl
        cases h2
        exact ⟨⟨pre, s1, h1, hw, hF⟩, hd⟩
theorem ends_all (its : List Item) (whole : Bool) (t : List Nat) : ∀ j, j ≤ its.length → (trB its whole t j = true ↔ EndsJ its whole t j) := by
  have key : ∀ (u pre : List Nat) (o : Nat → Bool), (∀ j, j ≤ its.length → (o j = true ↔ EndsJ its whole pre j)) → ∀ j, j ≤ its.length → (u.foldl (fun o c => bitN its whole o c) o j = true ↔ EndsJ its whole (pre ++ u) j) := by
    intro u
    induction u with
    | nil => intro pre o h j hj; rw [List.append_nil]; exact h j hj
    | cons c r ih =>
      intro pre o h j hj
      rw [List.foldl_cons]
      have := ih (pre ++ [c]) _ (ends_snoc its whole pre c o h) j hj
      rw [List.append_assoc] at this
      exact this
  exact key t [] (bitF its) (ends_nil its whole)
/-! ### as numbers -/
def numF (f : Nat → Bool) : Nat → Nat
  | 0 => 0
  | m + 1 => numF f m + if f m = true then 2 ^ m else 0
theorem numF_lt (f : Nat → Bool) : ∀ m, numF f m < 2 ^ m
  | 0 => by simp [numF]
  | m + 1 => by
    have := numF_lt f m
    unfold numF
    rw [Nat.pow_succ]
    split <;> omega
theorem numF_bit (f : Nat → Bool) : ∀ m j, j < m → numF f m / 2 ^ j % 2 = if f j = true then 1 else 0
  | 0, j, h => absurd h (Nat.not_lt_zero j)
  | m + 1, j, h => by
    unfold numF
    rcases Nat.lt_succ_iff_lt_or_eq.mp h with lt | rfl
    · have ih := numF_bit f m j lt
      split
      · obtain ⟨d, hd⟩ : ∃ d, m = j + (d + 1) := ⟨m - j - 1, by omega⟩
        have e : 2 ^ m = 2 ^ j * (2 * 2 ^ d) := by rw [hd, Nat.pow_add, Nat.pow_succ, Nat.mul_comm (2 ^ d) 2]
        rw [e, Nat.add_mul_div_left _ _ (Nat.two_pow_pos j), Nat.add_mul_mod_self_left, ih]
      · rw [Nat.add_zero, ih]
    · have lt := numF_lt f j
      split
      · rw [Nat.add_div_right _ (Nat.two_pow_pos j), Nat.div_eq_of_lt lt]
      · rw [Nat.add_zero, Nat.div_eq_of_lt lt]
end FM
-- K6Top
set_option maxRecDepth 100000
set_option maxHeartbeats 4000000
namespace K0
open PySem L2 FM He
abbrev sThrow : Stmt := top 27
abbrev sStart : Stmt := top 26
abbrev sPick : Stmt := top 28
abbrev s_is_tuple_of : Stmt := top 1
theorem sc_is_tuple_of : FnScope ["value", "many"] ["value", "many"] (defScope s_is_tuple_of) := ⟨rfl, rfl, rfl, by decide +kernel, rfl, by decide +kernel, by decide +kernel⟩
abbrev s_is_word : Stmt := top 9
theorem sc_is_word : FnScope ["value"] ["value"] (defScope s_is_word) := ⟨rfl, rfl, rfl, by decide +kernel, rfl, by decide +kernel, by decide +kernel⟩
abbrev s_is_text : Stmt := top 10
theorem sc_is_text : FnScope ["value"] ["value"] (defScope s_is_text) := ⟨rfl, rfl, rfl, by decide +kernel, rfl, by decide +kernel, by decide +kernel⟩
abbrev s_is_pattern : Stmt := top 14
theorem sc_is_pattern : FnScope ["value", "item"] ["value"] (defScope s_is_pattern) := ⟨rfl, rfl, rfl, by decide +kernel, rfl, by decide +kernel, by decide +kernel⟩
abbrev s_fits : Stmt := top 15
theorem sc_fits : FnScope ["pattern", "text"] ["pattern", "text"] (defScope s_fits) := ⟨rfl, rfl, rfl, by decide +kernel, rfl, by decide +kernel, by decide +kernel⟩
abbrev s_begins_with : Stmt := top 16
theorem sc_begins_with : FnScope ["pattern", "text", "back"] ["pattern", "text"] (defScope s_begins_with) := ⟨rfl, rfl, rfl, by decide +kernel, rfl, by decide +kernel, by decide +kernel⟩
abbrev s_ends_with : Stmt := top 17
theorem sc_ends_with : FnScope ["pattern", "text"] ["pattern", "text"] (defScope s_ends_with) := ⟨rfl, rfl, rfl, by decide +kernel, rfl, by decide +kernel, by decide +kernel⟩
abbrev s_turned_round : Stmt := top 18
theorem sc_turned_round : FnScope ["pattern", "items", "whole"] ["pattern"] (defScope s_turned_round) := ⟨rfl, rfl, rfl, by decide +kernel, rfl, by decide +kernel, by decide +kernel⟩
abbrev s_trace_of : Stmt := top 19
theorem sc_trace_of : FnScope ["pattern", "text", "trace", "letter"] ["pattern", "text"] (defScope s_trace_of) := ⟨rfl, rfl, rfl, by decide +kernel, rfl, by decide +kernel, by decide +kernel⟩
abbrev s_first_trace : Stmt := top 20
theorem sc_first_trace : FnScope ["pattern", "items", "_", "trace", "at", "kind"] ["pattern"] (defScope s_first_trace) := ⟨rfl, rfl, rfl, by decide +kernel, rfl, by decide +kernel, by decide +kernel⟩
abbrev s_next_trace : Stmt := top 21
theorem sc_next_trace : FnScope ["pattern", "trace", "letter", "items", "whole", "found", "at", "letters", "kind", "before", "empty"] ["pattern", "trace", "letter"] (defScope s_next_trace) := ⟨rfl, rfl, rfl, by decide +kernel, rfl, by decide +kernel, by decide +kernel⟩
abbrev s_is_matched : Stmt := top 22
theorem sc_is_matched : FnScope ["pattern", "trace"] ["pattern", "trace"] (defScope s_is_matched) := ⟨rfl, rfl, rfl, by decide +kernel, rfl, by decide +kernel, by decide +kernel⟩
abbrev s__check : Stmt := top 23
theorem sc__check : FnScope ["pattern", "text"] ["pattern", "text"] (defScope s__check) := ⟨rfl, rfl, rfl, by decide +kernel, rfl, by decide +kernel, by decide +kernel⟩
abbrev s__is_item : Stmt := top 24
theorem sc__is_item : FnScope ["value"] ["value"] (defScope s__is_item) := ⟨rfl, rfl, rfl, by decide +kernel, rfl, by decide +kernel, by decide +kernel⟩
abbrev s__law_drawn_word : Stmt := top 29
theorem sc__law_drawn_word : FnScope ["_law_bag", "_law_signs", "_law_most", "_law_turn"] ["_law_bag", "_law_signs", "_law_most"] (defScope s__law_drawn_word) := ⟨rfl, rfl, rfl, by decide +kernel, rfl, by decide +kernel, by decide +kernel⟩
abbrev s__law_drawn_items : Stmt := top 30
theorem sc__law_drawn_items : FnScope ["_law_bag", "_law_signs", "_law_most", "_law_found", "_law_turn", "_law_some", "_law_sign"] ["_law_bag", "_law_signs", "_law_most"] (defScope s__law_drawn_items) := ⟨rfl, rfl, rfl, by decide +kernel, rfl, by decide +kernel, by decide +kernel⟩
abbrev s__law_drawn_pattern : Stmt := top 31
theorem sc__law_drawn_pattern : FnScope ["_law_bag", "_law_signs"] ["_law_bag", "_law_signs"] (defScope s__law_drawn_pattern) := ⟨rfl, rfl, rfl, by decide +kernel, rfl, by decide +kernel, by decide +kernel⟩
abbrev s__law_fits_in : Stmt := top 32
theorem sc__law_fits_in : FnScope ["_law_items", "_law_one", "_law_signs", "_law_kind", "_law_is_here"] ["_law_items", "_law_one"] (defScope s__law_fits_in) := ⟨rfl, rfl, rfl, by decide +kernel, rfl, by decide +kernel, by decide +kernel⟩
abbrev s__law_begins_in : Stmt := top 33
theorem sc__law_begins_in : FnScope ["_law_pattern", "_law_one", "_law_size"] ["_law_pattern", "_law_one"] (defScope s__law_begins_in) := ⟨rfl, rfl, rfl, by decide +kernel, rfl, by decide +kernel, by decide +kernel⟩
abbrev s__law_ends_in : Stmt := top 34
theorem sc__law_ends_in : FnScope ["_law_pattern", "_law_one", "_law_size"] ["_law_pattern", "_law_one"] (defScope s__law_ends_in) := ⟨rfl, rfl, rfl, by decide +kernel, rfl, by decide +kernel, by decide +kernel⟩
abbrev s__law_told : Stmt := top 35
theorem sc__law_told : FnScope ["_law_call", "e", "_law_kinds"] ["_law_call"] (defScope s__law_told) := ⟨rfl, rfl, rfl, by decide +kernel, rfl, by decide +kernel, by decide +kernel⟩
abbrev s__law_near_text : Stmt := top 36
theorem sc__law_near_text : FnScope ["_law_bag", "_law_pattern", "_law_found", "_law_signs", "_law_kind", "_law_front", "_law_last", "_law_some"] ["_law_bag", "_law_pattern"] (defScope s__law_near_text) := ⟨rfl, rfl, rfl, by decide +kernel, rfl, by decide +kernel, by decide +kernel⟩
abbrev s__law_judged_right : Stmt := top 37
theorem sc__law_judged_right : FnScope ["_law_pattern", "_law_one", "_law_told_here", "_law_due"] ["_law_pattern", "_law_one"] (defScope s__law_judged_right) := ⟨rfl, rfl, rfl, by decide +kernel, rfl, by decide +kernel, by decide +kernel⟩
abbrev s__law_bad_patterns : Stmt := top 38
theorem sc__law_bad_patterns : FnScope ["_law_bag", "_law_pattern", "_law_items", "_law_item", "_law_some", "_law_bad", "_law_odd"] ["_law_bag", "_law_pattern"] (defScope s__law_bad_patterns) := ⟨rfl, rfl, rfl, by decide +kernel, rfl, by decide +kernel, by decide +kernel⟩
abbrev s__law_refused_right : Stmt := top 39
theorem sc__law_refused_right : FnScope ["_law_bag", "_law_pattern", "_law_one", "_law_odd", "_law_off", "_law_told_here", "_law_first", "_law_second", "_law_value"] ["_law_bag", "_law_pattern", "_law_one"] (defScope s__law_refused_right) := ⟨rfl, rfl, rfl, by decide +kernel, rfl, by decide +kernel, by decide +kernel⟩
abbrev s_law : Stmt := top 40
theorem sc_law : FnScope ["_law_script", "_law_at", "_law_bag", "_law_turn", "_law_pattern", "_law_one", "_law_some", "_law_text", "_law_wide", "_law_told_here"] ["_law_script"] (defScope s_law) := ⟨rfl, rfl, rfl, by decide +kernel, rfl, by decide +kernel, by decide +kernel⟩
structure TP (K : PySem.W.Frag) (mg : Str → Option Value) : Prop extends TE K mg where
  tyE : ∀ x ∈ mark9, PySem.W.typeIn K (.ref (ga K x)) = some (.type "type")
  subE : ∀ x ∈ mark9, PySem.W.subIn K (.ref (ga K x)) (.type "BaseException") = some true
  c__ALPHABET : ∃ u, mg "_ALPHABET" = some u ∧ RelV (.str alpha) u
  c_MAX_TEXT : ∃ u, mg "MAX_TEXT" = some u ∧ RelV (.int 60) u
  c__MOST_ITEMS : ∃ u, mg "_MOST_ITEMS" = some u ∧ RelV (.int 3) u
  g__KINDS : mg "_KINDS" = some (.ref (ga K "_KINDS"))
  c__KINDS : ∀ H, SqT K H (ga K "_KINDS") [.str "one", .str "any"]
  b_str : mg "str" = none
  b_tuple : mg "tuple" = none
  b_len : mg "len" = none
  b_all : mg "all" = none
  b_bool : mg "bool" = none
  b_repr : mg "repr" = none
  b_set : mg "set" = none
  b_sorted : mg "sorted" = none
  b_list : mg "list" = none
  b_enumerate : mg "enumerate" = none
  b_int : mg "int" = none
  b_abs : mg "abs" = none
  b_max : mg "max" = none
  b_min : mg "min" = none
  f_is_tuple_of : ∃ fd, FnP K "is_tuple_of" s_is_tuple_of (ga K "is_tuple_of") fd
  g_is_tuple_of : mg "is_tuple_of" = some (.ref (ga K "is_tuple_of"))
  f_is_word : ∃ fd, FnP K "is_word" s_is_word (ga K "is_word") fd
  g_is_word : mg "is_word" = some (.ref (ga K "is_word"))
  f_is_text : ∃ fd, FnP K "is_text" s_is_text (ga K "is_text") fd
  g_is_text : mg "is_text" = some (.ref (ga K "is_text"))
  f_is_pattern : ∃ fd, FnP K "is_pattern" s_is_pattern (ga K "is_pattern") fd
  g_is_pattern : mg "is_pattern" = some (.ref (ga K "is_pattern"))
  f_fits : ∃ fd, FnP K "fits" s_fits (ga K "fits") fd
  g_fits : mg "fits" = some (.ref (ga K "fits"))
  f_begins_with : ∃ fd, FnP K "begins_with" s_begins_with (ga K "begins_with") fd
  g_begins_with : mg "begins_with" = some (.ref (ga K "begins_with"))
  f_ends_with : ∃ fd, FnP K "ends_with" s_ends_with (ga K "ends_with") fd
  g_ends_with : mg "ends_with" = some (.ref (ga K "ends_with"))
  f_turned_round : ∃ fd, FnP K "turned_round" s_turned_round (ga K "turned_round") fd
  g_turned_round : mg "turned_round" = some (.ref (ga K "turned_round"))
  f_trace_of : ∃ fd, FnP K "trace_of" s_trace_of (ga K "trace_of") fd
  g_trace_of : mg "trace_of" = some (.ref (ga K "trace_of"))
  f_first_trace : ∃ fd, FnP K "first_trace" s_first_trace (ga K "first_trace") fd
  g_first_trace : mg "first_trace" = some (.ref (ga K "first_trace"))
  f_next_trace : ∃ fd, FnP K "next_trace" s_next_trace (ga K "next_trace") fd
  g_next_trace : mg "next_trace" = some (.ref (ga K "next_trace"))
  f_is_matched : ∃ fd, FnP K "is_matched" s_is_matched (ga K "is_matched") fd
  g_is_matched : mg "is_matched" = some (.ref (ga K "is_matched"))
  f__check : ∃ fd, FnP K "_check" s__check (ga K "_check") fd
  g__check : mg "_check" = some (.ref (ga K "_check"))
  f__is_item : ∃ fd, FnP K "_is_item" s__is_item (ga K "_is_item") fd
  g__is_item : mg "_is_item" = some (.ref (ga K "_is_item"))
  f__law_start : ∃ fd, FnP K "_law_start" sStart (ga K "_law_start") fd
  g__law_start : mg "_law_start" = some (.ref (ga K "_law_start"))
  f__law_throw : ∃ fd, FnP K "_law_throw" sThrow (ga K "_law_throw") fd
  g__law_throw : mg "_law_throw" = some (.ref (ga K "_law_throw"))
  f__law_pick : ∃ fd, FnP K "_law_pick" sPick (ga K "_law_pick") fd
  g__law_pick : mg "_law_pick" = some (.ref (ga K "_law_pick"))
  f__law_drawn_word : ∃ fd, FnP K "_law_drawn_word" s__law_drawn_word (ga K "_law_drawn_word") fd
  g__law_drawn_word : mg "_law_drawn_word" = some (.ref (ga K "_law_drawn_word"))
  f__law_drawn_items : ∃ fd, FnP K "_law_drawn_items" s__law_drawn_items (ga K "_law_drawn_items") fd
  g__law_drawn_items : mg "_law_drawn_items" = some (.ref (ga K "_law_drawn_items"))
  f__law_drawn_pattern : ∃ fd, FnP K "_law_drawn_pattern" s__law_drawn_pattern (ga K "_law_drawn_pattern") fd
  g__law_drawn_pattern : mg "_law_drawn_pattern" = some (.ref (ga K "_law_drawn_pattern"))
  f__law_fits_in : ∃ fd, FnP K "_law_fits_in" s__law_fits_in (ga K "_law_fits_in") fd
  g__law_fits_in : mg "_law_fits_in" = some (.ref (ga K "_law_fits_in"))
  f__law_begins_in : ∃ fd, FnP K "_law_begins_in" s__law_begins_in (ga K "_law_begins_in") fd
  g__law_begins_in : mg "_law_begins_in" = some (.ref (ga K "_law_begins_in"))
  f__law_ends_in : ∃ fd, FnP K "_law_ends_in" s__law_ends_in (ga K "_law_ends_in") fd
  g__law_ends_in : mg "_law_ends_in" = some (.ref (ga K "_law_ends_in"))
  f__law_told : ∃ fd, FnP K "_law_told" s__law_told (ga K "_law_told") fd
  g__law_told : mg "_law_told" = some (.ref (ga K "_law_told"))
  f__law_near_text : ∃ fd, FnP K "_law_near_text" s__law_near_text (ga K "_law_near_text") fd
  g__law_near_text : mg "_law_near_text" = some (.ref (ga K "_law_near_text"))
  f__law_judged_right : ∃ fd, FnP K "_law_judged_right" s__law_judged_right (ga K "_law_judged_right") fd
  g__law_judged_right : mg "_law_judged_right" = some (.ref (ga K "_law_judged_right"))
  f__law_bad_patterns : ∃ fd, FnP K "_law_bad_patterns" s__law_bad_patterns (ga K "_law_bad_patterns") fd
  g__law_bad_patterns : mg "_law_bad_patterns" = some (.ref (ga K "_law_bad_patterns"))
  f__law_refused_right : ∃ fd, FnP K "_law_refused_right" s__law_refused_right (ga K "_law_refused_right") fd
  g__law_refused_right : mg "_law_refused_right" = some (.ref (ga K "_law_refused_right"))
end K0
-- K6Prog
set_option maxRecDepth 100000
set_option maxHeartbeats 4000000
namespace FM
open PySem L2
theorem op_inK {X : Cx} (hu : X.A.units + 64 < cLine) : OpR X (compareOp .In) (fun x y H Q => rIn X.K false x y H Q ∨ rInT0 X.K x y H Q) := by
  intro pins s σ H x y v u Q I rx ry h
  rcases h with h | h
  · exact op_in_seq pins s σ H x y v u Q I rx ry h
  · exact op_inT0 hu pins s σ H x y v u Q I rx ry h
def lets (z : Str) : Bool := PyProof.Rows.sortedS (signs z) && decide (signs z).Nodup
end FM
namespace K0
open PySem L2 FM He
def spIsWord (K : PySem.W.Frag) : Sp := fun vs H Q _ => ∃ x : V, vs = [x] ∧ ((∃ z : Str, x = .str z ∧ z.length ≤ sizeLine ∧ Q (.bl (isWord z)) H) ∨ (NotTy K H x "str" ∧ Q (.bl false) H))
def spIsTupleOf (K : PySem.W.Frag) : Sp := fun vs H Q _ => ∃ (x : V) (n : Nat), vs = [x, .int n] ∧ ((∃ t xs, x = .ref t ∧ SqT K H t xs ∧ Q (.bl (decide (xs.length = n))) H) ∨ (NotTy K H x "tuple" ∧ Q (.bl false) H))
/-- a value, and whether it is a text -/
def TextV (K : PySem.W.Frag) (H : Hp) (y : V) (b : Bool) : Prop := (∃ z : Str, y = .str z ∧ z.length ≤ sizeLine ∧ (isWord z && decide (z.length ≤ 60)) = b) ∨ (NotTy K H y "str" ∧ b = false)
theorem textV_same {K : PySem.W.Frag} {H H' : Hp} {y : V} {b : Bool} (S : Same H H') (h : TextV K H y b) : TextV K H' y b := h.imp id fun ⟨h, e⟩ => ⟨notTy_same S h, e⟩
/-- a value, and whether it is "one" or "any" -/
def KindV (K : PySem.W.Frag) (H : Hp) (y : V) (b : Bool) : Prop := (∃ k : Str, y = .str k ∧ b = decide (k = "one" ∨ k = "any")) ∨ (y = .non ∧ b = false) ∨ (∃ p xs, y = .ref p ∧ SqL K H p xs ∧ b = false)
theorem sqL_same {K : PySem.W.Frag} {H H' : Hp} {a : Addr} {xs : List V} (e : Same H H') (h : SqL K H a xs) : SqL K H' a xs := by
  rcases h with (h | ⟨o, h⟩) | h
  · exact .inl (.inl (e _ _ h))
  · exact .inl (.inr ⟨o, e _ _ h⟩)
  · exact .inr h
theorem kindV_same {K : PySem.W.Frag} {H H' : Hp} {y : V} {b : Bool} (S : Same H H') (h : KindV K H y b) : KindV K H' y b :=
  h.imp id fun h => h.imp id fun ⟨p, xs, e, h, q⟩ => ⟨p, xs, e, sqL_same S h, q⟩
/-- a value, and whether it is an item -/
def ItemV (K : PySem.W.Frag) (H : Hp) (x : V) (b : Bool) : Prop :=
  (NotTy K H x "tuple" ∧ b = false) ∨ (∃ t xs, x = .ref t ∧ SqT K H t xs ∧ xs.length ≠ 2 ∧ b = false) ∨
  (∃ t y1 y2, x = .ref t ∧ SqT K H t [y1, y2] ∧ ((WordV K H y1 false ∧ b = false) ∨
    (∃ z : Str, y1 = .str z ∧ isWord z = true ∧ z.length < 64 ∧ (((z = "" ∨ lets z = false) ∧ b = false) ∨ (z ≠ "" ∧ lets z = true ∧ KindV K H y2 b)))))
theorem itemV_same {K : PySem.W.Frag} {H H' : Hp} {y : V} {b : Bool} (S : Same H H') (h : ItemV K H y b) : ItemV K H' y b := by
  rcases h with ⟨h, e⟩ | ⟨t, xs, e, h, n, q⟩ | ⟨t, y1, y2, e, h, q⟩
  · exact .inl ⟨notTy_same S h, e⟩
  · exact .inr (.inl ⟨t, xs, e, sqT_same S h, n, q⟩)
  · refine .inr (.inr ⟨t, y1, y2, e, sqT_same S h, ?_⟩)
    rcases q with ⟨q, r⟩ | ⟨z, e1, e2, e3, q | ⟨q1, q2, q3⟩⟩
    · exact .inl ⟨wordV_same S q, r⟩
    · exact .inr ⟨z, e1, e2, e3, .inl q⟩
    · exact .inr ⟨z, e1, e2, e3, .inr ⟨q1, q2, kindV_same S q3⟩⟩
/-- a value, and whether it is a pattern -/
def PatV (K : PySem.W.Frag) (H : Hp) (x : V) (b : Bool) : Prop :=
  (NotTy K H x "tuple" ∧ b = false) ∨ (∃ t xs, x = .ref t ∧ SqT K H t xs ∧ xs.length ≠ 2 ∧ b = false) ∨
  (∃ t y1 y2, x = .ref t ∧ SqT K H t [y1, y2] ∧ ((NotTy K H y1 "tuple" ∧ b = false) ∨
    (∃ s ys, y1 = .ref s ∧ SqT K H s ys ∧ ys.length ≤ 60 ∧ ((NotTy K H y2 "bool" ∧ b = false) ∨
      (∃ w, y2 = .bl w ∧ ((3 < ys.length ∧ b = false) ∨ (ys.length ≤ 3 ∧ ∃ bs : List Bool, bs.length = ys.length ∧ (∀ (i : Nat) (y : V) (c : Bool), ys[i]? = some y → bs[i]? = some c → ItemV K H y c) ∧ b = bs.all id)))))))
section
variable {P : Program} {w : World} {K : PySem.W.Frag} {mg : Str → Option Value} {base : Heap}
theorem ok_is_word {f : Addr} {fd : FuncData} (F : FnP K "is_word" s_is_word f fd) (T : TP K mg) : FnOk P w K mg base CX0 1 f fd ["value"] (spIsWord K) := by
  refine F.ok sc_is_word (fun vs H Q E h => ?_) (fun cdv A outer s H vs Q E hr h => ?_)
  · obtain ⟨x, rfl, _⟩ := h
    rfl
  · obtain ⟨x, rfl, h⟩ := h
    have nd := sc_is_word.nd
    refine ⟨_, PSs.nox (pss_one (ps_ret (pe_and (pe_callB call_isi (by rfl) T.b_isinstance (by decide +kernel) (pa_cons (pv 0) (pa_cons (pe_bltn (v := .ty "str") (by rfl) T.b_str (by decide +kernel) rfl) pa_nil))) (pe_one (pe_cmpR op_eq (pe_bm PySem.F.plainAttrs_str PySem.F.slot_str_strip PySem.F.type_str_strip mt_stripChars (pv 0) (pa_cons (C8.pe_gc (v := .str alpha) (by rfl) T.c__ALPHABET) pa_nil)) pe_str (nomark _)))))), ?_⟩
    rcases h with ⟨z, rfl, hz, k⟩ | ⟨⟨t, ht, hk⟩, k⟩
    · refine ⟨_, rfl, _, _, _, _, true, rfl, ClsV.ty _, .base (.str z), kit_ty (by decide +kernel), true, rfl, iteT ?_⟩
      refine ⟨_, rfl, rfl, _, _, rfl, rfl, hz, rfl, ?_⟩
      have e : (decide (V.str (Txt.stripChars z alpha) = V.str "")) = isWord z := dec_strV _ _
      rw [e]
      exact k
    · exact ⟨_, rfl, _, _, _, _, false, rfl, ClsV.ty _, ht, hk, false, rfl, iteF k⟩
theorem ok_is_tuple_of {f : Addr} {fd : FuncData} (F : FnP K "is_tuple_of" s_is_tuple_of f fd) (T : TP K mg) : FnOk P w K mg base CX0 1 f fd ["value", "many"] (spIsTupleOf K) := by
  refine F.ok sc_is_tuple_of (fun vs H Q E h => ?_) (fun cdv A outer s H vs Q E hr h => ?_)
  · obtain ⟨x, n, rfl, _⟩ := h
    rfl
  · obtain ⟨x, n, rfl, h⟩ := h
    have nd := sc_is_tuple_of.nd
    refine ⟨_, PSs.nox (pss_one (ps_ret (pe_and (pe_callB call_isi (by rfl) T.b_isinstance (by decide +kernel) (pa_cons (pv 0) (pa_cons (pe_bltn (v := .ty "tuple") (by rfl) T.b_tuple (by decide +kernel) rfl) pa_nil))) (pe_one (pe_cmpR op_eq (pe_callB call_len (by rfl) T.b_len (by decide +kernel) (pa_cons (pv 0) pa_nil)) (pv 1) (nomark _)))))), ?_⟩
    rcases h with ⟨t, xs, rfl, hs, k⟩ | ⟨⟨t, ht, hk⟩, k⟩
    · refine ⟨_, rfl, _, _, _, _, true, rfl, ClsV.ty _, ty_tup hs, kit_ty (by decide +kernel), true, rfl, iteT ?_⟩
      refine ⟨_, rfl, _, xs.length, rfl, .inr ⟨xs, hs, rfl⟩, _, rfl, rfl, ?_⟩
      have e : (decide (V.int (xs.length : Int) = V.int (n : Int))) = decide (xs.length = n) := by
        rw [dec_intV]
        exact decide_eq_decide.mpr Int.ofNat_inj
      rw [e]
      exact k
    · exact ⟨_, rfl, _, _, _, _, false, rfl, ClsV.ty _, ht, hk, false, rfl, iteF k⟩
def spIsText (K : PySem.W.Frag) : Sp := fun vs H Q _ => ∃ (x : V) (b : Bool), vs = [x] ∧ TextV K H x b ∧ Q (.bl b) H
theorem ok_is_text {f : Addr} {fd : FuncData} (F : FnP K "is_text" s_is_text f fd) (T : TP K mg) : FnOk P w K mg base CX0 2 f fd ["value"] (spIsText K) := by
  obtain ⟨d_is_word, F_is_word⟩ := T.f_is_word
  have G_is_word := ok_is_word (P := P) (w := w) (base := base) F_is_word T
  have b_is_word : Binds K d_is_word ["value"] [] := F_is_word.bindsN fun _ _ _ _ _ _ us hl => match us, hl with | [_], _ => rfl
  refine F.ok sc_is_text (fun vs H Q E h => ?_) (fun cdv A outer s H vs Q E hr h => ?_)
  · obtain ⟨x, b, rfl, _⟩ := h
    rfl
  · obtain ⟨x, b, rfl, h, k⟩ := h
    have nd := sc_is_text.nd
    refine ⟨_, PSs.nox (pss_one (ps_ret (pe_and (pe_call G_is_word (hr.mono (by decide)) rfl T.g_is_word F_is_word.kp b_is_word .nil pass0 (pa_cons (pv 0) pa_nil)) (pe_one (pe_cmpR op_le (pe_callB call_len (by rfl) T.b_len (by decide +kernel) (pa_cons (pv 0) pa_nil)) (C8.pe_gc (v := .int 60) (by rfl) T.c_MAX_TEXT) (nomark _)))))), ?_⟩
    rcases h with ⟨z, rfl, hz, rfl⟩ | ⟨hn, rfl⟩
    · refine ⟨_, rfl, _, rfl, .inl ⟨z, rfl, hz, isWord z, rfl, ?_⟩⟩
      cases hw : isWord z with
      | false =>
        rw [hw] at k
        exact iteF k
      | true =>
        rw [hw, Bool.true_and] at k
        refine iteT ⟨_, rfl, _, z.length, rfl, ⟨hz, rfl⟩, _, _, rfl, rfl, ?_⟩
        have e : decide (((z.length : Nat) : Int) ≤ 60) = decide (z.length ≤ 60) := decide_eq_decide.mpr (by omega)
        rw [← e] at k
        exact k
    · exact ⟨_, rfl, _, rfl, .inr ⟨hn, false, rfl, iteF k⟩⟩
def spItem (K : PySem.W.Frag) : Sp := fun vs H Q _ => ∃ (x : V) (b : Bool), vs = [x] ∧ ItemV K H x b ∧ ∀ H', Same H H' → Q (.bl b) H'
theorem inV_kinds (k : Str) : inV (.str k) [.str "one", .str "any"] = decide (k = "one" ∨ k = "any") := by
  show (("one" : Str) == k || (("any" : Str) == k || false)) = _
  rw [Bool.or_false, Bool.eq_iff_iff]
  simp only [Bool.or_eq_true, beq_iff_eq, decide_eq_true_eq]
  constructor
  · rintro (h | h)
    · exact .inl h.symm
    · exact .inr h.symm
  · rintro (h | h)
    · exact .inl h.symm
    · exact .inr h.symm
theorem ok_is_item {f : Addr} {fd : FuncData} (F : FnP K "_is_item" s__is_item f fd) (T : TP K mg) : FnOk P w K mg base CX0 2 f fd ["value"] (spItem K) := by
  obtain ⟨d_is_tuple_of, F_is_tuple_of⟩ := T.f_is_tuple_of
  have G_is_tuple_of := ok_is_tuple_of (P := P) (w := w) (base := base) F_is_tuple_of T
  have b_is_tuple_of : Binds K d_is_tuple_of ["value", "many"] [] := F_is_tuple_of.bindsN fun _ _ _ _ _ _ us hl => match us, hl with | [_, _], _ => rfl
  obtain ⟨d_is_word, F_is_word⟩ := T.f_is_word
  have G_is_word := ok_is_word (P := P) (w := w) (base := base) F_is_word T
  have b_is_word : Binds K d_is_word ["value"] [] := F_is_word.bindsN fun _ _ _ _ _ _ us hl => match us, hl with | [_], _ => rfl
  refine F.ok sc__is_item (fun vs H Q E h => ?_) (fun cdv A outer s H vs Q E hr h => ?_)
  · obtain ⟨x, b, rfl, _⟩ := h
    rfl
  · obtain ⟨x, b, rfl, h, k⟩ := h
    have nd := sc__is_item.nd
    have hu64 := hr.units
    refine ⟨_, PSs.nox (pss_cons (ps_if (PW.pt (pw_or (pt_not (pt_val (pe_call G_is_tuple_of (hr.mono (by decide)) rfl T.g_is_tuple_of F_is_tuple_of.kp b_is_tuple_of .nil pass0 (pa_cons (pv 0) (pa_cons pe_int pa_nil))))) (pw_or (pt_not (pt_val (pe_call G_is_word (hr.mono (by decide)) rfl T.g_is_word F_is_word.kp b_is_word .nil pass0 (pa_cons (pe_ix ix_seq (pv 0) pe_int (fun _ _ => rfl)) pa_nil)))) (pw_or1 (pt_cmpR op_eq (pe_ix ix_seq (pv 0) pe_int (fun _ _ => rfl)) pe_str (nomark _)))))) (pss_one (ps_ret pe_bl)) pss_nil)
      (pss_one (ps_ret (pe_and (pe_cmpR (op_eqS hu64) (pe_callTy (cr_listStr rfl) (by rfl) T.b_list (by decide +kernel) (pa_cons (pe_ix ix_seq (pv 0) pe_int (fun _ _ => rfl)) pa_nil)) (pe_callB (cr_sortSetT rfl) (by rfl) T.b_sorted (by decide +kernel) (pa_cons (pe_callTy (cr_setStr rfl) (by rfl) T.b_set (by decide +kernel) (pa_cons (pe_ix ix_seq (pv 0) pe_int (fun _ _ => rfl)) pa_nil)) pa_nil)) (nomark _)) (pe_one (pe_cmpR (op_inK hu64) (pe_ix ix_seq (pv 0) pe_int (fun _ _ => rfl)) (C8.pe_gc (v := .ref _) (by rfl) ⟨_, T.g__KINDS, rfl⟩) (by rfl))))))), ?_⟩
    rcases h with ⟨hn, rfl⟩ | ⟨t, xs, rfl, ht, hl, rfl⟩ | ⟨t, y1, y2, rfl, ht, h⟩
    · exact ⟨_, rfl, x, 2, rfl, .inr ⟨hn, false, rfl, iteT (iteT (k H (Same.refl H)))⟩⟩
    · exact ⟨_, rfl, _, 2, rfl, .inl ⟨t, xs, rfl, ht, _, rfl, by rw [decide_eq_false hl]; exact iteT (iteT (k H (Same.refl H)))⟩⟩
    · have at0 : atI ([y1, y2] : List V) 0 = some y1 := rfl
      have at1 : atI ([y1, y2] : List V) 1 = some y2 := rfl
      refine ⟨_, rfl, _, 2, rfl, .inl ⟨t, _, rfl, ht, true, rfl, iteF ?_⟩⟩
      refine ⟨_, rfl, .inr (.inl ⟨t, _, 0, _, rfl, rfl, ht, at0, ?_⟩)⟩
      rcases h with ⟨hw, rfl⟩ | ⟨z, rfl, hw, h64, h⟩
      · rcases hw with ⟨z, rfl, hz, e⟩ | ⟨hn, _⟩
        · exact ⟨_, rfl, .inl ⟨z, rfl, hz, isWord z, rfl, by rw [e]; exact iteT (iteT (k H (Same.refl H)))⟩⟩
        · exact ⟨_, rfl, .inr ⟨hn, false, rfl, iteT (iteT (k H (Same.refl H)))⟩⟩
      · have hz : z.length ≤ sizeLine := by rw [sizeLine_eq]; omega
        refine ⟨_, rfl, .inl ⟨z, rfl, hz, isWord z, rfl, ?_⟩⟩
        rw [hw]
        refine iteF ?_
        refine ⟨_, rfl, .inr (.inl ⟨t, _, 0, _, rfl, rfl, ht, at0, rfl, _, rfl, ?_⟩)⟩
        rw [dec_strV]
        by_cases e0 : z = ""
        · rw [decide_eq_true e0]
          refine iteT ?_
          rcases h with ⟨_, rfl⟩ | ⟨h, _⟩
          · exact k H (Same.refl H)
          · exact absurd e0 h
        · rw [decide_eq_false e0]
          refine iteF ?_
          refine ⟨_, rfl, .inr (.inl ⟨t, _, 0, _, rfl, rfl, ht, at0, z, rfl, hz, fun p np => ?_⟩)⟩
          have S1 := same_upd (o := .lst ((FM.signs z).map V.str)) np
          refine ⟨_, rfl, .inr (.inl ⟨t, _, 0, _, rfl, rfl, sqT_same S1 ht, at0, z, rfl, by omega, fun p1 n np1 hn => ?_⟩)⟩
          have S2 := same_upd (o := SetT w p1 (fun j => decide (j ∈ FM.signs z)) n) np1
          refine ⟨p1, _, n, rfl, upd_same, by omega, fun ks p2 hs hd hm hl np2 => ?_⟩
          have S3 := same_upd (o := .lst (ks.map V.str)) np2
          have e2 : decide (FM.signs z = ks) = lets z := by
            rw [Bool.eq_iff_iff]
            unfold lets
            simp only [decide_eq_true_eq, Bool.and_eq_true]
            constructor
            · rintro rfl
              exact ⟨hs, hd⟩
            · rintro ⟨a, b⟩
              exact sorted_one a b hs hd fun j => by simpa using (hm j).symm
          have S := (S1.trans S2).trans S3
          refine ⟨p, p2, FM.signs z, ks, rfl, rfl, .of (S3 _ _ (S2 _ _ upd_same)), .of upd_same, ?_⟩
          rw [e2]
          rcases h with ⟨h | h, rfl⟩ | ⟨_, h, hk⟩
          · exact absurd h e0
          · rw [h]
            exact ⟨false, rfl, iteF (k _ S)⟩
          · rw [h]
            refine ⟨true, rfl, iteT ⟨_, rfl, .inr (.inl ⟨t, _, 1, _, rfl, rfl, sqT_same S ht, at1, ?_⟩)⟩⟩
            rcases hk with ⟨kk, rfl, rfl⟩ | ⟨rfl, rfl⟩ | ⟨q, xs, rfl, hq, rfl⟩
            · refine .inl ⟨_, _, rfl, .inr (T.c__KINDS _), rfl, rfl, ?_⟩
              have := inV_kinds kk
              rw [if_neg Bool.false_ne_true, this]
              exact k _ S
            · exact .inl ⟨_, _, rfl, .inr (T.c__KINDS _), rfl, rfl, k _ S⟩
            · exact .inr ⟨q, _, xs, ["one", "any"], rfl, rfl, sqL_same S hq, T.c__KINDS _, k _ S⟩
end
end K0
-- K6Pat
set_option maxRecDepth 100000
set_option maxHeartbeats 4000000
namespace K0
open PySem L2 FM He
def spPattern (K : PySem.W.Frag) : Sp := fun vs H Q _ => ∃ (x : V) (b : Bool), vs = [x] ∧ PatV K H x b ∧ ∀ H', Same H H' → Q (.bl b) H'
section
variable {P : Program} {w : World} {K : PySem.W.Frag} {mg : Str → Option Value} {base : Heap}
theorem ok_is_pattern {f : Addr} {fd : FuncData} (F : FnP K "is_pattern" s_is_pattern f fd) (T : TP K mg) : FnOk P w K mg base CX0 3 f fd ["value"] (spPattern K) := by
  obtain ⟨d_is_tuple_of, F_is_tuple_of⟩ := T.f_is_tuple_of
  have G_is_tuple_of := ok_is_tuple_of (P := P) (w := w) (base := base) F_is_tuple_of T
  have b_is_tuple_of : Binds K d_is_tuple_of ["value", "many"] [] := F_is_tuple_of.bindsN fun _ _ _ _ _ _ us hl => match us, hl with | [_, _], _ => rfl
  obtain ⟨d__is_item, F__is_item⟩ := T.f__is_item
  have G__is_item := ok_is_item (P := P) (w := w) (base := base) F__is_item T
  have b__is_item : Binds K d__is_item ["value"] [] := F__is_item.bindsN fun _ _ _ _ _ _ us hl => match us, hl with | [_], _ => rfl
  refine F.ok sc_is_pattern (fun vs H Q E h => ?_) (fun cdv A outer s H vs Q E hr h => ?_)
  · obtain ⟨x, b, rfl, _⟩ := h
    rfl
  · obtain ⟨x, b, rfl, h, k⟩ := h
    have nd := sc_is_pattern.nd
    refine ⟨_, PSs.nox (pss_cons (ps_if (PW.pt (pw_or (pt_not (pt_val (pe_call G_is_tuple_of (hr.mono (by decide)) rfl T.g_is_tuple_of F_is_tuple_of.kp b_is_tuple_of .nil pass0 (pa_cons (pv 0) (pa_cons pe_int pa_nil))))) (pw_or (pt_not (pt_val (pe_callB call_isi (by rfl) T.b_isinstance (by decide +kernel) (pa_cons (pe_ix ix_seq (pv 0) pe_int (fun _ _ => rfl)) (pa_cons (pe_bltn (v := .ty "tuple") (by rfl) T.b_tuple (by decide +kernel) rfl) pa_nil))))) (pw_or1 (pt_not (pt_val (pe_callB call_isi (by rfl) T.b_isinstance (by decide +kernel) (pa_cons (pe_ix ix_seq (pv 0) pe_int (fun _ _ => rfl)) (pa_cons (pe_bltn (v := .ty "bool") (by rfl) T.b_bool (by decide +kernel) rfl) pa_nil))))))))) (pss_one (ps_ret pe_bl)) pss_nil)
      (pss_one (ps_ret (pe_and (pe_cmpR op_le (pe_callB call_len (by rfl) T.b_len (by decide +kernel) (pa_cons (pe_ix ix_seq (pv 0) pe_int (fun _ _ => rfl)) pa_nil)) (C8.pe_gc (v := .int 3) (by rfl) T.c__MOST_ITEMS) (nomark _)) (pe_one (pe_callB (cr_all rfl) (by rfl) T.b_all (by decide +kernel) (pa_cons (pe_lc (own := [("item", 1)]) rfl nd (pi_tup (pe_ix ix_seq (pv 0) pe_int (fun _ _ => rfl))) (blkOk_by (own := [("item", 1)]) (N := ["value", "item"]) (sc := defScope s_is_pattern) (by decide +kernel)) (fun _ _ _ _ _ => (pg_name (i := 1) nd rfl (.inl rfl))) (fun _ _ _ _ _ => pts_nil) (fun _ _ _ _ _ => (pe_call G__is_item (hr.mono (by decide)) rfl T.g__is_item F__is_item.kp b__is_item .nil pass0 (pa_cons (pv 1) pa_nil)))) pa_nil))))))), ?_⟩
    rcases h with ⟨hn, rfl⟩ | ⟨t, xs, rfl, ht, hl, rfl⟩ | ⟨t, y1, y2, rfl, ht, h⟩
    · exact ⟨_, rfl, x, 2, rfl, .inr ⟨hn, false, rfl, iteT (iteT (k H (Same.refl H)))⟩⟩
    · exact ⟨_, rfl, _, 2, rfl, .inl ⟨t, xs, rfl, ht, _, rfl, by rw [decide_eq_false hl]; exact iteT (iteT (k H (Same.refl H)))⟩⟩
    · have at0 : atI ([y1, y2] : List V) 0 = some y1 := rfl
      have at1 : atI ([y1, y2] : List V) 1 = some y2 := rfl
      refine ⟨_, rfl, _, 2, rfl, .inl ⟨t, _, rfl, ht, true, rfl, iteF ?_⟩⟩
      refine ⟨_, rfl, .inr (.inl ⟨t, _, 0, _, rfl, rfl, ht, at0, ?_⟩)⟩
      rcases h with ⟨⟨ty, hty, hk⟩, rfl⟩ | ⟨u, ys, rfl, hu, h60, h⟩
      · exact ⟨_, _, _, _, false, rfl, ClsV.ty _, hty, hk, false, rfl, iteT (iteT (k H (Same.refl H)))⟩
      · refine ⟨_, _, _, _, true, rfl, ClsV.ty _, ty_tup hu, kit_ty (by decide +kernel), true, rfl, iteF ?_⟩
        refine ⟨_, rfl, .inr (.inl ⟨t, _, 1, _, rfl, rfl, ht, at1, ?_⟩)⟩
        rcases h with ⟨⟨ty, hty, hk⟩, rfl⟩ | ⟨wb, rfl, h⟩
        · exact ⟨_, _, _, _, false, rfl, ClsV.ty _, hty, hk, false, rfl, iteT (k H (Same.refl H))⟩
        · refine ⟨_, _, _, _, true, rfl, ClsV.ty _, .base (.bl wb), kit_ty (by decide +kernel), true, rfl, iteF ?_⟩
          refine ⟨_, rfl, .inr (.inl ⟨t, _, 0, _, rfl, rfl, ht, at0, _, ys.length, rfl, .inr ⟨ys, hu, rfl⟩, ?_⟩)⟩
          rcases h with ⟨h3, rfl⟩ | ⟨h3, bs, hb, hi, rfl⟩
          · refine ⟨_, _, rfl, rfl, _, rfl, ?_⟩
            rw [decide_eq_false (by omega : ¬ ((ys.length : Nat) : Int) ≤ 3)]
            exact iteF (k H (Same.refl H))
          · refine ⟨_, _, rfl, rfl, _, rfl, ?_⟩
            rw [decide_eq_true (by omega : ((ys.length : Nat) : Int) ≤ 3)]
            refine iteT ⟨_, rfl, .inr (.inl ⟨t, _, 0, _, rfl, rfl, ht, at0, u, rfl, ⟨_, hu⟩, fun D nD => ?_⟩)⟩
            refine lc_tup (xs := ys) (K := K) (fun i H' => Same H H' ∧ H' D = some (.lst ((bs.take i).map V.bl))) ⟨same_upd nD, upd_same⟩ (fun i H' _ h => sqT_same h.1 hu) (fun i x H' hx hP => ?_) (fun H' hP => ?_)
            · obtain ⟨S, hD⟩ := hP
              have hi1 : i < ys.length := (List.getElem?_eq_some_iff.mp hx).1
              have hb0 : bs[i]? = some bs[i] := List.getElem?_eq_getElem (by omega)
              have hbi := itemV_same S (hi i x _ hx hb0)
              have eb : bs.take (i + 1) = bs.take i ++ [bs[i]] := by rw [List.take_add_one, hb0]; rfl
              refine ⟨rfl, _, rfl, x, bs[i], rfl, hbi, fun H2 S2 => ⟨_, S2 _ _ hD, ?_, fun c o hc => ?_, ?_⟩⟩
              · rw [List.length_map, List.length_take, sizeLine_eq]
                omega
              · rw [upd_ne (ne_of_none hc nD)]
                exact S2 _ _ (S _ _ hc)
              · rw [upd_same, eb, List.map_append]
                rfl
            · obtain ⟨S, hD⟩ := hP
              rw [List.take_of_length_le (by omega)] at hD
              exact ⟨D, bs, rfl, SqL.of hD, k _ S⟩
def spCheck (K : PySem.W.Frag) : Sp := fun vs H Q E => ∃ (x y : V) (b c : Bool), vs = [x, y] ∧ PatV K H x b ∧ TextV K H y c ∧ ∀ H', Same H H' → (b = false → E (.ref (ga K "InvalidBook")) none H') ∧ (b = true → c = false → E (.ref (ga K "InvalidText")) none H') ∧ (b = true → c = true → Q .non H')
theorem ok_check {f : Addr} {fd : FuncData} (F : FnP K "_check" s__check f fd) (T : TP K mg) : FnOk P w K mg base (L2.CX P w) 4 f fd ["pattern", "text"] (spCheck K) := by
  obtain ⟨d_is_pattern, F_is_pattern⟩ := T.f_is_pattern
  have G_is_pattern := ok_is_pattern (P := P) (w := w) (base := base) F_is_pattern T
  have b_is_pattern : Binds K d_is_pattern ["value"] [] := F_is_pattern.bindsN fun _ _ _ _ _ _ us hl => match us, hl with | [_], _ => rfl
  obtain ⟨d_is_text, F_is_text⟩ := T.f_is_text
  have G_is_text := ok_is_text (P := P) (w := w) (base := base) F_is_text T
  have b_is_text : Binds K d_is_text ["value"] [] := F_is_text.bindsN fun _ _ _ _ _ _ us hl => match us, hl with | [_], _ => rfl
  refine F.ok sc__check (fun vs H Q E h => ?_) (fun cdv A outer s H vs Q E hr h => ?_)
  · obtain ⟨x, y, b, c, rfl, _⟩ := h
    rfl
  · obtain ⟨x, y, b, c, rfl, h, h2, k⟩ := h
    have nd := sc__check.nd
    refine ⟨_, (pss_cons (ps_if (pt_not (pt_val (pe_call G_is_pattern (hr.mono (by decide)) rfl T.g_is_pattern F_is_pattern.kp b_is_pattern .nil pass0 (pa_cons (pv 0) pa_nil)))) (pss_one (ps_raise rfl (takes_of rfl rfl rfl rfl) (pmk_own PySem.F.excBase_ValueError (T.exI "InvalidBook" (by decide)).1 T.g_InvalidBook (T.exI "InvalidBook" (by decide)).2 (raises_own (T.subE "InvalidBook" (by decide)) (T.tyE "InvalidBook" (by decide))) rfl))) pss_nil)
      (pss_one (ps_if (pt_not (pt_val (pe_call G_is_text (hr.mono (by decide)) rfl T.g_is_text F_is_text.kp b_is_text .nil pass0 (pa_cons (pv 1) pa_nil)))) (pss_one (ps_raise rfl (takes_of rfl rfl rfl rfl) (pmk_own PySem.F.excBase_ValueError (T.exI "InvalidText" (by decide)).1 T.g_InvalidText (T.exI "InvalidText" (by decide)).2 (raises_own (T.subE "InvalidText" (by decide)) (T.tyE "InvalidText" (by decide))) rfl))) pss_nil))), ?_⟩
    refine ⟨_, rfl, x, b, rfl, h, fun H' S => ?_⟩
    obtain ⟨k1, k2, k3⟩ := k H' S
    cases b with
    | false => exact ⟨_, rfl, iteT (k1 rfl)⟩
    | true =>
      refine ⟨_, rfl, iteF ?_⟩
      refine ⟨_, rfl, y, c, rfl, textV_same S h2, ?_⟩
      cases c with
      | false => exact ⟨_, rfl, iteT (k2 rfl rfl)⟩
      | true => exact ⟨_, rfl, iteF (k3 rfl rfl)⟩
end
end K0
-- K6Trace
set_option maxRecDepth 100000
set_option maxHeartbeats 4000000
namespace K0
open PySem L2 FM He
def kindS (b : Bool) : Str := if b = true then "any" else "one"
def ItemAt (K : PySem.W.Frag) (H : Hp) (y : V) (it : Str × Bool) : Prop := ∃ q, y = .ref q ∧ SqT K H q [.str it.1, .str (kindS it.2)]
def ItsAt (K : PySem.W.Frag) (H : Hp) (vs : List V) (its : List (Str × Bool)) : Prop := vs.length = its.length ∧ ∀ (i : Nat) (y : V) (it : Str × Bool), vs[i]? = some y → its[i]? = some it → ItemAt K H y it
/-- a pattern: its items, and whether it is whole -/
def PatAt (K : PySem.W.Frag) (H : Hp) (v : V) (its : List (Str × Bool)) (whole : Bool) : Prop := ∃ p t vs, v = .ref p ∧ SqT K H p [.ref t, .bl whole] ∧ SqT K H t vs ∧ ItsAt K H vs its
theorem itemAt_same {K : PySem.W.Frag} {H H' : Hp} {y : V} {it : Str × Bool} (S : Same H H') (h : ItemAt K H y it) : ItemAt K H' y it := let ⟨q, e, h⟩ := h; ⟨q, e, sqT_same S h⟩
theorem itsAt_same {K : PySem.W.Frag} {H H' : Hp} {vs : List V} {its : List (Str × Bool)} (S : Same H H') (h : ItsAt K H vs its) : ItsAt K H' vs its := ⟨h.1, fun i y it a b => itemAt_same S (h.2 i y it a b)⟩
theorem patAt_same {K : PySem.W.Frag} {H H' : Hp} {v : V} {its : List (Str × Bool)} {whole : Bool} (S : Same H H') (h : PatAt K H v its whole) : PatAt K H' v its whole :=
  let ⟨p, t, vs, e, h1, h2, h3⟩ := h; ⟨p, t, vs, e, sqT_same S h1, sqT_same S h2, itsAt_same S h3⟩
abbrev toI (it : Str × Bool) : Item := (it.1.cps.toList, it.2)
abbrev toIs (its : List (Str × Bool)) : List Item := its.map toI
theorem kind_any (b : Bool) : decide (V.str (kindS b) = V.str "any") = b := by cases b <;> decide
theorem kind_one (b : Bool) : decide (V.str (kindS b) = V.str "one") = !b := by cases b <;> decide
theorem toIs_get {its : List (Str × Bool)} {i : Nat} {it : Str × Bool} (h : its[i]? = some it) : (toIs its)[i]? = some (toI it) := by
  unfold toIs
  rw [List.getElem?_map, h]
  rfl
/-- a bit of a number, as the program looks at it -/
theorem bit_at (f : Nat → Bool) {m j : Nat} (h : j < m) : decide (V.int ((numF f m / 2 ^ j % 2 : Nat) : Int) = V.int 1) = f j := by
  rw [dec_intV, numF_bit f m j h]
  cases f j <;> decide
def spFirst (K : PySem.W.Frag) : Sp := fun vs H Q _ => ∃ (v : V) (its : List (Str × Bool)) (whole : Bool), vs = [v] ∧ PatAt K H v its whole ∧ its.length ≤ 60 ∧ ∀ H', Same H H' → Q (.int (numF (bitF (toIs its)) (its.length + 1) : Nat)) H'
section
variable {P : Program} {w : World} {K : PySem.W.Frag} {mg : Str → Option Value} {base : Heap}
theorem ok_first_trace {f : Addr} {fd : FuncData} (F : FnP K "first_trace" s_first_trace f fd) (T : TP K mg) : FnOk P w K mg base CX0 1 f fd ["pattern"] (spFirst K) := by
  refine F.ok sc_first_trace (fun vs H Q E h => ?_) (fun cdv A outer s H vs Q E hr h => ?_)
  · obtain ⟨x, its, whole, rfl, _⟩ := h
    rfl
  · obtain ⟨x, its, whole, rfl, ⟨p, t, vs, rfl, hp, ht, hl, hi⟩, h60, k⟩ := h
    have nd := sc_first_trace.nd
    refine ⟨_, PSs.nox (pss_cons (ps_asg (pv 0) (pg_tup (by rfl) (pgs_cons (pg_name (i := 1) nd rfl (.inl rfl)) (pgs_cons (pg_name (i := 2) nd rfl (.inl rfl)) pgs_nil))))
      (pss_cons (ps_set (i := 3) nd rfl (.inl rfl) pe_int)
      (pss_cons (ps_for PassesOwn.never rfl (pi_enumT (by rfl) T.b_enumerate (pa_cons (pv 1) pa_nil)) (pg_tup (by rfl) (pgs_cons (pg_name (i := 4) nd rfl (.inl rfl)) (pgs_cons (pg_tup (by rfl) (pgs_cons (pg_name (i := 2) nd rfl (.inl rfl)) (pgs_cons (pg_name (i := 5) nd rfl (.inl rfl)) pgs_nil))) pgs_nil))) (pss_one (ps_if (PW.pt (pw_and (pt_cmpR op_eq (pv 5) pe_str (nomark _)) (pw_and1 (pt_cmpR op_eq (pe_op op_odd (pe_op op_shrNN (pv 3) (pv 4)) pe_int) pe_int (nomark _))))) (pss_one (ps_aug (i := 3) nd rfl (.inl rfl) (pe_op op_shlNN pe_int (pe_op op_addN (pv 4) pe_int)) ip_add)) pss_nil)))
      (pss_one (ps_ret (pv 3)))))), ?_⟩
    refine ⟨_, rfl, p, _, rfl, hp, rfl, _, _, rfl, _, _, rfl, rfl, ?_⟩
    refine ⟨_, rfl, t, vs, rfl, ht, ?_⟩
    refine for_enumT (K := K) (xs := vs) (fun i σ H' => (∃ u a b n, σ = [some (.ref p), some (.ref t), u, some (.int (n : Nat)), a, b] ∧ n = numF (bitF (toIs its)) (i + 1)) ∧ Same H H')
      ⟨⟨_, _, _, 1, rfl, rfl⟩, Same.refl H⟩ (fun i σ H' h => sqT_same h.2 ht) ?_ (fun σ H' h => ?_)
    · rintro i x σ H1 N hx ⟨⟨u, a, b, n, rfl, en⟩, S⟩ nN
      have hil : i < its.length := by rw [← hl]; exact (List.getElem?_eq_some_iff.mp hx).1
      have hit : its[i]? = some its[i] := List.getElem?_eq_getElem hil
      have ge := toIs_get hit
      obtain ⟨q, rfl, hq⟩ := hi i x _ hx hit
      generalize its[i] = it at hit ge hq
      have S2 := S.trans (same_upd (o := .tup [V.int (i : Nat), V.ref q]) nN)
      refine ⟨N, _, rfl, SqT.of upd_same, rfl, _, _, rfl, _, _, rfl, ⟨q, _, rfl, sqT_same S2 hq, rfl, _, _, rfl, _, _, rfl, rfl, rfl, ?_⟩⟩
      refine ⟨_, rfl, rfl, _, rfl, ?_⟩
      rw [kind_any]
      have keep : ∀ {c : Bool}, bitF (toIs its) (i + 1) = c → ((if c = true then numF (bitF (toIs its)) (i + 1) + 2 ^ (i + 1) else numF (bitF (toIs its)) (i + 1)) = numF (bitF (toIs its)) (i + 1 + 1)) := fun {c} e => by
        rw [show numF (bitF (toIs its)) (i + 1 + 1) = numF (bitF (toIs its)) (i + 1) + (if bitF (toIs its) (i + 1) = true then 2 ^ (i + 1) else 0) from rfl, e]
        cases c <;> simp
      have eb : bitF (toIs its) (i + 1) = (it.2 && bitF (toIs its) i) := by
        show (match (toIs its)[i]? with | some it => it.2 && bitF (toIs its) i | none => false) = _
        rw [ge]
      cases hk : it.2 with
      | false =>
        rw [hk, Bool.false_and] at eb
        have := keep eb
        exact iteF ⟨⟨_, _, _, n, rfl, by rw [en, ← this]; rfl⟩, S2⟩
      | true =>
        rw [hk, Bool.true_and] at eb
        refine iteT ⟨_, rfl, _, rfl, _, _, rfl, rfl, _, rfl, rfl, rfl, _, rfl, ?_⟩
        rw [en, bit_at (bitF (toIs its)) (Nat.lt_succ_self i)]
        have := keep eb
        cases hb : bitF (toIs its) i with
        | false =>
          rw [hb] at this
          exact iteF ⟨⟨_, _, _, numF (bitF (toIs its)) (i + 1), rfl, by rw [← this]; rfl⟩, S2⟩
        | true =>
          rw [hb] at this
          refine iteT ⟨_, rfl, _, rfl, i, 1, rfl, rfl, i + 1, rfl, rfl, by omega, _, _, rfl, rfl, ?_⟩
          exact ⟨⟨_, _, _, numF (bitF (toIs its)) (i + 1) + 2 ^ (i + 1), rfl, by rw [← this]; rfl⟩, S2⟩
    · obtain ⟨⟨u, a, b, n, rfl, rfl⟩, S⟩ := h
      rw [hl]
      exact ⟨_, rfl, k _ S⟩
def spNext (K : PySem.W.Frag) : Sp := fun vs H Q _ => ∃ (v : V) (its : List (Str × Bool)) (whole : Bool) (o : Nat → Bool) (c : Nat), vs = [v, .int (numF o (its.length + 1) : Nat), .str ⟨#[c]⟩] ∧ PatAt K H v its whole ∧ its.length ≤ 60 ∧
  ∀ H', Same H H' → Q (.int (numF (bitN (toIs its) whole o c) (its.length + 1) : Nat)) H'
theorem ok_next_trace {f : Addr} {fd : FuncData} (F : FnP K "next_trace" s_next_trace f fd) (T : TP K mg) : FnOk P w K mg base CX0 1 f fd ["pattern", "trace", "letter"] (spNext K) := by
  refine F.ok sc_next_trace (fun vs H Q E h => ?_) (fun cdv A outer s H vs Q E hr h => ?_)
  · obtain ⟨x, its, whole, o, c, rfl, _⟩ := h
    rfl
  · obtain ⟨x, its, whole, o, c, rfl, ⟨p, t, vs, rfl, hp, ht, hl, hi⟩, h60, k⟩ := h
    have nd := sc_next_trace.nd
    refine ⟨_, PSs.nox (pss_cons (ps_asg (pv 0) (pg_tup (by rfl) (pgs_cons (pg_name (i := 3) nd rfl (.inl rfl)) (pgs_cons (pg_name (i := 4) nd rfl (.inl rfl)) pgs_nil))))
      (C8.pss_cut (ps_set (i := 5) nd rfl (.inl rfl) (pe_ifExp (pt_val (pv 4)) pe_int pe_int))
      (pss_cons (ps_for PassesOwn.never rfl (pi_enumT (by rfl) T.b_enumerate (pa_cons (pv 3) pa_nil)) (pg_tup (by rfl) (pgs_cons (pg_name (i := 6) nd rfl (.inl rfl)) (pgs_cons (pg_tup (by rfl) (pgs_cons (pg_name (i := 7) nd rfl (.inl rfl)) (pgs_cons (pg_name (i := 8) nd rfl (.inl rfl)) pgs_nil))) pgs_nil))) (C8.pss_cut (ps_set (i := 9) nd rfl (.inl rfl) (pe_ifExp (pt_cmpR op_eq (pv 8) pe_str (nomark _)) (pe_op op_odd (pe_op op_shrNN (pv 1) (pv 6)) pe_int) (pe_op op_odd (pe_op op_shrNN (pv 1) (pe_op op_addN (pv 6) pe_int)) pe_int)))
      (C8.pss_cut (ps_set (i := 10) nd rfl (.inl rfl) (pe_ifExp (pt_cmpR op_eq (pv 8) pe_str (nomark _)) pe_int (pe_op op_odd (pe_op op_shrNN (pv 5) (pv 6)) pe_int)))
      (pss_one (ps_if (PW.pt (pw_or (pt_cmpR op_eq (pv 10) pe_int (nomark _)) (pw_or1 (PW.pt (pw_and (pt_cmpR op_eq (pv 9) pe_int (nomark _)) (pw_and1 (pt_cmpR op_in_sign (pv 2) (pv 7) (by rfl)))))))) (pss_one (ps_aug (i := 5) nd rfl (.inl rfl) (pe_op op_shlNN pe_int (pe_op op_addN (pv 6) pe_int)) ip_add)) pss_nil)))))
      (pss_one (ps_ret (pv 5)))))), ?_⟩
    generalize hf : bitN (toIs its) whole o c = f at k
    have f0 : f 0 = !whole := by rw [← hf]; rfl
    refine ⟨_, rfl, p, _, rfl, hp, rfl, _, _, rfl, _, _, rfl, rfl, ?_⟩
    refine ⟨fun σ H' => H' = H ∧ σ = [some (.ref p), some (.int (numF o (its.length + 1) : Nat)), some (.str ⟨#[c]⟩), some (.ref t), some (.bl whole), some (.int (numF f 1 : Nat)), none, none, none, none, none], ?_, ?_⟩
    · have e1 : numF f 1 = if (!whole) = true then 1 else 0 := by
        show 0 + (if f 0 = true then 2 ^ 0 else 0) = _
        rw [f0, Nat.zero_add]
      rw [e1]
      refine ⟨_, rfl, _, rfl, ?_⟩
      cases whole
      · exact iteF ⟨rfl, rfl⟩
      · exact iteT ⟨rfl, rfl⟩
    rintro σ H' ⟨rfl, rfl⟩
    refine ⟨_, rfl, t, vs, rfl, ht, ?_⟩
    refine for_enumT (K := K) (xs := vs) (fun i σ H2 => (∃ a b d e g n, σ = [some (.ref p), some (.int (numF o (its.length + 1) : Nat)), some (.str ⟨#[c]⟩), some (.ref t), some (.bl whole), some (.int (n : Nat)), a, b, d, e, g] ∧ n = numF f (i + 1)) ∧ Same H' H2)
      ⟨⟨_, _, _, _, _, _, rfl, rfl⟩, Same.refl H'⟩ (fun i σ H h => sqT_same h.2 ht) ?_ (fun σ H h => ?_)
    · rintro i x σ H1 N hx ⟨⟨a, b, d, e, g, n, rfl, rfl⟩, S⟩ nN
      have hil : i < its.length := by rw [← hl]; exact (List.getElem?_eq_some_iff.mp hx).1
      have hit : its[i]? = some its[i] := List.getElem?_eq_getElem hil
      have ge := toIs_get hit
      obtain ⟨q, rfl, hq⟩ := hi i x _ hx hit
      generalize its[i] = it at hit ge hq
      have S2 := S.trans (same_upd (o := .tup [V.int (i : Nat), V.ref q]) nN)
      have eb : f (i + 1) = ((it.2 && f i) || ((if it.2 = true then o (i + 1) else o i) && decide (c ∈ it.1.cps.toList))) := by
        rw [← hf]
        show (match (toIs its)[i]? with | some it => (it.2 && bitN (toIs its) whole o c i) || ((if it.2 = true then o (i + 1) else o i) && decide (c ∈ it.1)) | none => false) = _
        rw [ge]
      have eF : numF f (i + 1 + 1) = numF f (i + 1) + (if f (i + 1) = true then 2 ^ (i + 1) else 0) := rfl
      refine ⟨N, _, rfl, SqT.of upd_same, rfl, _, _, rfl, _, _, rfl, ⟨q, _, rfl, sqT_same S2 hq, rfl, _, _, rfl, _, _, rfl, rfl, rfl, ?_⟩⟩
      have bo : ∀ j, j < its.length + 1 → ((numF o (its.length + 1) / 2 ^ j % 2 : Nat)) = if o j = true then 1 else 0 := fun j hj => numF_bit o _ j hj
      have bf : ((numF f (i + 1) / 2 ^ i % 2 : Nat)) = if f i = true then 1 else 0 := numF_bit f _ i (Nat.lt_succ_self i)
      let bef : Bool := if it.2 = true then o (i + 1) else o i
      refine ⟨fun σ H3 => H3 = upd H1 N (.tup [V.int (i : Nat), V.ref q]) ∧ σ = [some (.ref p), some (.int (numF o (its.length + 1) : Nat)), some (.str ⟨#[c]⟩), some (.ref t), some (.bl whole), some (.int (numF f (i + 1) : Nat)), some (.int (i : Nat)), some (.str it.1), some (.str (kindS it.2)), some (.int ((if bef = true then 1 else 0 : Nat) : Nat)), g], ?_, ?_⟩
      · refine ⟨_, rfl, rfl, _, rfl, ?_⟩
        rw [kind_one]
        cases hk : it.2 with
        | false =>
          have e1 : bef = o i := by show (if it.2 = true then o (i + 1) else o i) = _; rw [hk]; rfl
          rw [e1, ← bo i (by omega)]
          exact iteT ⟨_, rfl, _, rfl, _, i, rfl, rfl, _, rfl, rfl, ⟨rfl, rfl⟩⟩
        | true =>
          have e1 : bef = o (i + 1) := by show (if it.2 = true then o (i + 1) else o i) = _; rw [hk]; rfl
          rw [e1, ← bo (i + 1) (by omega)]
          exact iteF ⟨_, rfl, _, rfl, i, 1, rfl, rfl, _, i + 1, rfl, rfl, _, rfl, rfl, ⟨rfl, rfl⟩⟩
      rintro σ H3 ⟨rfl, rfl⟩
      refine ⟨fun σ H3 => H3 = upd H1 N (.tup [V.int (i : Nat), V.ref q]) ∧ σ = [some (.ref p), some (.int (numF o (its.length + 1) : Nat)), some (.str ⟨#[c]⟩), some (.ref t), some (.bl whole), some (.int (numF f (i + 1) : Nat)), some (.int (i : Nat)), some (.str it.1), some (.str (kindS it.2)), some (.int ((if bef = true then 1 else 0 : Nat) : Nat)), some (.int ((if (it.2 && f i) = true then 1 else 0 : Nat) : Nat))], ?_, ?_⟩
      · refine ⟨_, rfl, rfl, _, rfl, ?_⟩
        rw [kind_one]
        cases hk : it.2 with
        | false =>
          exact iteT ⟨rfl, rfl⟩
        | true =>
          rw [Bool.true_and, ← bf]
          exact iteF ⟨_, rfl, _, rfl, _, i, rfl, rfl, _, rfl, rfl, ⟨rfl, rfl⟩⟩
      rintro σ H3 ⟨rfl, rfl⟩
      have dec1 : ∀ x : Bool, decide (V.int (((if x = true then 1 else 0 : Nat) : Nat) : Int) = V.int 1) = x := fun x => by cases x <;> decide
      refine ⟨_, rfl, rfl, _, rfl, ?_⟩
      rw [dec1]
      have fin : ∀ {b : Bool}, f (i + 1) = b → numF f (i + 1 + 1) = numF f (i + 1) + (if b = true then 2 ^ (i + 1) else 0) := fun {b} e => by rw [eF, e]
      cases h1 : (it.2 && f i) with
      | true =>
        rw [h1, Bool.true_or] at eb
        have e2 := fin eb
        refine iteT (iteT ⟨_, rfl, _, rfl, i, 1, rfl, rfl, i + 1, rfl, rfl, by omega, _, _, rfl, rfl, ?_⟩)
        exact ⟨⟨_, _, _, _, _, _, rfl, e2.symm⟩, S2⟩
      | false =>
        rw [h1, Bool.false_or] at eb
        refine iteF ⟨_, rfl, rfl, _, rfl, ?_⟩
        rw [dec1]
        have eb' : f (i + 1) = (bef && decide (c ∈ it.1.cps.toList)) := eb
        cases h2 : bef with
        | false =>
          rw [h2, Bool.false_and] at eb'
          have e2 := fin eb'
          exact iteF (iteF ⟨⟨_, _, _, _, _, _, rfl, e2.symm⟩, S2⟩)
        | true =>
          rw [h2, Bool.true_and] at eb'
          have e2 := fin eb'
          refine iteT ⟨_, rfl, _, rfl, c, it.1, rfl, rfl, _, rfl, ?_⟩
          cases h3 : decide (c ∈ it.1.cps.toList) with
          | false =>
            rw [h3] at e2
            exact iteF ⟨⟨_, _, _, _, _, _, rfl, e2.symm⟩, S2⟩
          | true =>
            rw [h3] at e2
            refine iteT ⟨_, rfl, _, rfl, i, 1, rfl, rfl, i + 1, rfl, rfl, by omega, _, _, rfl, rfl, ?_⟩
            exact ⟨⟨_, _, _, _, _, _, rfl, e2.symm⟩, S2⟩
    · obtain ⟨⟨a, b, d, e, g, n, rfl, rfl⟩, S⟩ := h
      rw [hl]
      exact ⟨_, rfl, k _ S⟩
end
end K0
-- K6Fits
set_option maxRecDepth 100000
set_option maxHeartbeats 4000000
namespace K0
open PySem L2 FM He
def trN (its : List (Str × Bool)) (whole : Bool) (t : List Nat) : Nat := numF (trB (toIs its) whole t) (its.length + 1)
def spTraceOf (K : PySem.W.Frag) : Sp := fun vs H Q _ => ∃ (v : V) (its : List (Str × Bool)) (whole : Bool) (z : Str), vs = [v, .str z] ∧ PatAt K H v its whole ∧ its.length ≤ 60 ∧ ∀ H', Same H H' → Q (.int (trN its whole z.cps.toList : Nat)) H'
def spMatched (K : PySem.W.Frag) : Sp := fun vs H Q _ => ∃ (v : V) (its : List (Str × Bool)) (whole : Bool) (o : Nat → Bool), vs = [v, .int (numF o (its.length + 1) : Nat)] ∧ PatAt K H v its whole ∧ its.length ≤ 60 ∧ Q (.bl (o its.length)) H
def spTurned (K : PySem.W.Frag) : Sp := fun vs H Q _ => ∃ (v : V) (its : List (Str × Bool)) (whole : Bool), vs = [v] ∧ PatAt K H v its whole ∧ ∀ v' H', Same H H' → PatAt K H' v' its.reverse whole → Q v' H'
section
variable {P : Program} {w : World} {K : PySem.W.Frag} {mg : Str → Option Value} {base : Heap}
theorem ok_trace_of {f : Addr} {fd : FuncData} (F : FnP K "trace_of" s_trace_of f fd) (T : TP K mg) : FnOk P w K mg base CX0 2 f fd ["pattern", "text"] (spTraceOf K) := by
  obtain ⟨d_first_trace, F_first_trace⟩ := T.f_first_trace
  have G_first_trace := ok_first_trace (P := P) (w := w) (base := base) F_first_trace T
  have b_first_trace : Binds K d_first_trace ["pattern"] [] := F_first_trace.bindsN fun _ _ _ _ _ _ us hl => match us, hl with | [_], _ => rfl
  obtain ⟨d_next_trace, F_next_trace⟩ := T.f_next_trace
  have G_next_trace := ok_next_trace (P := P) (w := w) (base := base) F_next_trace T
  have b_next_trace : Binds K d_next_trace ["pattern", "trace", "letter"] [] := F_next_trace.bindsN fun _ _ _ _ _ _ us hl => match us, hl with | [_, _, _], _ => rfl
  refine F.ok sc_trace_of (fun vs H Q E h => ?_) (fun cdv A outer s H vs Q E hr h => ?_)
  · obtain ⟨v, its, whole, z, rfl, _⟩ := h
    rfl
  · obtain ⟨v, its, whole, z, rfl, hp, h60, k⟩ := h
    have nd := sc_trace_of.nd
    refine ⟨_, PSs.nox (pss_cons (ps_set (i := 2) nd rfl (.inl rfl) (pe_call G_first_trace (hr.mono (by decide)) rfl T.g_first_trace F_first_trace.kp b_first_trace .nil pass0 (pa_cons (pv 0) pa_nil)))
      (pss_cons (ps_for PassesOwn.never rfl (pi_str (pv 1)) (pg_name (i := 3) nd rfl (.inl rfl)) (pss_one (ps_set (i := 2) nd rfl (.inl rfl) (pe_call G_next_trace (hr.mono (by decide)) rfl T.g_next_trace F_next_trace.kp b_next_trace .nil pass0 (pa_cons (pv 0) (pa_cons (pv 2) (pa_cons (pv 3) pa_nil)))))))
      (pss_one (ps_ret (pv 2))))), ?_⟩
    refine ⟨_, rfl, v, its, whole, rfl, hp, h60, fun H1 S1 => ?_⟩
    refine ⟨_, rfl, z, rfl, ?_⟩
    refine for_it walk_str (fun i σ H' => (∃ a n, σ = [some v, some (.str z), some (.int (n : Nat)), a] ∧ n = trN its whole (z.cps.toList.take i)) ∧ Same H H') ⟨⟨_, _, rfl, rfl⟩, S1⟩ (fun _ _ _ _ _ => trivial) ?_ ?_
    · rintro i x σ H2 H3 hi ⟨⟨a, n, rfl, rfl⟩, S⟩ ⟨rfl, c, hc, rfl⟩
      refine ⟨_, rfl, _, rfl, _, rfl, v, its, whole, trB (toIs its) whole (z.cps.toList.take i), c, rfl, patAt_same S hp, h60, fun H4 S4 => ?_⟩
      have hc' : z.cps.toList[i]? = some c := by simpa using hc
      have e : trB (toIs its) whole (z.cps.toList.take (i + 1)) = bitN (toIs its) whole (trB (toIs its) whole (z.cps.toList.take i)) c := by
        rw [List.take_add_one, hc']
        unfold trB
        rw [List.foldl_append]
        rfl
      refine ⟨⟨_, _, rfl, ?_⟩, S.trans S4⟩
      unfold trN
      rw [e]
    · rintro σ H2 ⟨⟨a, n, rfl, rfl⟩, S⟩
      have e : z.cps.toList.take z.cps.size = z.cps.toList := List.take_of_length_le (by simp)
      rw [e]
      exact ⟨_, rfl, k _ S⟩
theorem ok_is_matched {f : Addr} {fd : FuncData} (F : FnP K "is_matched" s_is_matched f fd) (T : TP K mg) : FnOk P w K mg base CX0 1 f fd ["pattern", "trace"] (spMatched K) := by
  refine F.ok sc_is_matched (fun vs H Q E h => ?_) (fun cdv A outer s H vs Q E hr h => ?_)
  · obtain ⟨v, its, whole, o, rfl, _⟩ := h
    rfl
  · obtain ⟨v, its, whole, o, rfl, ⟨p, t, vs, rfl, hp, ht, hl, hi⟩, h60, k⟩ := h
    have nd := sc_is_matched.nd
    refine ⟨_, PSs.nox (pss_one (ps_ret (pe_cmpR op_eq (pe_op op_odd (pe_op op_shrNN (pv 1) (pe_callB call_len (by rfl) T.b_len (by decide +kernel) (pa_cons (pe_ix ix_seq (pv 0) pe_int (fun _ _ => rfl)) pa_nil))) pe_int) pe_int (nomark _)))), ?_⟩
    have at0 : atI ([V.ref t, V.bl whole] : List V) 0 = some (.ref t) := rfl
    refine ⟨_, rfl, _, rfl, .inr (.inl ⟨p, _, 0, _, rfl, rfl, hp, at0, _, its.length, rfl, .inr ⟨vs, ht, hl.symm⟩, _, its.length, rfl, rfl, _, rfl, rfl, rfl, ?_⟩)⟩
    rw [bit_at o (Nat.lt_succ_self _)]
    exact k
theorem ok_turned_round {f : Addr} {fd : FuncData} (F : FnP K "turned_round" s_turned_round f fd) (T : TP K mg) : FnOk P w K mg base CX0 1 f fd ["pattern"] (spTurned K) := by
  refine F.ok sc_turned_round (fun vs H Q E h => ?_) (fun cdv A outer s H vs Q E hr h => ?_)
  · obtain ⟨v, its, whole, rfl, _⟩ := h
    rfl
  · obtain ⟨v, its, whole, rfl, ⟨p, t, vs, rfl, hp, ht, hl, hi⟩, k⟩ := h
    have nd := sc_turned_round.nd
    refine ⟨_, PSs.nox (pss_cons (ps_asg (pv 0) (pg_tup (by rfl) (pgs_cons (pg_name (i := 1) nd rfl (.inl rfl)) (pgs_cons (pg_name (i := 2) nd rfl (.inl rfl)) pgs_nil))))
      (pss_one (ps_ret (pe_tup (pa_cons (pe_backT (pv 1)) (pa_cons (pv 2) pa_nil)))))), ?_⟩
    refine ⟨_, rfl, p, _, rfl, hp, rfl, _, _, rfl, _, _, rfl, rfl, ?_⟩
    refine ⟨_, rfl, t, vs, rfl, ht, fun q nq => ?_⟩
    have S1 := same_upd (o := .tup vs.reverse) nq
    refine ⟨_, rfl, by show 2 ≤ sizeLine; decide, fun r nr => ?_⟩
    have S2 := same_upd (o := .tup [.ref q, .bl whole]) nr
    refine k _ _ (S1.trans S2) ⟨r, q, vs.reverse, rfl, SqT.of upd_same, SqT.of (S2 _ _ upd_same), by rw [List.length_reverse, List.length_reverse, hl], fun i y it hy hit => ?_⟩
    have h1 : i < vs.length := by have := (List.getElem?_eq_some_iff.mp hy).1; simpa using this
    have h2 : i < its.length := by omega
    rw [List.getElem?_reverse h1] at hy
    rw [List.getElem?_reverse h2, ← hl] at hit
    exact itemAt_same (S1.trans S2) (hi _ _ _ hy hit)
end
end K0
-- FmBackL
set_option maxRecDepth 100000
set_option maxHeartbeats 1000000
namespace FM
open PySem PySem.Spec PyProof.Rows L2
theorem back_idx (n : Nat) : Builtin.Str.strSliceIndices none none (-1) n = (List.range n).map fun m => n - 1 - m := by
  unfold Builtin.Str.strSliceIndices
  have h1 : ¬ ((-1 : Int) > 0) := by omega
  simp only [h1, if_false]
  unfold PySem.sliceRange
  simp only [h1, if_false]
  have e1 : (if ((n : Int) - 1 > -1) then ((n : Int) - 1 - -1 - -1 - 1) / (- -1) else 0).toNat = n := by
    have e0 : (- -1 : Int) = 1 := rfl
    rw [e0]
    simp only [Int.ediv_one]
    split <;> omega
  rw [e1]
  refine List.map_congr_left fun m hm => ?_
  have := List.mem_range.mp hm
  omega
theorem backS_cps (z : Str) : (backS z).cps.toList = z.cps.toList.reverse := by
  unfold backS
  rw [back_idx]
  show ((List.range z.length).map fun m => z.length - 1 - m).filterMap (fun i => z.cps[i]?) = _
  have e : z.length = z.cps.toList.length := by simp [Str.length]
  have key : ∀ (xs : List Nat) (l : List Nat), (∀ m ∈ l, m < xs.length) → (l.map fun m => xs.length - 1 - m).filterMap (fun i => xs[i]?) = l.map fun m => xs.reverse.getD m 0 := by
    intro xs l
    induction l with
    | nil => intro _; rfl
    | cons a r ih =>
      intro h
      have ha := h a List.mem_cons_self
      have lt : xs.length - 1 - a < xs.length := by omega
      have e2 : xs[xs.length - 1 - a]? = some (xs.reverse.getD a 0) := by
        rw [List.getElem?_eq_getElem lt, List.getD_eq_getElem?_getD, List.getElem?_reverse ha, List.getElem?_eq_getElem lt]
        rfl
      rw [List.map_cons, List.filterMap_cons, e2, List.map_cons, ih fun m hm => h m (List.mem_cons_of_mem _ hm)]
  have e3 : (fun i : Nat => z.cps[i]?) = fun i : Nat => z.cps.toList[i]? := by
    funext i
    rw [Array.getElem?_toList]
  rw [e3, e, key _ _ fun m hm => List.mem_range.mp hm]
  refine List.ext_getElem (by simp) fun j h1 h2 => ?_
  rw [List.getElem_map, List.getElem_range, List.getD_eq_getElem?_getD, List.getElem?_eq_getElem h2]
  rfl
theorem backS_length (z : Str) : (backS z).length = z.length := by
  have h := congrArg List.length (backS_cps z)
  simpa [Str.length] using h
end FM
-- K6Three
set_option maxRecDepth 100000
set_option maxHeartbeats 4000000
namespace K0
open PySem L2 FM He
def fitR (its : List (Str × Bool)) (_ : Bool) (t : List Nat) : Bool := trB (toIs its) true t its.length
def begR (its : List (Str × Bool)) (whole : Bool) (t : List Nat) : Bool := trB (toIs its.reverse) whole t.reverse its.length
def endR (its : List (Str × Bool)) (whole : Bool) (t : List Nat) : Bool := trB (toIs its) whole t its.length
abbrev Judge := List (Str × Bool) → Bool → List Nat → Bool
def spTwo (K : PySem.W.Frag) (R : Judge) : Sp := fun vs H Q E => ∃ (x y : V) (b c : Bool), vs = [x, y] ∧ PatV K H x b ∧ TextV K H y c ∧
  (b = false → ∀ H', Same H H' → E (.ref (ga K "InvalidBook")) none H') ∧ (b = true → c = false → ∀ H', Same H H' → E (.ref (ga K "InvalidText")) none H') ∧
  (b = true → c = true → ∃ its whole z, PatAt K H x its whole ∧ its.length ≤ 60 ∧ y = .str z ∧ z.length ≤ 60 ∧ ∀ H', Same H H' → Q (.bl (R its whole z.cps.toList)) H')
section
variable {P : Program} {w : World} {K : PySem.W.Frag} {mg : Str → Option Value} {base : Heap}
theorem ok_fits {f : Addr} {fd : FuncData} (F : FnP K "fits" s_fits f fd) (T : TP K mg) : FnOk P w K mg base (L2.CX P w) 5 f fd ["pattern", "text"] (spTwo K fitR) := by
  obtain ⟨d__check, F__check⟩ := T.f__check
  have G__check := ok_check (P := P) (w := w) (base := base) F__check T
  have b__check : Binds K d__check ["pattern", "text"] [] := F__check.bindsN fun _ _ _ _ _ _ us hl => match us, hl with | [_, _], _ => rfl
  obtain ⟨d_is_matched, F_is_matched⟩ := T.f_is_matched
  have G_is_matched := ok_is_matched (P := P) (w := w) (base := base) F_is_matched T
  have b_is_matched : Binds K d_is_matched ["pattern", "trace"] [] := F_is_matched.bindsN fun _ _ _ _ _ _ us hl => match us, hl with | [_, _], _ => rfl
  obtain ⟨d_trace_of, F_trace_of⟩ := T.f_trace_of
  have G_trace_of := ok_trace_of (P := P) (w := w) (base := base) F_trace_of T
  have b_trace_of : Binds K d_trace_of ["pattern", "text"] [] := F_trace_of.bindsN fun _ _ _ _ _ _ us hl => match us, hl with | [_, _], _ => rfl
  refine F.ok sc_fits (fun vs H Q E h => ?_) (fun cdv A outer s H vs Q E hr h => ?_)
  · obtain ⟨x, y, b, c, rfl, _⟩ := h
    rfl
  · obtain ⟨x, y, b, c, rfl, hx, hy, k1, k2, k3⟩ := h
    have nd := sc_fits.nd
    refine ⟨_, (pss_cons (ps_expr (pe_call G__check (hr.mono (by decide)) rfl T.g__check F__check.kp b__check .nil (passes_call (takes_of rfl rfl rfl rfl) (fun _ _ _ _ h => h)) (pa_cons (pv 0) (pa_cons (pv 1) pa_nil))))
      (pss_one (ps_ret (pe_call G_is_matched (hr.mono (by decide)) rfl T.g_is_matched F_is_matched.kp b_is_matched .nil pass0 (pa_cons (pe_tup (pa_cons (pe_ix ix_seq (pv 0) pe_int (fun _ _ => rfl)) (pa_cons pe_bl pa_nil))) (pa_cons (pe_call G_trace_of (hr.mono (by decide)) rfl T.g_trace_of F_trace_of.kp b_trace_of .nil pass0 (pa_cons (pe_tup (pa_cons (pe_ix ix_seq (pv 0) pe_int (fun _ _ => rfl)) (pa_cons pe_bl pa_nil))) (pa_cons (pv 1) pa_nil))) pa_nil)))))), ?_⟩
    refine ⟨_, rfl, _, rfl, x, y, b, c, rfl, hx, hy, fun H1 S1 => ⟨fun e => k1 e _ S1, fun e e2 => k2 e e2 _ S1, fun e e2 => ?_⟩⟩
    obtain ⟨its, whole, z, hp, h60, rfl, hz, k⟩ := k3 e e2
    obtain ⟨p, t, vs, rfl, hp1, ht, hits⟩ := patAt_same S1 hp
    have at0 : atI ([V.ref t, V.bl whole] : List V) 0 = some (.ref t) := rfl
    refine ⟨_, rfl, .inr (.inl ⟨p, _, 0, _, rfl, rfl, hp1, at0, by show 2 ≤ sizeLine; decide, fun q nq => ?_⟩)⟩
    have S2 := same_upd (o := .tup [.ref t, .bl true]) nq
    refine ⟨_, rfl, .inr (.inl ⟨p, _, 0, _, rfl, rfl, sqT_same S2 hp1, at0, by show 2 ≤ sizeLine; decide, fun r nr => ?_⟩)⟩
    have S3 := same_upd (o := .tup [.ref t, .bl true]) nr
    refine ⟨_, rfl, _, its, true, z, rfl, ⟨r, t, vs, rfl, SqT.of upd_same, sqT_same (S2.trans S3) ht, itsAt_same (S2.trans S3) hits⟩, h60, fun H4 S4 => ?_⟩
    refine ⟨_, its, true, trB (toIs its) true z.cps.toList, rfl, ⟨q, t, vs, rfl, SqT.of (S4 _ _ (S3 _ _ upd_same)), sqT_same ((S2.trans S3).trans S4) ht, itsAt_same ((S2.trans S3).trans S4) hits⟩, h60, ?_⟩
    exact k _ (((S1.trans S2).trans S3).trans S4)
theorem ok_begins_with {f : Addr} {fd : FuncData} (F : FnP K "begins_with" s_begins_with f fd) (T : TP K mg) : FnOk P w K mg base (L2.CX P w) 5 f fd ["pattern", "text"] (spTwo K begR) := by
  obtain ⟨d__check, F__check⟩ := T.f__check
  have G__check := ok_check (P := P) (w := w) (base := base) F__check T
  have b__check : Binds K d__check ["pattern", "text"] [] := F__check.bindsN fun _ _ _ _ _ _ us hl => match us, hl with | [_, _], _ => rfl
  obtain ⟨d_turned_round, F_turned_round⟩ := T.f_turned_round
  have G_turned_round := ok_turned_round (P := P) (w := w) (base := base) F_turned_round T
  have b_turned_round : Binds K d_turned_round ["pattern"] [] := F_turned_round.bindsN fun _ _ _ _ _ _ us hl => match us, hl with | [_], _ => rfl
  obtain ⟨d_is_matched, F_is_matched⟩ := T.f_is_matched
  have G_is_matched := ok_is_matched (P := P) (w := w) (base := base) F_is_matched T
  have b_is_matched : Binds K d_is_matched ["pattern", "trace"] [] := F_is_matched.bindsN fun _ _ _ _ _ _ us hl => match us, hl with | [_, _], _ => rfl
  obtain ⟨d_trace_of, F_trace_of⟩ := T.f_trace_of
  have G_trace_of := ok_trace_of (P := P) (w := w) (base := base) F_trace_of T
  have b_trace_of : Binds K d_trace_of ["pattern", "text"] [] := F_trace_of.bindsN fun _ _ _ _ _ _ us hl => match us, hl with | [_, _], _ => rfl
  refine F.ok sc_begins_with (fun vs H Q E h => ?_) (fun cdv A outer s H vs Q E hr h => ?_)
  · obtain ⟨x, y, b, c, rfl, _⟩ := h
    rfl
  · obtain ⟨x, y, b, c, rfl, hx, hy, k1, k2, k3⟩ := h
    have nd := sc_begins_with.nd
    refine ⟨_, (pss_cons (ps_expr (pe_call G__check (hr.mono (by decide)) rfl T.g__check F__check.kp b__check .nil (passes_call (takes_of rfl rfl rfl rfl) (fun _ _ _ _ h => h)) (pa_cons (pv 0) (pa_cons (pv 1) pa_nil))))
      (pss_cons (ps_set (i := 2) nd rfl (.inl rfl) (pe_call G_turned_round (hr.mono (by decide)) rfl T.g_turned_round F_turned_round.kp b_turned_round .nil pass0 (pa_cons (pv 0) pa_nil)))
      (pss_one (ps_ret (pe_call G_is_matched (hr.mono (by decide)) rfl T.g_is_matched F_is_matched.kp b_is_matched .nil pass0 (pa_cons (pv 2) (pa_cons (pe_call G_trace_of (hr.mono (by decide)) rfl T.g_trace_of F_trace_of.kp b_trace_of .nil pass0 (pa_cons (pv 2) (pa_cons (pe_backS (pv 1)) pa_nil))) pa_nil))))))), ?_⟩
    refine ⟨_, rfl, _, rfl, x, y, b, c, rfl, hx, hy, fun H1 S1 => ⟨fun e => k1 e _ S1, fun e e2 => k2 e e2 _ S1, fun e e2 => ?_⟩⟩
    obtain ⟨its, whole, z, hp, h60, rfl, hz, k⟩ := k3 e e2
    refine ⟨_, rfl, x, its, whole, rfl, patAt_same S1 hp, fun v' H2 S2 hv => ?_⟩
    have hl : its.reverse.length = its.length := List.length_reverse
    refine ⟨_, rfl, _, rfl, _, rfl, z, rfl, by rw [backS_length, sizeLine_eq]; omega, v', its.reverse, whole, backS z, rfl, hv, by omega, fun H3 S3 => ?_⟩
    refine ⟨v', its.reverse, whole, trB (toIs its.reverse) whole (backS z).cps.toList, rfl, patAt_same S3 hv, by omega, ?_⟩
    have := k _ ((S1.trans S2).trans S3)
    rw [backS_cps, hl]
    exact this
theorem ok_ends_with {f : Addr} {fd : FuncData} (F : FnP K "ends_with" s_ends_with f fd) (T : TP K mg) : FnOk P w K mg base (L2.CX P w) 5 f fd ["pattern", "text"] (spTwo K endR) := by
  obtain ⟨d__check, F__check⟩ := T.f__check
  have G__check := ok_check (P := P) (w := w) (base := base) F__check T
  have b__check : Binds K d__check ["pattern", "text"] [] := F__check.bindsN fun _ _ _ _ _ _ us hl => match us, hl with | [_, _], _ => rfl
  obtain ⟨d_is_matched, F_is_matched⟩ := T.f_is_matched
  have G_is_matched := ok_is_matched (P := P) (w := w) (base := base) F_is_matched T
  have b_is_matched : Binds K d_is_matched ["pattern", "trace"] [] := F_is_matched.bindsN fun _ _ _ _ _ _ us hl => match us, hl with | [_, _], _ => rfl
  obtain ⟨d_trace_of, F_trace_of⟩ := T.f_trace_of
  have G_trace_of := ok_trace_of (P := P) (w := w) (base := base) F_trace_of T
  have b_trace_of : Binds K d_trace_of ["pattern", "text"] [] := F_trace_of.bindsN fun _ _ _ _ _ _ us hl => match us, hl with | [_, _], _ => rfl
  refine F.ok sc_ends_with (fun vs H Q E h => ?_) (fun cdv A outer s H vs Q E hr h => ?_)
  · obtain ⟨x, y, b, c, rfl, _⟩ := h
    rfl
  · obtain ⟨x, y, b, c, rfl, hx, hy, k1, k2, k3⟩ := h
    have nd := sc_ends_with.nd
    refine ⟨_, (pss_cons (ps_expr (pe_call G__check (hr.mono (by decide)) rfl T.g__check F__check.kp b__check .nil (passes_call (takes_of rfl rfl rfl rfl) (fun _ _ _ _ h => h)) (pa_cons (pv 0) (pa_cons (pv 1) pa_nil))))
      (pss_one (ps_ret (pe_call G_is_matched (hr.mono (by decide)) rfl T.g_is_matched F_is_matched.kp b_is_matched .nil pass0 (pa_cons (pv 0) (pa_cons (pe_call G_trace_of (hr.mono (by decide)) rfl T.g_trace_of F_trace_of.kp b_trace_of .nil pass0 (pa_cons (pv 0) (pa_cons (pv 1) pa_nil))) pa_nil)))))), ?_⟩
    refine ⟨_, rfl, _, rfl, x, y, b, c, rfl, hx, hy, fun H1 S1 => ⟨fun e => k1 e _ S1, fun e e2 => k2 e e2 _ S1, fun e e2 => ?_⟩⟩
    obtain ⟨its, whole, z, hp, h60, rfl, hz, k⟩ := k3 e e2
    refine ⟨_, rfl, _, rfl, _, rfl, x, its, whole, z, rfl, patAt_same S1 hp, h60, fun H2 S2 => ?_⟩
    exact ⟨x, its, whole, trB (toIs its) whole z.cps.toList, rfl, patAt_same (S1.trans S2) hp, h60, k _ (S1.trans S2)⟩
end
end K0
-- K6Bag
set_option maxRecDepth 100000
set_option maxHeartbeats 4000000
namespace K0
open PySem L2 FM He
theorem scThrow : FnScope ["_law_bag", "_law_total", "_law_found", "_law_one", "_law_two"] ["_law_bag", "_law_total"] (defScope sThrow) := ⟨rfl, rfl, rfl, by decide +kernel, rfl, by decide +kernel, by decide +kernel⟩
theorem scPick : FnScope ["_law_bag", "_law_items"] ["_law_bag", "_law_items"] (defScope sPick) := ⟨rfl, rfl, rfl, by decide +kernel, rfl, by decide +kernel, by decide +kernel⟩
theorem scStart : FnScope ["_law_script", "_law_at", "_law_cell", "_law_great", "_law_mixed"] ["_law_script", "_law_at"] (defScope sStart) := ⟨rfl, rfl, rfl, by decide +kernel, rfl, by decide +kernel, by decide +kernel⟩
/-- the bag at a: three ints -/
abbrev bagO (g s c : Int) : HO := .lst [.int g, .int s, .int c]
def spThrow : Sp := fun vs H Q _ => ∃ (a : Addr) (g s c t : Int), vs = [.ref a, .int t] ∧ H a = some (bagO g s c) ∧ 0 < t ∧ t < 1073741824 ∧
  ∀ r g' c', 0 ≤ r → r < t → Q (.int r) (upd H a (bagO g' s c'))
structure TB (mg : Str → Option Value) : Prop where
  int : mg "int" = none
  len : mg "len" = none
  abs : mg "abs" = none
  max : mg "max" = none
/-- what pick may be given: a list, a tuple, a text; its items -/
def ItemsOf (K : PySem.W.Frag) (H : Hp) (x : V) (xs : List V) : Prop := (∃ p, x = .ref p ∧ (SqL K H p xs ∨ SqT K H p xs)) ∨ (∃ z : Str, x = .str z ∧ z.length ≤ sizeLine ∧ xs = z.cps.toList.map fun c => V.str ⟨#[c]⟩)
def spPick (K : PySem.W.Frag) : Sp := fun vs H Q _ => ∃ (a : Addr) (g s c : Int) (x : V) (xs : List V), vs = [.ref a, x] ∧ H a = some (bagO g s c) ∧ ItemsOf K H x xs ∧ (∀ g' c', ItemsOf K (upd H a (bagO g' s c')) x xs) ∧ 0 < xs.length ∧ xs.length < 1073741824 ∧
  ∀ y g' c', y ∈ xs → Q y (upd H a (bagO g' s c'))
section
variable {P : Program} {w : World} {K : PySem.W.Frag} {mg : Str → Option Value} {base : Heap}
theorem ok_throw {f : Addr} {fd : FuncData} (F : FnP K "_law_throw" sThrow f fd) (T : TB mg) : FnOk P w K mg base CX0 1 f fd ["_law_bag", "_law_total"] spThrow := by
  refine F.ok scThrow (fun vs H Q E h => ?_) (fun cdv A outer s H vs Q E hr h => ?_)
  · obtain ⟨a, g, s, c, t, rfl, _⟩ := h
    rfl
  · obtain ⟨a, g, s, c, t, rfl, hb, ht, ht2, k⟩ := h
    have nd := scThrow.nd
    refine ⟨_, pss_cons (ps_if (pt_cmpR op_gt (pe_ix ix_list (pv 0) pe_int (fun _ _ => rfl)) pe_int (nomark _))
        (pss_cons (ps_set (i := 2) nd rfl (.inl rfl) (pe_op op_mod (pe_callTy call_intIB (by rfl) T.int (by decide +kernel) (pa_cons (pe_ix ix_list (pv 0) pe_int (fun _ _ => rfl)) pa_nil)) (pv 1)))
        (pss_cons (ps_asg (pe_op op_fdiv (pe_ix ix_list (pv 0) pe_int (fun _ _ => rfl)) (pv 1)) (pg_sub (pv 0) pe_int set_list))
        (pss_one (ps_ret (pv 2))))) pss_nil)
      (pss_cons (ps_asg (pe_op op_add (pe_ix ix_list (pv 0) pe_int (fun _ _ => rfl)) pe_int) (pg_sub (pv 0) pe_int set_list))
      (pss_cons (ps_set (i := 3) nd rfl (.inl rfl) (pe_op op_mod (pe_callTy call_intIB (by rfl) T.int (by decide +kernel) (pa_cons (pe_op op_add (pe_ix ix_list (pv 0) pe_int (fun _ _ => rfl)) (pe_op op_mul pe_int (pe_ix ix_list (pv 0) pe_int (fun _ _ => rfl)))) pa_nil)) pe_int))
      (pss_cons (ps_set (i := 4) nd rfl (.inl rfl) (pe_op op_add (pe_op op_mul (pe_op op_mod (pe_callTy call_intIB (by rfl) T.int (by decide +kernel) (pa_cons (pe_op op_mul (pv 3) (pv 3)) pa_nil)) pe_int) (pv 3)) (pe_op op_mul pe_int (pe_ix ix_list (pv 0) pe_int (fun _ _ => rfl)))))
      (pss_cons (ps_set (i := 4) nd rfl (.inl rfl) (pe_op op_mod (pe_callTy call_intIB (by rfl) T.int (by decide +kernel) (pa_cons (pv 4) pa_nil)) pe_int))
      (pss_one (ps_ret (pe_op op_mod (pe_callTy call_intIB (by rfl) T.int (by decide +kernel) (pa_cons (pe_op op_fdiv (pv 4) pe_int) pa_nil)) (pv 1)))))))), ?_⟩
    have L : ∀ {g s c : Int} {H : Hp}, H a = some (bagO g s c) → SqL K H a [.int g, .int s, .int c] := fun h => SqL.of h
    refine ⟨_, rfl, a, _, 0, .int g, rfl, rfl, L hb, rfl, _, _, rfl, rfl, _, rfl, ?_⟩
    refine ite2 (fun hg => ?_) (fun hg => ?_)
    · refine ⟨_, rfl, a, _, 0, .int g, rfl, rfl, L hb, rfl, .inl ⟨_, rfl, ?_⟩⟩
      refine ⟨_, rfl, _, _, rfl, rfl, ht, ?_⟩
      refine ⟨_, rfl, a, _, 0, .int g, rfl, rfl, L hb, rfl, _, rfl, _, _, rfl, rfl, ⟨ht, ht2⟩, ?_⟩
      refine ⟨_, rfl, a, _, 0, 0, rfl, rfl, hb, rfl, ?_⟩
      refine ⟨_, rfl, ?_⟩
      exact k _ _ _ (Int.emod_nonneg _ (by omega)) (Int.emod_lt_of_pos _ ht)
    · -- bag[2] = bag[2] + 1
      refine ⟨_, rfl, a, _, 2, .int c, rfl, rfl, L hb, rfl, _, _, rfl, rfl, _, rfl, a, _, 2, 2, rfl, rfl, hb, rfl, ?_⟩
      have hb1 : upd H a (bagO g s (c + 1)) a = some (bagO g s (c + 1)) := upd_same
      show _
      refine ⟨_, rfl, a, _, 1, .int s, rfl, rfl, L hb1, rfl, _, rfl, a, _, 2, .int (c + 1), rfl, rfl, L hb1, rfl, _, _, rfl, rfl, .inl (by decide), _, _, rfl, rfl, .inl ⟨_, rfl, _, _, rfl, rfl, (by show (0:Int) < 2305843009213693951; decide), ?_⟩⟩
      have b1 : (0:Int) ≤ (s + 1000403 * (c + 1)) % 2305843009213693951 ∧ (s + 1000403 * (c + 1)) % 2305843009213693951 < 2 ^ 64 := ⟨Int.emod_nonneg _ (by decide), Int.lt_trans (Int.emod_lt_of_pos _ (by decide)) (by decide)⟩
      generalize (s + 1000403 * (c + 1)) % 2305843009213693951 = one at b1 ⊢
      refine ⟨_, rfl, _, rfl, _, _, rfl, rfl, .inl ⟨by omega, by omega⟩, .inl ⟨_, rfl, _, _, rfl, rfl, (by show (0:Int) < 2305843009213693951; decide), _, rfl, _, _, rfl, rfl, .inr ⟨by omega, by omega⟩, _, rfl, a, _, 2, .int (c + 1), rfl, rfl, L hb1, rfl, _, _, rfl, rfl, .inl (by decide), _, _, rfl, rfl, ?_⟩⟩
      generalize one * one % 2305843009213693951 * one + 8111 * (c + 1) = two
      refine ⟨_, rfl, .inl ⟨_, rfl, _, _, rfl, rfl, (by show (0:Int) < 2305843009213693907; decide), ?_⟩⟩
      generalize two % 2305843009213693907 = tw
      refine ⟨_, rfl, _, _, rfl, rfl, (by show (0:Int) < 8192 ∧ (8192:Int) < 1073741824; decide), .inl ⟨_, rfl, _, rfl, _, _, rfl, rfl, ht, ?_⟩⟩
      exact k _ _ _ (Int.emod_nonneg _ (by omega)) (Int.emod_lt_of_pos _ ht)
theorem ok_pick {f fT : Addr} {fd fdT : FuncData} (F : FnP K "_law_pick" sPick f fd) (T : TB mg) (FT : FnP K "_law_throw" sThrow fT fdT) (mT : mg "_law_throw" = some (.ref fT)) (bT : Binds K fdT ["_law_bag", "_law_total"] []) :
    FnOk P w K mg base CX0 2 f fd ["_law_bag", "_law_items"] (spPick K) := by
  have GT : FnOk P w K mg base CX0 1 fT fdT ["_law_bag", "_law_total"] spThrow := ok_throw FT T
  refine F.ok scPick (fun vs H Q E h => ?_) (fun cdv A outer s H vs Q E hr h => ?_)
  · obtain ⟨a, g, s, c, x, xs, rfl, _⟩ := h
    rfl
  · obtain ⟨a, g, s, c, x, xs, rfl, hb, hi, hi2, h0, h1, k⟩ := h
    have nd := scPick.nd
    refine ⟨_, pss_one (ps_ret (pe_ix ix_seq (pv 1) (pe_call GT hr rfl mT FT.kp bT .nil pass0 (pa_cons (pv 0) (pa_cons (pe_callB call_len (by rfl) T.len (by decide +kernel) (pa_cons (pv 1) pa_nil)) pa_nil))) (fun _ _ => rfl))), ?_⟩
    rcases hi with ⟨p, rfl, hs⟩ | ⟨z, rfl, hz, rfl⟩
    · refine ⟨_, rfl, _, rfl, _, rfl, _, xs.length, rfl, ?_, a, g, s, c, xs.length, rfl, hb, by omega, by omega, fun r g' c' hr0 hr1 => ?_⟩
      · rcases hs with hs | hs
        · exact .inl ⟨_, hs, rfl⟩
        · exact .inr ⟨_, hs, rfl⟩
      · have hj : r.toNat < xs.length := by omega
        have e : atI xs r = some xs[r.toNat] := by
          have := atI_nat (xs := xs) (j := r.toNat) (v := xs[r.toNat]) (List.getElem?_eq_getElem hj)
          rwa [Int.toNat_of_nonneg hr0] at this
        have hk := k xs[r.toNat] g' c' (List.getElem_mem hj)
        rcases hi2 g' c' with ⟨p', e', hs'⟩ | ⟨z, e', _⟩
        · cases e'
          rcases hs' with hs' | hs'
          · exact .inl ⟨p, xs, r, _, rfl, rfl, hs', e, hk⟩
          · exact .inr (.inl ⟨p, xs, r, _, rfl, rfl, hs', e, hk⟩)
        · cases e'
    · have el : (z.cps.toList.map fun c => V.str ⟨#[c]⟩).length = z.length := by simp [Str.length]
      rw [el] at h0 h1
      refine ⟨_, rfl, _, rfl, _, rfl, _, z.length, rfl, ⟨hz, rfl⟩, a, g, s, c, z.length, rfl, hb, by omega, by omega, fun r g' c' hr0 hr1 => ?_⟩
      have hj : r.toNat < z.cps.toList.length := by simp [Str.length] at hr1 ⊢; omega
      have e : atI z.cps.toList r = some z.cps.toList[r.toNat] := by
        have := atI_nat (xs := z.cps.toList) (j := r.toNat) (v := z.cps.toList[r.toNat]) (List.getElem?_eq_getElem hj)
        rwa [Int.toNat_of_nonneg hr0] at this
      exact .inr (.inr ⟨z, r, _, rfl, rfl, hz, e, k _ g' c' (List.mem_map.mpr ⟨_, List.getElem_mem hj, rfl⟩)⟩)
def spStart (K : PySem.W.Frag) : Sp := fun vs H Q _ => ∃ (a : Addr) (ns : List Int) (i : Nat), vs = [.ref a, .int i] ∧ SqL K H a (ns.map V.int) ∧ 
  ∀ p g s c, H p = none → Q (.ref p) (upd H p (bagO g s c))
theorem ok_start {f : Addr} {fd : FuncData} (F : FnP K "_law_start" sStart f fd) (T : TB mg) : FnOk P w K mg base CX0 1 f fd ["_law_script", "_law_at"] (spStart K) := by
  refine F.ok scStart (fun vs H Q E h => ?_) (fun cdv A outer s H vs Q E hr h => ?_)
  · obtain ⟨a, ns, i, rfl, _⟩ := h
    rfl
  · obtain ⟨a, ns, i, rfl, hs, k⟩ := h
    have nd := scStart.nd
    refine ⟨_, C8.pss_cut (ps_set (i := 2) nd rfl (.inl rfl) (pe_ifExp (pt_cmpR op_lt (pv 1) (pe_callB call_len (by rfl) T.len (by decide +kernel) (pa_cons (pv 0) pa_nil)) (nomark _))
          (pe_ix ix_seq (pv 0) (pv 1) (fun _ _ => rfl)) (pe_op op_add (pe_op op_mul pe_int (pv 1)) pe_int)))
      (pss_cons (ps_set (i := 3) nd rfl (.inl rfl) (pe_op op_mod (pe_callTy call_intIB (by rfl) T.int (by decide +kernel) (pa_cons (pe_callB call_abs (by rfl) T.abs (by decide +kernel) (pa_cons (pv 2) pa_nil)) pa_nil)) (pe_op op_powW (pe_op op_powW pe_int pe_int) pe_int)))
      (pss_cons (ps_set (i := 4) nd rfl (.inl rfl) (pe_op op_add (pe_op op_add (pe_op op_add (pe_op op_mul (pe_op op_mod (pe_callTy call_intIB (by rfl) T.int (by decide +kernel) (pa_cons (pv 3) pa_nil)) pe_int) pe_int) (pe_op op_mul pe_int (pv 1)))
          (pe_op op_mul pe_int (pe_callTy call_intIB (by rfl) T.int (by decide +kernel) (pa_cons (pe_cmpR op_lt (pv 2) pe_int (nomark _)) pa_nil)))) pe_int))
      (pss_one (ps_ret (pe_lst (pa_cons (pe_callB (call_max2 rfl) (by rfl) T.max (by decide +kernel) (pa_cons pe_int (pa_cons (pe_op op_sub (pv 3) (pe_op op_powW pe_int pe_int)) pa_nil)))
        (pa_cons (pe_op op_mod (pe_callTy call_intIB (by rfl) T.int (by decide +kernel) (pa_cons (pv 4) pa_nil)) pe_int) (pa_cons pe_int pa_nil)))))))), ?_⟩
    have hlen : (ns.map V.int).length = ns.length := by simp
    refine ⟨fun σ' H' => ∃ cell : Int, σ' = [some (.ref a), some (.int i), some (.int cell), none, none] ∧ H' = H, ?_, ?_⟩
    · refine ⟨_, rfl, _, rfl, _, _, rfl, .inl ⟨_, hs, rfl⟩, _, _, rfl, rfl, _, rfl, ?_⟩
      refine ite2 (fun hi => ?_) (fun hi => ?_)
      · have hi' : i < (ns.map V.int).length := by simp at hi ⊢; omega
        have e := atI_nat (xs := ns.map V.int) (j := i) (v := (ns.map V.int)[i]) (List.getElem?_eq_getElem hi')
        refine ⟨_, rfl, _, rfl, .inl ⟨a, _, _, (ns.map V.int)[i], rfl, rfl, hs, e, ?_⟩⟩
        rw [List.getElem_map]
        exact ⟨_, rfl, rfl⟩
      · refine ⟨_, rfl, _, _, rfl, rfl, .inl (by decide), _, _, rfl, rfl, ?_⟩
        exact ⟨_, rfl, rfl⟩
    · rintro σ' H' ⟨cell, rfl, rfl⟩
      have hp : (0:Int) < ((10 ^ (58:Int).toNat) ^ (12:Int).toNat) := by decide +kernel
      refine ⟨_, rfl, _, rfl, .inl ⟨_, rfl, _, _, rfl, rfl, ⟨by decide, by decide +kernel⟩, _, _, rfl, rfl, ⟨by decide, by decide +kernel⟩, _, _, rfl, rfl, hp, ?_⟩⟩
      generalize (if cell < 0 then -cell else cell) % ((10 ^ (58:Int).toNat) ^ (12:Int).toNat) = great
      refine ⟨_, rfl, .inl ⟨_, rfl, _, _, rfl, rfl, (by show (0:Int) < 2147483497; decide), _, _, rfl, rfl, .inr (by decide), _, rfl, _, _, rfl, rfl, .inl (by decide), _, _, rfl, rfl, ?_⟩⟩
      refine ⟨_, rfl, _, _, rfl, rfl, .inr ⟨_, rfl, _, _, rfl, rfl, .inl (by decide), _, _, rfl, rfl, _, _, rfl, rfl, ?_⟩⟩
      refine ⟨_, rfl, _, _, rfl, rfl, ⟨by decide, by decide +kernel⟩, _, _, rfl, rfl, _, _, rfl, ?_⟩
      refine ⟨_, rfl, .inl ⟨_, rfl, _, _, rfl, rfl, (by show (0:Int) < 2147483353; decide), by show 3 ≤ sizeLine; decide, fun p np => ?_⟩⟩
      exact k p _ _ _ np
theorem tb0 (T : TP K mg) : TB mg := ⟨T.b_int, T.b_len, T.b_abs, T.b_max⟩
theorem ok_law_throw {f : Addr} {fd : FuncData} (F : FnP K "_law_throw" sThrow f fd) (T : TP K mg) : FnOk P w K mg base CX0 1 f fd ["_law_bag", "_law_total"] spThrow := ok_throw F (tb0 T)
theorem ok_law_start {f : Addr} {fd : FuncData} (F : FnP K "_law_start" sStart f fd) (T : TP K mg) : FnOk P w K mg base CX0 1 f fd ["_law_script", "_law_at"] (spStart K) := ok_start F (tb0 T)
theorem ok_law_pick {f : Addr} {fd : FuncData} (F : FnP K "_law_pick" sPick f fd) (T : TP K mg) : FnOk P w K mg base CX0 2 f fd ["_law_bag", "_law_items"] (spPick K) := by
  obtain ⟨_, FT⟩ := T.f__law_throw
  exact ok_pick F (tb0 T) FT T.g__law_throw (FT.bindsN fun _ _ _ _ _ _ us hl => match us, hl with | [_, _], _ => rfl)
end
end K0
-- FmDict
set_option maxRecDepth 100000
set_option maxHeartbeats 4000000
/-! A dict display of one pair, whose key is a tuple: {(0, 0): v}. -/
namespace FM
open PySem PySem.Spec PyProof.Rows L2
def tDisT (trs : List (TE × TE)) : TE := fun σ H Q => ∀ p, H p = none → tPairs trs σ (upd H p (.dT [])) fun ps H2 =>
  H2 p = some (.dT []) ∧ ∃ (ks : List L2.Key) (t : Addr) (v : V), ps = [(.ref t, v)] ∧ H2 t = some (.tup (ks.map kV)) ∧ Q (.ref p) (upd H2 p (.dT [(ks, v)]))
theorem pe_disT {X : Cx} {pos : Pos} {k ve : Expr} {trs : List (TE × TE)} (hu : X.A.units + 1 < cLine) (h : PPs X pos [some k] [ve] trs) : PE X (.Dict [some k] [ve] pos) (tDisT trs) := by
  refine ⟨fun pins s σ H Q I q => ?_⟩
  let a : Addr := s.heap.objs.size
  have fr : H a = none := I.hok.fresh (Nat.le_refl _)
  have J := I.laid (t' := s.toks) (a := a) (o := .dT []) (fun _ _ z => Heap.get?_push_of_some { cls := .type "dict", data := .dict #[] } z) (Nat.le_refl _) (dt_empty s.heap I.big)
  have room : (tupleKind (mixKind X.prog X.w)).room X.A := Nat.lt_of_succ_lt hu
  rw [arm_eval_Dict, zip_pairTrees [some k] [ve] X.env pos rfl rfl, dictDisplay_pairs _ (by intro z; cases z) (by show 1 < 17; decide)]
  refine wpAny_bind (wpAny_standAt (wpAny_bind (wpAny_subDictH room (by show 1 ≤ 15; decide) ?_)))
  refine thn (h.run pins _ σ _ _ J (q a fr)) fun ws s2 z => ?_
  obtain ⟨ps, H2, I2, rel, e, ks, t, v, rfl, et, q2⟩ := z
  cases rel with
  | cons r r0 =>
    cases r0
    rename_i b
    obtain ⟨b1, b2⟩ := b
    obtain ⟨rk, rv⟩ := r
    cases (show b1 = Value.ref t from rk)
    obtain ⟨_, hd, xs, x0, dd⟩ := dt_of I2.hok e
    cases x0
    refine ⟨[(ks, t, b2)], ⟨rfl, rfl, key_of I2.hok et, trivial⟩, dd, fun h' tk dd' hs => wpAny_pure ?_⟩
    obtain ⟨ob, es, ep, g1, g2, g3, g4, _, g5⟩ := dd'
    have ne : t ≠ a := ne_of et e (fun z => nomatch z)
    have new : ObjOk X.prog X.w (upd H2 a (.dT [(ks, v)])) h' a (.dT [(ks, v)]) :=
      ⟨by show 1 ≤ sizeLine; decide, hd, [(ks, t, b2)], .cons ⟨rfl, (upd_ne ne).trans et, rv⟩ .nil, ob, es, ep, g1, g2, g3, g4, g5⟩
    exact ⟨.ref a, _, d_write I2 (by rw [e]; exact True.intro) hs ⟨ob, g1⟩ new, rfl, q2⟩
end FM
-- FmRepr
set_option maxRecDepth 100000
set_option maxHeartbeats 4000000
/-! Plain data of the abstract heap, dicts of one pair among it, and their repr. -/
namespace FM
open PySem PySem.Spec PyProof.Rows L2
def kD : L2.Key → PyData
  | .inl i => .int i
  | .inr x => .str x
mutual
inductive DV (H : Hp) : V → PyData → List Addr → Prop
  | non : DV H .non .none []
  | bl (b : Bool) : DV H (.bl b) (.bool b) []
  | int (i : Int) : DV H (.int i) (.int i) []
  | str (x : Str) : DV H (.str x) (.str x) []
  | lst {a : Addr} {xs : List V} {ds : List PyData} {as : List Addr} : H a = some (.lst xs) → DVs H xs ds as → DV H (.ref a) (.list ds) (a :: as)
  | tup {a : Addr} {xs : List V} {ds : List PyData} {as : List Addr} : H a = some (.tup xs) → DVs H xs ds as → DV H (.ref a) (.tuple ds) as
  | dS {a : Addr} {k : Str} {v : V} {d : PyData} {as : List Addr} : H a = some (.dK [(.inr k, v)]) → DV H v d as → DV H (.ref a) (.dict [(.str k, d)]) (a :: ([] ++ []) ++ (as ++ []))
  | dT {a : Addr} {ks : List L2.Key} {v : V} {d : PyData} {as : List Addr} : H a = some (.dT [(ks, v)]) → DV H v d as → DV H (.ref a) (.dict [(.tuple (ks.map kD), d)]) (a :: ([] ++ []) ++ (as ++ []))
  | dE {a : Addr} : H a = some (.dK []) → DV H (.ref a) (.dict []) (a :: [] ++ [])
inductive DVs (H : Hp) : List V → List PyData → List Addr → Prop
  | nil : DVs H [] [] []
  | cons {v : V} {vs : List V} {d : PyData} {ds : List PyData} {as bs : List Addr} : DV H v d as → DVs H vs ds bs → DVs H (v :: vs) (d :: ds) (as ++ bs)
end
theorem reads_keys {P : Program} {w : World} {h : Heap} : ∀ {ks : List L2.Key} {its : List Value}, ItemsAre (mixKind P w) ks its → ReadsAll h its (ks.map kD) []
  | _, _, .nil => .nil
  | _, _, .cons (k := k) e t => by
    refine .cons (as := []) (bs := []) ?_ (reads_keys t)
    rcases keyIs_shape e with ⟨i, u, rfl, rfl⟩ | ⟨x, u, rfl, rfl⟩
    · exact .int i u
    · exact .str x u
mutual
theorem DV.reads {P : Program} {w : World} {H : Hp} {h : Heap} (ok : HOk P w H h) : ∀ {v : V} {d : PyData} {as : List Addr} {u : Value}, DV H v d as → RelV v u → Reads h u d as
  | _, _, _, _, .non, r => by cases r; exact .none
  | _, _, _, _, .bl b, r => by cases r; exact .bool b
  | _, _, _, _, .int i, ⟨t, r⟩ => by subst r; exact .int i t
  | _, _, _, _, .str x, ⟨t, r⟩ => by subst r; exact .str x t
  | _, _, _, _, .lst (a := a) e q, r => by
    cases r
    obtain ⟨_, its, n, rel, g⟩ := ok a _ e
    exact .list g rfl rfl (DVs.reads ok q rel)
  | _, _, _, _, .tup (a := a) e q, r => by
    cases r
    obtain ⟨_, its, rel, ob, g, c, n, g2⟩ := ok a _ e
    exact .tuple g c g2 (DVs.reads ok q rel)
  | _, _, _, _, .dS (a := a) (k := kk) (v := v0) e q, r => by
    cases r
    obtain ⟨_, _, vs, rel, ob, es, ep, g, gc, gd, gk, gp, _⟩ := dk_of ok e
    cases rel with
    | cons r1 r0 =>
      cases r0
      generalize hes : es.toList = el at gp
      cases gp with
      | cons hk hv g0 =>
        cases g0
        refine .dict g gc.1 gd ?_ ?_
        · rw [hes]
          refine .cons (as := []) (bs := []) ?_ .nil
          rename_i bb _ en
          have hk2 : keyIs (.inr kk) en.key = true := by
            have e2 : (Sum.inr kk : L2.Key) = bb.1 := r1.1
            rw [e2]
            exact hk
          show Reads h en.key (.str kk) []
          rcases keyIs_shape hk2 with ⟨i, t, ek, e2⟩ | ⟨x, t, ek, e2⟩
          · exact nomatch ek
          · rw [e2, Sum.inr.inj ek]
            exact .str x t
        · rw [hes]
          refine .cons (bs := []) ?_ .nil
          refine DV.reads ok q ?_
          rename_i bb _ en
          show L2.RelV v0 en.val
          rw [hv]
          exact r1.2
  | _, _, _, _, .dE (a := a) e, r => by
    cases r
    obtain ⟨_, _, vs, rel, ob, es, ep, g, gc, gd, gk, gp, _⟩ := dk_of ok e
    cases rel
    generalize hes : es.toList = el at gp
    cases gp
    refine .dict g gc.1 gd ?_ ?_
    · rw [hes]
      exact .nil
    · rw [hes]
      exact .nil
  | _, _, _, _, .dT (a := a) e q, r => by
    cases r
    obtain ⟨_, _, xs, rel, ob, es, ep, g, gc, gd, ge, gi, _⟩ := dt_of ok e
    cases rel with
    | cons r1 r0 =>
      cases r0
      refine .dict g gc.1 gd ?_ ?_
      · rw [ge]
        refine .cons (as := []) (bs := []) ?_ .nil
        obtain ⟨o2, its, n, g2, g3, g4, g5⟩ := gi _ List.mem_cons_self
        refine .tuple g2 g3 g4 ?_
        have e2 := r1.1
        simp only at e2
        rw [e2]
        exact reads_keys g5
      · rw [ge]
        refine .cons (bs := []) ?_ .nil
        exact DV.reads ok q r1.2.2
theorem DVs.reads {P : Program} {w : World} {H : Hp} {h : Heap} (ok : HOk P w H h) : ∀ {vs : List V} {ds : List PyData} {as : List Addr} {us : List Value}, DVs H vs ds as → Vals vs us → ReadsAll h us ds as
  | _, _, _, _, .nil, .nil => .nil
  | _, _, _, _, .cons x q, .cons r t => .cons (DV.reads ok x r) (DVs.reads ok q t)
end
mutual
theorem DV.there {H : Hp} : ∀ {v : V} {d : PyData} {as : List Addr}, DV H v d as → ∀ a ∈ as, ∃ o, H a = some o
  | _, _, _, .non, _, h => nomatch h
  | _, _, _, .bl _, _, h => nomatch h
  | _, _, _, .int _, _, h => nomatch h
  | _, _, _, .str _, _, h => nomatch h
  | _, _, _, .lst e q, b, h => by
    rcases List.mem_cons.mp h with h | h
    · rw [h]; exact ⟨_, e⟩
    · exact DVs.there q b h
  | _, _, _, .tup _ q, b, h => DVs.there q b h
  | _, _, _, .dS (a := a) (as := as) e q, b, h => by
    have h2 : b = a ∨ b ∈ as := by simpa using h
    rcases h2 with h | h
    · rw [h]; exact ⟨_, e⟩
    · exact DV.there q b h
  | _, _, _, .dT (a := a) (as := as) e q, b, h => by
    have h2 : b = a ∨ b ∈ as := by simpa using h
    rcases h2 with h | h
    · rw [h]; exact ⟨_, e⟩
    · exact DV.there q b h
  | _, _, _, .dE (a := a) e, b, h => by
    have h2 : b = a := by simpa using h
    rw [h2]; exact ⟨_, e⟩
theorem DVs.there {H : Hp} : ∀ {vs : List V} {ds : List PyData} {as : List Addr}, DVs H vs ds as → ∀ a ∈ as, ∃ o, H a = some o
  | _, _, _, .nil, _, h => nomatch h
  | _, _, _, .cons x q, b, h => by
    rcases List.mem_append.mp h with h | h
    · exact DV.there x b h
    · exact DVs.there q b h
end
mutual
theorem DV.same {H H' : Hp} (S : Same H H') : ∀ {v : V} {d : PyData} {as : List Addr}, DV H v d as → DV H' v d as
  | _, _, _, .non => .non
  | _, _, _, .bl b => .bl b
  | _, _, _, .int i => .int i
  | _, _, _, .str x => .str x
  | _, _, _, .lst e q => .lst (S _ _ e) (DVs.same S q)
  | _, _, _, .tup e q => .tup (S _ _ e) (DVs.same S q)
  | _, _, _, .dS e q => .dS (S _ _ e) (DV.same S q)
  | _, _, _, .dT e q => .dT (S _ _ e) (DV.same S q)
  | _, _, _, .dE e => .dE (S _ _ e)
theorem DVs.same {H H' : Hp} (S : Same H H') : ∀ {vs : List V} {ds : List PyData} {as : List Addr}, DVs H vs ds as → DVs H' vs ds as
  | _, _, _, .nil => .nil
  | _, _, _, .cons x q => .cons (DV.same S x) (DVs.same S q)
end
/-- repr of a list -/
theorem call_reprD {X : Cx} (hg : X.A.guards = some []) (hu : X.A.units + 20 < cLine) (hs : ∃ o, X.base.get? sysModules = some o) :
    CallR X (.builtin "repr") (fun xs H Q => ∃ (p : Addr) (d : PyData) (as : List Addr), xs = [.ref p] ∧ DV H (.ref p) d as ∧ d.showable = true ∧ d.depth ≤ 10 ∧ d.shown.length ≤ sizeLine ∧ Q (.str d.shown) H) := by
  intro pins s σ H xs us Q I r h
  obtain ⟨p, d, as, rfl, hd, h1, h2, h3, q⟩ := h
  obtain ⟨u, rfl, r1⟩ := vals1 r
  cases r1
  have R : Reads s.heap (.ref p) d as := hd.reads I.hok rfl
  have no : sysModules ∉ as := fun hm => by
    obtain ⟨o, ho⟩ := hd.there _ hm
    obtain ⟨ob, hk⟩ := hs
    rw [(I.bs _ _ hk).2] at ho
    cases ho
  exact repr_of_reads' R h1 (fun _ => no) hg (by omega) (fun _ _ z => z) (fun h' u tk kp => ⟨.str d.shown, H, I.kept kp, ⟨u, rfl⟩, q⟩) h3
/-- repr of any such value -/
theorem call_reprAny {X : Cx} (hg : X.A.guards = some []) (hu : X.A.units + 20 < cLine) (hs : ∃ o, X.base.get? sysModules = some o) :
    CallR X (.builtin "repr") (fun xs H Q => ∃ (x : V) (d : PyData) (as : List Addr), xs = [x] ∧ DV H x d as ∧ d.showable = true ∧ d.depth ≤ 10 ∧ d.shown.length ≤ sizeLine ∧ Q (.str d.shown) H) := by
  intro pins s σ H xs us Q I r h
  obtain ⟨x, d, as, rfl, hd, h1, h2, h3, q⟩ := h
  have whole := call_reprD hg hu hs pins s σ H
  cases hd with
  | non =>
    obtain ⟨u, rfl, r1⟩ := vals1 r
    cases r1
    exact PySem.P.repr_of_none ⟨.str _, H, I.tok _, ⟨_, rfl⟩, q⟩
  | bl b =>
    obtain ⟨u, rfl, r1⟩ := vals1 r
    cases r1
    cases b
    · exact PySem.P.repr_of_bool ⟨.str _, H, I.tok _, ⟨_, rfl⟩, q⟩
    · exact PySem.P.repr_of_bool ⟨.str _, H, I.tok _, ⟨_, rfl⟩, q⟩
  | int i =>
    obtain ⟨u, rfl, t, rfl⟩ := vals1 r
    exact PySem.P.repr_of_int (of_decide_eq_true h1) ⟨.str _, H, I.tok _, ⟨_, rfl⟩, q⟩
  | str z =>
    obtain ⟨u, rfl, t, rfl⟩ := vals1 r
    exact PySem.P.repr_of_str ⟨.str _, H, I.tok _, ⟨_, rfl⟩, q⟩ (hsz := h3)
  | lst e t => exact whole _ us Q I r ⟨_, _, _, rfl, .lst e t, h1, h2, h3, q⟩
  | tup e t => exact whole _ us Q I r ⟨_, _, _, rfl, .tup e t, h1, h2, h3, q⟩
  | dS e t => exact whole _ us Q I r ⟨_, _, _, rfl, .dS e t, h1, h2, h3, q⟩
  | dT e t => exact whole _ us Q I r ⟨_, _, _, rfl, .dT e t, h1, h2, h3, q⟩
  | dE e => exact whole _ us Q I r ⟨_, _, _, rfl, .dE e, h1, h2, h3, q⟩
end FM
-- FmOkv
set_option maxRecDepth 100000
set_option maxHeartbeats 4000000
/-! Plain data that stays while one object is written. -/
namespace FM
open PySem PySem.Spec PyProof.Rows L2
def Keep (b : Addr → Prop) (H H' : Hp) : Prop := ∀ a o, ¬ b a → H a = some o → H' a = some o
section
variable {b b' : Addr → Prop} {H H1 H2 : Hp}
theorem Keep.refl : Keep b H H := fun _ _ _ h => h
theorem Keep.trans (x : Keep b H H1) (y : Keep b H1 H2) : Keep b H H2 := fun a o n h => y a o n (x a o n h)
theorem Keep.of (S : Same H H1) : Keep b H H1 := fun a o _ h => S a o h
theorem Keep.upd {p : Addr} {o : HO} (hp : b p) : Keep b H (L2.upd H p o) := fun a u n h => by
  rw [upd_ne fun z => n (by rw [z]; exact hp)]
  exact h
theorem Keep.more (h : ∀ a, b a → b' a) (x : Keep b H H1) : Keep b' H H1 := fun a o n z => x a o (fun q => n (h a q)) z
theorem Keep.new {p : Addr} {o : HO} (n : H p = none) : Keep b H (L2.upd H p o) := fun a u na h => by
  rw [upd_ne (ne_of_none h n)]
  exact h
/-- another new object is written -/
theorem Keep.put {p : Addr} {o : HO} (x : Keep b H H1) (n : H p = none) : Keep b H (L2.upd H1 p o) := fun a u na h => by
  rw [upd_ne (ne_of_none h n)]
  exact x a u na h
mutual
/-- an empty dict is no such data's part -/
theorem DVaway {p : Addr} (hp : H p = some (.dT [])) (S : ∀ a o, a ≠ p → H a = some o → H1 a = some o) : ∀ {v : V} {d : PyData} {as : List Addr}, DV H v d as → DV H1 v d as
  | _, _, _, .non => .non
  | _, _, _, .bl b => .bl b
  | _, _, _, .int i => .int i
  | _, _, _, .str x => .str x
  | _, _, _, .lst e q => .lst (S _ _ (ne_of e hp (fun z => nomatch z)) e) (DVsaway hp S q)
  | _, _, _, .tup e q => .tup (S _ _ (ne_of e hp (fun z => nomatch z)) e) (DVsaway hp S q)
  | _, _, _, .dS e q => .dS (S _ _ (ne_of e hp (fun z => nomatch z)) e) (DVaway hp S q)
  | _, _, _, .dT e q => .dT (S _ _ (ne_of e hp (fun z => nomatch z)) e) (DVaway hp S q)
  | _, _, _, .dE e => .dE (S _ _ (ne_of e hp (fun z => nomatch z)) e)
theorem DVsaway {p : Addr} (hp : H p = some (.dT [])) (S : ∀ a o, a ≠ p → H a = some o → H1 a = some o) : ∀ {vs : List V} {ds : List PyData} {as : List Addr}, DVs H vs ds as → DVs H1 vs ds as
  | _, _, _, .nil => .nil
  | _, _, _, .cons x q => .cons (DVaway hp S x) (DVsaway hp S q)
end
def OkV (b : Addr → Prop) (n m : Nat) (H : Hp) (v : V) : Prop := ∃ (d : PyData) (as : List Addr), d.showable = true ∧ d.depth ≤ n ∧ d.shown.length ≤ m ∧ ∀ Hf, Keep b H Hf → DV Hf v d as
def OkVs (b : Addr → Prop) (n m : Nat) (H : Hp) (vs : List V) : Prop := ∃ (ds : List PyData) (as : List Addr), PyData.showableAll ds = true ∧ PyData.depthAll ds ≤ n ∧ ((PyData.shownAll ds).map (·.length)).sum ≤ m ∧ ds.length = vs.length ∧ ∀ Hf, Keep b H Hf → DVs Hf vs ds as
variable {n m n' m' : Nat} {v : V} {vs : List V} {t : Addr}
theorem OkV.less (h : OkV b' n m H v) (hs : ∀ a, b a → b' a) : OkV b n m H v := by
  obtain ⟨d, as, h1, h2, h3, h4⟩ := h
  exact ⟨d, as, h1, h2, h3, fun Hf z => h4 Hf (z.more hs)⟩
/-- what is not there yet may be written -/
theorem OkV.more {p : Addr} (h : OkV b n m H v) (np : H p = none) : OkV (fun a => b a ∨ a = p) n m H v := by
  obtain ⟨d, as, h1, h2, h3, h4⟩ := h
  refine ⟨d, as, h1, h2, h3, fun Hf z => h4 Hf fun a o na ha => z a o (fun q => ?_) ha⟩
  rcases q with q | q
  · exact na q
  · rw [q, np] at ha; cases ha
theorem OkV.keep (h : OkV b n m H v) (k : Keep b H H1) : OkV b n m H1 v := by
  obtain ⟨d, as, h1, h2, h3, h4⟩ := h
  exact ⟨d, as, h1, h2, h3, fun Hf z => h4 Hf (k.trans z)⟩
theorem OkVs.keep (h : OkVs b n m H vs) (k : Keep b H H1) : OkVs b n m H1 vs := by
  obtain ⟨d, as, h1, h2, h3, h4, h5⟩ := h
  exact ⟨d, as, h1, h2, h3, h4, fun Hf z => h5 Hf (k.trans z)⟩
theorem OkV.away {p : Addr} {o : HO} (h : OkV b n m H v) (hp : H p = some (.dT [])) (ne : ¬ b p) : OkV b n m (L2.upd H p o) v := by
  obtain ⟨d, as, h1, h2, h3, h4⟩ := h
  refine ⟨d, as, h1, h2, h3, fun Hf z => ?_⟩
  refine DVaway (p := p) (H := L2.upd Hf p (.dT [])) upd_same (fun a u na ha => by rwa [upd_ne na] at ha) (h4 _ fun a u na ha => ?_)
  by_cases e : a = p
  · rw [e] at ha ⊢
    rw [hp] at ha
    rw [upd_same]
    exact ha
  · rw [upd_ne e]
    exact z a u na (by rw [upd_ne e]; exact ha)
theorem OkV.mono (h : OkV b n m H v) (h1 : n ≤ n') (h2 : m ≤ m') : OkV b n' m' H v := by
  obtain ⟨d, as, z1, z2, z3, z4⟩ := h
  exact ⟨d, as, z1, Nat.le_trans z2 h1, Nat.le_trans z3 h2, z4⟩
theorem OkVs.less (h : OkVs b n m H vs) (h1 : m ≤ m') : OkVs b n m' H vs := by
  obtain ⟨ds, as, z1, z2, z3, z4⟩ := h
  exact ⟨ds, as, z1, z2, Nat.le_trans z3 h1, z4⟩
theorem OkV.non : OkV b 0 4 H .non := ⟨.none, [], rfl, by decide, by decide +kernel, fun _ _ => .non⟩
theorem OkV.bl {c : Bool} : OkV b 0 5 H (.bl c) := ⟨.bool c, [], rfl, by simp only [PyData.depth]; omega, by cases c <;> decide +kernel, fun _ _ => .bl c⟩
theorem OkV.int {i : Int} (h1 : i.natAbs.log2 < 1920) (h2 : (PyData.shown (.int i)).length ≤ 100) : OkV b 0 100 H (.int i) := ⟨.int i, [], decide_eq_true h1, by simp only [PyData.depth]; omega, h2, fun _ _ => .int i⟩
theorem OkV.str {x : Str} (h2 : (PyData.shown (.str x)).length ≤ 100) : OkV b 0 100 H (.str x) := ⟨.str x, [], rfl, by simp only [PyData.depth]; omega, h2, fun _ _ => .str x⟩
theorem OkVs.nil : OkVs b n m H [] := ⟨[], [], rfl, Nat.zero_le _, Nat.zero_le _, rfl, fun _ _ => .nil⟩
theorem OkVs.cons (h : OkV b n m H v) (t : OkVs b n m' H vs) : OkVs b n (m + m') H (v :: vs) := by
  obtain ⟨d, as, h1, h2, h3, h4⟩ := h
  obtain ⟨ds, bs, t1, t2, t3, t4, t5⟩ := t
  refine ⟨d :: ds, as ++ bs, by simp [PyData.showableAll, h1, t1], ?_, ?_, by rw [List.length_cons, List.length_cons, t4], fun Hf k => .cons (h4 Hf k) (t5 Hf k)⟩
  · simp only [PyData.depthAll]; omega
  · simp only [PyData.shownAll, List.map_cons, List.sum_cons]; omega
theorem shownAll_len : ∀ ds : List PyData, (PyData.shownAll ds).length = ds.length
  | [] => rfl
  | d :: ds => by simp only [PyData.shownAll, List.length_cons, shownAll_len ds]
theorem OkV.tup (h : OkVs b n m H vs) (e : H t = some (.tup vs)) (ne : ¬ b t) : OkV b (n + 1) (m + 2 * vs.length + 3) H (.ref t) := by
  obtain ⟨ds, as, h1, h2, h3, h4, h5⟩ := h
  refine ⟨.tuple ds, as, by simpa only [PyData.showable] using h1, by simp only [PyData.depth]; omega, ?_, fun Hf k => .tup (k _ _ ne e) (h5 Hf k)⟩
  have := tupleText_len_le (PyData.shownAll ds)
  rw [shownAll_len] at this
  simp only [PyData.shown]
  omega
theorem OkV.lst (h : OkVs b n m H vs) (e : H t = some (.lst vs)) (ne : ¬ b t) : OkV b (n + 1) (m + 2 * vs.length + 3) H (.ref t) := by
  obtain ⟨ds, as, h1, h2, h3, h4, h5⟩ := h
  refine ⟨.list ds, t :: as, by simpa only [PyData.showable] using h1, by simp only [PyData.depth]; omega, ?_, fun Hf k => .lst (k _ _ ne e) (h5 Hf k)⟩
  have := listText_len_le (PyData.shownAll ds)
  rw [shownAll_len] at this
  simp only [PyData.shown]
  omega
theorem OkV.dS {k : Str} (h : OkV b n m H v) (e : H t = some (.dK [(.inr k, v)])) (ne : ¬ b t) (hk : (PyData.shown (.str k)).length ≤ 100) : OkV b (n + 1) (m + 110) H (.ref t) := by
  obtain ⟨d, as, h1, h2, h3, h4⟩ := h
  refine ⟨.dict [(.str k, d)], _, by simp [PyData.showable, PyData.showableKv, h1], by simp only [PyData.depth, PyData.depthKv]; omega, ?_, fun Hf z => .dS (z _ _ ne e) (h4 Hf z)⟩
  have q := dictText_len_le (PyData.shownKv [(.str k, d)])
  have e2 : ((PyData.shownKv [(.str k, d)]).map (·.length)).sum = (PyData.shown (.str k)).length + 2 + d.shown.length := by
    simp only [PyData.shownKv, List.map_cons, List.map_nil, List.sum_cons, List.sum_nil]
    rw [PySem.Str.length_append, PySem.Str.length_append]
    rfl
  rw [e2] at q
  simp only [PyData.shown] at q hk ⊢
  simp only [PyData.shownKv, List.length_cons, List.length_nil] at q ⊢
  omega
theorem OkV.dT {ks : List L2.Key} (h : OkV b n m H v) (e : H t = some (.dT [(ks, v)])) (ne : ¬ b t) (hs : (PyData.tuple (ks.map kD)).showable = true) (hd : (PyData.tuple (ks.map kD)).depth ≤ n) (hk : (PyData.shown (.tuple (ks.map kD))).length ≤ 100) :
    OkV b (n + 1) (m + 110) H (.ref t) := by
  obtain ⟨d, as, h1, h2, h3, h4⟩ := h
  refine ⟨.dict [(.tuple (ks.map kD), d)], _, ?_, ?_, ?_, fun Hf z => .dT (z _ _ ne e) (h4 Hf z)⟩
  · simp only [PyData.showable, PyData.showableKv, h1] at hs ⊢
    rw [hs]; rfl
  · simp only [PyData.depth, PyData.depthKv] at hd ⊢
    omega
  · have q := dictText_len_le (PyData.shownKv [(.tuple (ks.map kD), d)])
    have e2 : ((PyData.shownKv [(.tuple (ks.map kD), d)]).map (·.length)).sum = (PyData.shown (.tuple (ks.map kD))).length + 2 + d.shown.length := by
      simp only [PyData.shownKv, List.map_cons, List.map_nil, List.sum_cons, List.sum_nil]
      rw [PySem.Str.length_append, PySem.Str.length_append]
      rfl
    rw [e2] at q
    simp only [PyData.shown] at q hk ⊢
    simp only [PyData.shownKv, List.length_cons, List.length_nil] at q ⊢
    omega
end
end FM
-- FmHot
set_option maxRecDepth 100000
set_option maxHeartbeats 4000000
/-! A def that is called within an except suite with the exception that is handled, and raises nothing. -/
namespace FM
open PySem PySem.Spec PyProof.Rows L2
structure FnPin (P : Program) (w : World) (K : PySem.W.Frag) (mg : Str → Option Value) (base : Heap) (k : Nat) (f : Addr) (fd : FuncData) (ps : List Str) (sp : Addr × Obj → Sp) : Prop where
  len : ∀ p vs H Q E, sp p vs H Q E → vs.length = ps.length
  run : ∀ (A : Around) (outer : List Env) (s : Shared) (H : Hp) (args : Args) (us : List Value) (vs : List V) (Q : VK) (p : Addr × Obj),
    L2H.RoomH k A → L2H.PinOk outer H s p → Env0 P w K mg base A outer s H → BindsTo s fd args (ps.zip us) → Vals vs us → sp p vs H Q E0 →
    codeAny (model P w) A (.call (.ref f) args) (CR CX0 outer P w H s Q E0) s
section
variable {P : Program} {w : World} {K : PySem.W.Frag} {mg : Str → Option Value} {base : Heap}
theorem FnPin.of {x qual : Str} {params : Arguments} {body : List Stmt} {scope : Scope} {dvs : List V} {kws : List (Str × V)} {f : Addr} {fd : FuncData}
    {N ps : List Str} {k : Nat} {sp : Addr × Obj → Sp} (F : FunD K x qual params body scope dvs kws f fd) (S : FnScope N ps scope)
    (len : ∀ p vs H Q E, sp p vs H Q E → vs.length = ps.length)
    (hb : ∀ (cdv : Value) (A : Around) (outer : List Env) (s : Shared) (H : Hp) (vs : List V) (Q : VK) (p : Addr × Obj),
      L2H.RoomH k (A.deeper (envOfC qual scope s.heap.objs.size f cdv)) → sp p vs H Q E0 →
      ∃ t, PSs (L2H.cxH CX0 P w K mg base N qual scope f cdv A outer s H E0 p) body t ∧ t { nx := fun _ H' => Q .non H', rt := Q } (L2.start N vs) H) :
    FnPin P w K mg base (k + 1) f fd ps sp := by
  obtain ⟨oc, od, dV, kV, doc, pm, an, cdv, ct, osl, rfl, lk, hcd, _, _⟩ := F.ex
  refine ⟨len, fun A outer s H args us vs Q p hr hp e0 hbt r hsp => ?_⟩
  have hl := len _ _ _ _ _ hsp
  have kin : K.In s.heap := e0.mod.kin.keeps fun b o e => (e0.bs b o e).1
  have lim : s.heap.NoLimit := e0.mod.nolimit.keeps fun b o e => (e0.bs b o e).1
  refine codeAny_call_function hr.depth (kin _ _ lk) rfl S.co S.gen rfl (PySem.W.codeRec_of kin hcd) (hbt _ _ _ _
    (wpAny_newFunctionEnv_cells S.kind ?_ fun env he s1 z => ?_))
  · rintro ⟨n, v⟩ hy
    exact (S.par n (List.of_mem_zip hy).1).elim Or.inl fun q => Or.inr ⟨q, PySem.W.cellsFrom_some _ _ _ (.inl q)⟩
  subst he
  refine ⟨lim.keeps z.toInCall.keep, codeAny_func ?_⟩
  obtain ⟨t, ht, q⟩ := hb cdv A outer s H vs Q p (hr.deeper _) hsp
  have I := L2H.inv_startH (E := E0) (CX := CX0) S hp e0 hl r z
  refine wpAny_mono (ht.run [] s1 (L2.start N vs) H _ I q) (fun fl s' hs => ?_) fun e s' hs => hs
  cases fl with
  | ret u =>
    obtain ⟨v, σ', H', J, rv, q⟩ := hs
    exact ⟨v, H', J.os, J.bare, J.base, J.hok, rv, q⟩
  | next =>
    obtain ⟨σ', H', J, q⟩ := hs
    exact ⟨V.non, H', J.os, J.bare, J.base, J.hok, rfl, q⟩
  | brk =>
    obtain ⟨_, _, _, q⟩ := hs
    exact q.elim
  | cont =>
    obtain ⟨_, _, _, q⟩ := hs
    exact q.elim
end
section
variable {X : Cx} {k : Nat} {f : Addr} {fd : FuncData} {ps : List Str} {sp : Addr × Obj → Sp} {p : Addr × Obj} {x : Str} {q pos : Pos} {e : Expr} {es : List Expr} {t : TA}
theorem pe_callPin (F : FnPin X.prog X.w X.K X.mg X.base k f fd ps sp) (hr : L2H.RoomH k X.A) (hp : p ∈ X.pn) (hg : Gl X x) (hm : X.mg x = some (.ref f))
    (hk : PySem.W.keepIn X.K (.ref f) = true) (hb : Binds X.K fd ps []) (ha : PA X (e :: es) t) (hdb : (x == ("__debug__" : Str)) = false := by decide)
    (he : starEach (e :: es) X.env = (false, eval e X.env) :: starEach es X.env := by rfl) (hpl : (backTo pos (starEach es X.env)).any (·.1) = false := by rfl) :
    PE X (.Call (.Name x q) (e :: es) [] pos) (fun σ H Q => t σ H fun vs H1 => sp p vs H1 Q E0) := by
  refine ⟨fun pins s σ H Q I h => wpAny_Call_Name_kw (ld_glob I hg hm ?_ hdb)⟩
  refine PySem.W.callWith_K (h₀ := X.base) I.ok.mod.kin hk (thn (ha.run pos pins s σ H _ I h) ?_) he hpl
  rintro us s1 ⟨vs, H1, I1, r, z⟩
  refine ⟨I1.kIn, ?_⟩
  have hl : us.length = ps.length := by
    rw [← r.length]
    exact F.len _ _ _ _ _ z
  have b := hb s1 us I1.kIn (by rw [List.append_nil]; exact hl)
  rw [List.append_nil] at b
  have P1 := I1.pin p (List.mem_append_left _ hp)
  have hpin : L2H.PinOk X.stack H1 s1 p := ⟨P1.1, P1.2.1, fun hm => (List.mem_cons.mp (I1.stkSub p.1 hm)).elim P1.2.2.1 P1.2.2.2.1, P1.2.2.2.2⟩
  refine wpAny_call (codeAny_mono (F.run X.A X.stack s1 H1 ⟨us, []⟩ us vs Q p hr hpin I1.env0 b r z) fun r s' hq => ?_)
  cases r with
  | error e => exact False.elim hq
  | ok fl =>
    cases fl with
    | ret u => exact I1.after hq
    | next => exact False.elim hq
    | brk => exact False.elim hq
    | cont => exact False.elim hq
end
end FM
-- FmGuard
set_option maxRecDepth 100000
set_option maxHeartbeats 4000000
/-! Promises of defs that run outside of any repr; the law's call with one code table. -/
namespace FM
open PySem PySem.Spec PyProof.Rows L2
structure FnG (P : Program) (w : World) (K : PySem.W.Frag) (mg : Str → Option Value) (base : Heap) (k : Nat) (f : Addr) (fd : FuncData) (ps : List Str) (sp : List V → Hp → VK → Prop) : Prop where
  len : ∀ vs H Q, sp vs H Q → vs.length = ps.length
  run : ∀ (A : Around) (outer : List Env) (s : Shared) (H : Hp) (args : Args) (us : List Value) (vs : List V) (Q : VK),
    A.guards = some [] → Room k A → Env0 P w K mg base A outer s H → BindsTo s fd args (ps.zip us) → Vals vs us → sp vs H Q →
    codeAny (model P w) A (.call (.ref f) args) (CR C8.CX0 outer P w H s Q C8.E0) s
section
variable {P : Program} {w : World} {K : PySem.W.Frag} {mg : Str → Option Value} {base : Heap}
theorem FnG.of {x qual : Str} {params : Arguments} {body : List Stmt} {scope : Scope} {dvs : List V} {kws : List (Str × V)} {f : Addr} {fd : FuncData}
    {N ps : List Str} {k : Nat} {sp : List V → Hp → VK → Prop} (F : FunD K x qual params body scope dvs kws f fd) (S : FnScope N ps scope) (len : ∀ vs H Q, sp vs H Q → vs.length = ps.length)
    (hb : ∀ (cdv : Value) (A : Around) (outer : List Env) (s : Shared) (H : Hp) (vs : List V) (Q : VK), fd.code = cdv → A.guards = some [] → Room k (A.deeper (envOfC qual scope s.heap.objs.size f cdv)) → sp vs H Q →
      ∃ t, PSs (cxOf C8.CX0 P w K mg base N qual scope f cdv A outer s H C8.E0) body t ∧ t { nx := fun _ H' => Q .non H', rt := Q } (L2.start N vs) H) :
    FnG P w K mg base (k + 1) f fd ps sp := by
  obtain ⟨oc, od, dV, kV, doc, pm, an, cdv, ct, osl, rfl, lk, hcd, _, _⟩ := F.ex
  exact ⟨len, fun A outer s H args us vs Q hg hr e0 hbt r h => LamX.run_ofS lk hcd S hr e0 hbt r (len _ _ _ h) fun hr' => hb cdv A outer s H vs Q rfl hg hr' h⟩
end
section
variable {X : Cx} {k : Nat} {f : Addr} {fd : FuncData} {ps : List Str} {sp : List V → Hp → VK → Prop} {x : Str} {q pos : Pos} {e : Expr} {es : List Expr} {t : TA}
theorem pe_callG (F : FnG X.prog X.w X.K X.mg X.base k f fd ps sp) (hgu : X.A.guards = some []) (hr : Room k X.A) (hg : Gl X x) (hm : X.mg x = some (.ref f))
    (hk : PySem.W.keepIn X.K (.ref f) = true) (hb : Binds X.K fd ps []) (ha : PA X (e :: es) t) (hdb : (x == ("__debug__" : Str)) = false := by decide)
    (he : starEach (e :: es) X.env = (false, eval e X.env) :: starEach es X.env := by rfl) (hpl : (backTo pos (starEach es X.env)).any (·.1) = false := by rfl) :
    PE X (.Call (.Name x q) (e :: es) [] pos) (fun σ H Q => t σ H fun vs H1 => sp vs H1 Q) := by
  refine ⟨fun pins s σ H Q I h => wpAny_Call_Name_kw (ld_glob I hg hm ?_ hdb)⟩
  refine PySem.W.callWith_K (h₀ := X.base) I.ok.mod.kin hk (thn (ha.run pos pins s σ H _ I h) ?_) he hpl
  rintro us s1 ⟨vs, H1, I1, r, z⟩
  have b := hb s1 us I1.kIn (by rw [List.append_nil, ← r.length]; exact F.len _ _ _ z)
  rw [List.append_nil] at b
  refine ⟨I1.kIn, wpAny_call (codeAny_mono (F.run X.A X.stack s1 H1 ⟨us, []⟩ us vs Q hgu hr I1.env0 b r z) fun res s' hq => ?_)⟩
  cases res with
  | error e => exact False.elim hq
  | ok fl =>
    cases fl with
    | ret u => exact I1.after hq
    | next => exact False.elim hq
    | brk => exact False.elim hq
    | cont => exact False.elim hq
end
/-- the law's own call: T is the table of the code at c -/
theorem law_callG {P : Program} {w : World} {K : PySem.W.Frag} {mg mb : Str → Option Value} {k : Nat} {fa a c T : Addr} {fd : FuncData} {x : Str} {sp : List V → Hp → VK → Prop} {s : Shared} {vs : List Value} {ns : List Int}
    (kin : K.In s.heap) (g1 : s.heap.Ns mainGlobals mg) (g2 : s.heap.Ns builtinsNs mb) (g3 : ∀ x : Str, x ≠ "__name__" → mb x = bootBuiltins x) (g4 : s.heap.NoLimit) (g5 : s.gens = #[])
    (tT : s.heap.get? T = some { cls := .none, data := .fields #[] }) (tK : K.lookup T = none) (tC : PySem.W.CodeHd s.heap c T) (g6 : s.heap.BuiltinsAt mg T) (g7 : ∃ mm, s.heap.Ns sysModules mm)
    (la : s.heap.get? a = some { cls := .type "list", data := .seq vs.toArray }) (li : IntsAre vs ns) (ll : ns.length ≤ sizeLine) (hr : Room k callerA)
    (F : ∀ base : Heap, K.In base → base.Ns mainGlobals mg → LamX.TabB base mg c T → (∃ o, base.get? sysModules = some o) → FnG P w K mg base k fa fd [x] sp) (hbind : ∀ (s : Shared) (u : Value), BindsTo s fd ⟨[u], []⟩ [(x, u)])
    (hsp : ∀ H : Hp, H T = some (.tbl #[]) → SqL K H a (ns.map V.int) → sp [.ref a] H fun v _ => v = .bl true) :
    codeAny (model P w) callerA (.call (.ref fa) ⟨[.ref a], []⟩) (fun r s' => r = .ok (.ret (.bool true)) ∧ OldK s.heap s'.heap ∧ s'.os = s.os ∧ AllBare s'.gens) s := by
  have rel := vals_ints li
  have ne : a ≠ T := fun z => by rw [z, tT] at la; cases la
  let H : Hp := fun b => if b = T then some (.tbl #[]) else if b = a ∧ K.lookup a = none then some (.frz { cls := .type "list", data := .seq vs.toArray } (.lst (ns.map V.int))) else none
  have hT : H T = some (.tbl #[]) := if_pos rfl
  have other : ∀ b, b ≠ T → ¬ (b = a ∧ K.lookup a = none) → H b = none := fun b h1 h2 => (if_neg h1).trans (if_neg h2)
  have far : ∀ b o, s.heap.get? b = some o → (∀ vs n, o.data ≠ .seq vs n) → o.data ≠ .fields #[] → H b = none := fun b o e h1 h2 => by
    refine other b (fun z => ?_) fun z => ?_
    · rw [z, tT] at e; cases e; exact h2 rfl
    · rw [z.1, la] at e; cases e; exact h1 _ _ rfl
  have ok : HOk P w H s.heap := fun b u e => by
    by_cases h1 : b = T
    · subst h1
      cases hT.symm.trans e
      exact tT
    · by_cases h2 : b = a ∧ K.lookup a = none
      · cases ((if_neg h1).trans (if_pos h2)).symm.trans e
        rw [h2.1]
        exact ⟨la, by rw [List.length_map]; exact ll, vs, _, rel, la⟩
      · cases (other b h1 h2).symm.trans e
  have seq : SqL K H a (ns.map V.int) := by
    cases hk : K.lookup a with
    | none => exact .inl (.inr ⟨_, (if_neg ne).trans (if_pos ⟨rfl, hk⟩)⟩)
    | some o =>
      have e := kin a o hk
      rw [la] at e
      cases e
      exact .inr ⟨_, vs.toArray, _, hk, rfl, rfl, rfl, by rw [List.size_toArray, li.length]; exact ll, by simpa using rel⟩
  let B : Heap := hidT s.heap H
  have inB : ∀ b o, s.heap.get? b = some o → H b = none → B.get? b = some o := fun _ _ e n => hidT_get e n
  have dict : ∀ b o (es : Array DictEntry) (ep : Nat), s.heap.get? b = some o → o.data = .dict es ep → B.get? b = some o := fun b o es ep e d => inB b o e (far b o e (fun _ _ z => by rw [d] at z; cases z) fun z => by rw [d] at z; cases z)
  have names : ∀ (b : Addr) (m : Str → Option Value), s.heap.Ns b m → B.Ns b m := fun b m h => by
    obtain ⟨o, es, ep, e, d, r⟩ := h
    exact ⟨o, es, ep, dict b o es ep e d, d, r⟩
  have kinB : K.In B := fun b o e => by
    refine inB b o (kin b o e) (other b (fun z => ?_) fun z => ?_)
    · rw [z, tK] at e; cases e
    · rw [z.1, z.2] at e; cases e
  have mod : L2.Mod K mg B := by
    obtain ⟨mc, l1, l2⟩ := g4
    exact ⟨kinB, names _ _ g1, ⟨mb, names _ _ g2, g3⟩, ⟨mc, names _ _ l1, l2⟩⟩
  have tab : LamX.TabB B mg c T := by
    refine ⟨?_, ?_, fun z => ?_⟩
    · obtain ⟨o, fs, file, tf, flags, tg, inF, text, tt, e, r1, r2, r3, rest⟩ := tC
      refine ⟨o, fs, file, tf, flags, tg, inF, text, tt, inB c o e (far c o e (fun _ _ z => ?_) fun z => ?_), r1, r2, r3, rest⟩
      · rw [r2] at z; cases z
      · rw [r2] at z; cases z; simp at r3
    · obtain ⟨bm, ob, b1, b2, b3, b4, b5, b6, b7, b8⟩ := g6
      refine ⟨bm, ob, b1, b2, b3, b4, inB bm ob b5 (far bm ob b5 (fun _ _ z => ?_) fun z => ?_), b6, b7, b8⟩
      · rw [b8] at z; cases z
      · rw [b8] at z; cases z
    · obtain ⟨o, es, ep, e, d, _⟩ := g1
      rw [z, tT] at e; cases e; cases d
  have e0 : Env0 P w K mg B callerA [] s H := by
    constructor
    · rfl
    · exact mod
    · exact fun b o e => of_hidT e
    · exact Nat.le_of_eq (hidT_size _ _)
    · trivial
    · intro b hb; exact nomatch (show b ∈ ([] : List Addr) from hb)
    · exact ok
    · exact .of_eq g5
  refine codeAny_mono ((F B kinB (names _ _ g1) tab (by obtain ⟨mm, h⟩ := g7; obtain ⟨o, es, ep, e, _⟩ := names _ _ h; exact ⟨o, e⟩)).run callerA [] s H ⟨[.ref a], []⟩ [.ref a] [.ref a] _ rfl hr e0 (hbind s (.ref a)) (.cons rfl .nil) (hsp H hT seq)) fun r s' h => ?_
  cases r with
  | error e => exact False.elim h
  | ok fl =>
    cases fl with
    | next => exact False.elim h
    | brk => exact False.elim h
    | cont => exact False.elim h
    | ret u =>
      obtain ⟨v, H', os, bare, un, ok', ru, q⟩ := h
      have q' : v = .bl true := q
      subst q'
      cases ru
      have stay : ∀ b o, b ≠ T → s.heap.get? b = some o → s'.heap.get? b = some o := fun b o h1 e => by
        by_cases h2 : b = a ∧ K.lookup a = none
        · have z := un.frzs b _ _ ((if_neg h1).trans (if_pos h2))
          rw [h2.1, la] at e
          cases e
          rw [h2.1] at z ⊢
          exact (ok' a _ z).1
        · exact un.keep b o e (other b h1 h2) (fun z => nomatch (show b ∈ ([] : List Addr) from z)) (fun z => nomatch z)
      obtain ⟨more, tm⟩ := un.tbls T #[] hT
      have tN : s'.heap.get? T = some { cls := .none, data := .fields (#[] ++ more) } := ok' T _ tm
      refine ⟨rfl, ⟨fun b o e => ?_, fun b o e => ?_⟩, os, bare⟩
      · by_cases h1 : b = T
        · subst h1
          cases tT.symm.trans e
          exact .inr (.inl ⟨(tC.tab tT).isCodeTable, rfl, #[], more, rfl, tN⟩)
        · exact .inl (stay b o h1 e)
      · by_cases h1 : b = T
        · subst h1
          exact ⟨_, tN⟩
        · exact ⟨o, stay b o h1 e⟩
end FM
-- K6Pick
set_option maxRecDepth 100000
set_option maxHeartbeats 1000000
namespace K0
open PySem L2 FM He
def BagAt (b : Addr) (H : Hp) : Prop := ∃ g s c, H b = some (bagO g s c)
theorem BagAt.same {b : Addr} {H H1 : Hp} (h : BagAt b H) (S : Same H H1) : BagAt b H1 := by
  obtain ⟨g, s, c, e⟩ := h
  exact ⟨g, s, c, S _ _ e⟩
abbrev J (b : Addr) : Addr → Prop := fun a => a = b
/-- all but tables and one object stay -/
def KeepN (b : Addr) (H H' : Hp) : Prop := ∀ a o, a ≠ b → (∀ ps, o ≠ .tbl ps) → H a = some o → H' a = some o
theorem KeepN.keep {b : Addr} {H H' : Hp} (k : Keep (J b) H H') : KeepN b H H' := fun a o n _ h => k a o n h
theorem KeepN.ext {b : Addr} {H H' : Hp} (k : LamX.ExtN H H') : KeepN b H H' := fun a o _ n h => k a o h n
theorem KeepN.same {b : Addr} {H H' : Hp} (k : Same H H') : KeepN b H H' := KeepN.ext (LamX.ExtN.of k)
theorem KeepN.refl {b : Addr} {H : Hp} : KeepN b H H := fun _ _ _ _ h => h
theorem KeepN.trans {b : Addr} {H H1 H2 : Hp} (x : KeepN b H H1) (y : KeepN b H1 H2) : KeepN b H H2 := fun a o n m h => y a o n m (x a o n m h)
theorem bag_ne {b p : Addr} {H : Hp} (h : BagAt b H) (n : H p = none) : p ≠ b := by
  obtain ⟨g, s, c, e⟩ := h
  exact (ne_of_none e n).symm
theorem tabs_keep {Ts : List (Addr × Str)} {H H1 : Hp} {b : Addr} (h : LamX.Tabs Ts H) (hb : BagAt b H) (k : Keep (J b) H H1) : LamX.Tabs Ts H1 := fun p hp => by
  obtain ⟨g, s, d, e⟩ := hb
  obtain ⟨ps, h1, h2, h3⟩ := h p hp
  refine ⟨ps, k _ _ (ne_of h1 e (fun z => nomatch z)) h1, h2, fun pos cv hc => ?_⟩
  obtain ⟨c, e1, e2⟩ := h3 pos cv hc
  exact ⟨c, e1, k _ _ (ne_of e2 e fun z => by
    have z' : HO.ext _ = HO.lst _ := z
    cases z') e2⟩
theorem sql_far {K : PySem.W.Frag} {H Hf : Hp} {a b : Addr} {o : HO} {xs : List V} (h : SqL K H a xs) (n : H b = none) (k : KeepN b (upd H b o) Hf) : SqL K Hf a xs := by
  rcases h with (h | ⟨u, h⟩) | h
  · have ne := ne_of_none h n
    exact .inl (.inl (k _ _ ne (fun _ => by simp) (by rw [upd_ne ne]; exact h)))
  · have ne := ne_of_none h n
    exact .inl (.inr ⟨u, k _ _ ne (fun _ => by simp) (by rw [upd_ne ne]; exact h)⟩)
  · exact .inr h
/-- so it is, whatever becomes of the bag and of the tables -/
def AL (b : Addr) (φ : Hp → V → Prop) (H : Hp) (y : V) : Prop := ∀ Hf, KeepN b H Hf → φ Hf y
section
variable {b : Addr} {φ ψ : Hp → V → Prop} {H H0 H1 : Hp} {y v : V} {σ : L2.St} {t : L2.TE} {ts : L2.TA} {φs : List (Hp → V → Prop)} {K : PySem.W.Frag}
theorem AL.far (h : AL b φ H y) (k : KeepN b H H1) : AL b φ H1 y := fun Hf z => h Hf (k.trans z)
theorem AL.same (h : AL b φ H y) (S : Same H H1) : AL b φ H1 y := h.far (KeepN.same S)
theorem AL.here (h : AL b φ H y) : φ H y := h H KeepN.refl
theorem AL.imp (h : AL b φ H y) (f : ∀ H y, φ H y → ψ H y) : AL b ψ H y := fun Hf z => f _ _ (h Hf z)
def EltA (b : Addr) (φ : Hp → V → Prop) (H0 : Hp) (σ : L2.St) (t : L2.TE) : Prop := ∀ H Q, Same H0 H → (∀ v H', Same H H' → AL b φ H' v → Q v H') → t σ H Q
def AllA (b : Addr) : List (Hp → V → Prop) → Hp → List V → Prop
  | [], _, [] => True
  | φ :: φs, H, y :: ys => AL b φ H y ∧ AllA b φs H ys
  | _, _, _ => False
def AllP : List (Hp → V → Prop) → Hp → List V → Prop
  | [], _, [] => True
  | φ :: φs, H, y :: ys => φ H y ∧ AllP φs H ys
  | _, _, _ => False
theorem AllA.far (k : KeepN b H H1) : ∀ {φs : List (Hp → V → Prop)} {ys : List V}, AllA b φs H ys → AllA b φs H1 ys
  | [], [], _ => trivial
  | _ :: _, _ :: _, h => ⟨h.1.far k, AllA.far k h.2⟩
  | [], _ :: _, h => h.elim
  | _ :: _, [], h => h.elim
theorem AllA.here : ∀ {φs : List (Hp → V → Prop)} {ys : List V}, AllA b φs H ys → AllP φs H ys
  | [], [], _ => trivial
  | _ :: _, _ :: _, h => ⟨h.1.here, AllA.here h.2⟩
  | [], _ :: _, h => h.elim
  | _ :: _, [], h => h.elim
theorem AllA.len : ∀ {φs : List (Hp → V → Prop)} {ys : List V}, AllA b φs H ys → ys.length = φs.length
  | [], [], _ => rfl
  | _ :: _, _ :: _, h => by rw [List.length_cons, List.length_cons, AllA.len h.2]
  | [], _ :: _, h => h.elim
  | _ :: _, [], h => h.elim
def EltsL (b : Addr) (φs : List (Hp → V → Prop)) (H0 : Hp) (σ : L2.St) (ts : L2.TA) : Prop := ∀ H Q, Same H0 H → (∀ vs H', Same H H' → AllA b φs H' vs → Q vs H') → ts σ H Q
theorem el_c (h : ∀ H, φ H v) : EltA b φ H0 σ (tC v) := fun H Q S k => k _ _ (Same.refl H) fun Hf _ => h Hf
theorem el_var {i : Nat} (hv : σ[i]? = some (some v)) (h : AL b φ H0 v) : EltA b φ H0 σ (tVar i) := fun H Q S k => ⟨v, hv, k _ _ (Same.refl H) (h.same S)⟩
theorem elL_nil : EltsL b [] H0 σ tNil := fun H Q S k => k _ _ (Same.refl H) trivial
theorem elL_cons (h : EltA b φ H0 σ t) (hs : EltsL b φs H0 σ ts) : EltsL b (φ :: φs) H0 σ (tCons t ts) := fun H Q S k =>
  h H _ S fun v H1 S1 o => hs H1 _ (S.trans S1) fun vs H2 S2 os => k _ _ (S1.trans S2) ⟨o.same S2, os⟩
theorem el_imp (f : ∀ H y, φ H y → ψ H y) (h : EltA b φ H0 σ t) : EltA b ψ H0 σ t := fun H Q S k => h H Q S fun v H' S' o => k v H' S' (o.imp f)
theorem el_tup (hb : BagAt b H0) (h : EltsL b φs H0 σ ts) (hz : φs.length ≤ 10 := by decide) (hψ : ∀ H p xs, H p = some (.tup xs) → AllP φs H xs → ψ H (.ref p)) : EltA b ψ H0 σ (tTup ts) := fun H Q S k =>
  h H _ S fun vs H1 S1 os => ⟨by rw [os.len, sizeLine_eq]; omega, fun p np => k _ _ (S1.trans (same_upd np)) fun Hf z =>
    hψ Hf p vs (z p _ (bag_ne (hb.same (S.trans S1)) np) (fun _ => by simp) upd_same) (AllA.here (os.far ((KeepN.same (same_upd np)).trans z)))⟩
theorem el_lst (hb : BagAt b H0) (h : EltsL b φs H0 σ ts) (hz : φs.length ≤ 10 := by decide) (hψ : ∀ H p xs, H p = some (.lst xs) → AllP φs H xs → ψ H (.ref p)) : EltA b ψ H0 σ (tLst ts) := fun H Q S k =>
  h H _ S fun vs H1 S1 os => ⟨by rw [os.len, sizeLine_eq]; omega, fun p np => k _ _ (S1.trans (same_upd np)) fun Hf z =>
    hψ Hf p vs (z p _ (bag_ne (hb.same (S.trans S1)) np) (fun _ => by simp) upd_same) (AllA.here (os.far ((KeepN.same (same_upd np)).trans z)))⟩
theorem el_dnew (hb : BagAt b H0) (hψ : ∀ H p, H p = some (.dK []) → ψ H (.ref p)) : EltA b ψ H0 σ tDNewK := fun H Q S k p np => k _ _ (same_upd np) fun Hf z =>
  hψ Hf p (z p _ (bag_ne (hb.same S) np) (fun _ => by simp) upd_same)
theorem el_dS {k0 : Str} {x : V} (hb : BagAt b H0) (hψ : ∀ H p kvs, H p = some (.dK kvs) → ψ H (.ref p)) : EltA b ψ H0 σ (tDisp [(tC (.str k0), tC x)]) := fun H Q S k p np => ⟨upd_same, [(.inr k0, x)], rfl, by show 1 ≤ 15; decide, by
  rw [upd_upd]
  exact k _ _ (same_upd np) fun Hf z => hψ Hf p _ (z p _ (bag_ne (hb.same S) np) (fun _ => by simp) upd_same)⟩
theorem el_dV {i j : Nat} {k0 : Str} {x : V} (hi : σ[i]? = some (some (.str k0))) (hj : σ[j]? = some (some x)) (hb : BagAt b H0) (hψ : ∀ H p kvs, H p = some (.dK kvs) → ψ H (.ref p)) : EltA b ψ H0 σ (tDisp [(tVar i, tVar j)]) := fun H Q S k p np => ⟨_, hi, _, hj, upd_same, [(.inr k0, x)], rfl, by show 1 ≤ 15; decide, by
  rw [upd_upd]
  exact k _ _ (same_upd np) fun Hf z => hψ Hf p _ (z p _ (bag_ne (hb.same S) np) (fun _ => by simp) upd_same)⟩
/-! items of one kind -/
def EltsS (b : Addr) (φ : Hp → V → Prop) (c : Nat) (H0 : Hp) (σ : L2.St) (ts : L2.TA) : Prop := ∀ H Q, Same H0 H → (∀ vs H', Same H H' → vs.length = c → (∀ y ∈ vs, AL b φ H' y) → Q vs H') → ts σ H Q
theorem es_nil : EltsS b φ 0 H0 σ tNil := fun H Q S k => k _ _ (Same.refl H) rfl fun y hy => nomatch hy
theorem es_cons {c : Nat} (h : EltA b φ H0 σ t) (hs : EltsS b φ c H0 σ ts) : EltsS b φ (c + 1) H0 σ (tCons t ts) := fun H Q S k =>
  h H _ S fun v H1 S1 o => hs H1 _ (S.trans S1) fun vs H2 S2 l os => k _ _ (S1.trans S2) (by rw [List.length_cons, l]) fun y hy => by
    rcases List.mem_cons.mp hy with e | e
    · rw [e]; exact o.same S2
    · exact os y e
theorem asg_es {c : Nat} {g : TG} {D : Ends} (h : EltsS b φ c H σ ts) (hc : c ≤ 100) (k : ∀ p vs H', Same H H' → H' p = some (.lst vs) → H p = none → vs.length = c → (∀ y ∈ vs, AL b φ H' y) → g (.ref p) σ H' D.nx) : tAsg (tLst ts) g D σ H :=
  h H _ (Same.refl H) fun vs H1 S1 l ok => ⟨by rw [l, sizeLine_eq]; omega, fun p np => k p vs _ (S1.trans (same_upd np)) upd_same (by
    cases e : H p with
    | none => rfl
    | some o => rw [S1 _ _ e] at np; cases np) l fun y hy => (ok y hy).same (same_upd np)⟩
theorem cat_es {i c : Nat} {p : Addr} {xs : List V} {g : TG} {D : Ends} (hi : σ[i]? = some (some (.ref p))) (e : H p = some (.lst xs)) (x1 : xs.length < 500) (hx : ∀ y ∈ xs, AL b φ H y) (h : EltsS b φ c H σ ts) (hc : c ≤ 100)
    (k : ∀ q vs H', Same H H' → H' q = some (.lst vs) → vs.length = xs.length + c → (∀ y ∈ vs, AL b φ H' y) → g (.ref q) σ H' D.nx) : tAsg (tOp rCat (tVar i) (tLst ts)) g D σ H := by
  refine ⟨_, hi, h H _ (Same.refl H) fun vs H1 S1 l ok => ⟨by rw [l, sizeLine_eq]; omega, fun q nq => ?_⟩⟩
  have S2 := S1.trans (same_upd (o := .lst vs) nq)
  refine ⟨p, q, xs, vs, rfl, rfl, S2 _ _ e, upd_same, by rw [l, sizeLine_eq]; omega, fun r nr => ?_⟩
  refine k r _ _ (S2.trans (same_upd nr)) upd_same (by rw [List.length_append, l]) fun y hy => ?_
  rcases List.mem_append.mp hy with z | z
  · exact (hx y z).same (S2.trans (same_upd nr))
  · exact ((ok y z).same (same_upd nq)).same (same_upd nr)
theorem pick_at {p : Addr} {xs : List V} {Q : VK} (hb : BagAt b H) (hp : p ≠ b) (e : H p = some (.lst xs)) (h0 : 0 < xs.length) (h1 : xs.length < 1000) (hx : ∀ y ∈ xs, AL b φ H y)
    (k : ∀ y H', Keep (J b) H H' → BagAt b H' → AL b φ H' y → Q y H') : spPick K [.ref b, .ref p] H Q E0 := by
  obtain ⟨g, s, d, eb⟩ := hb
  have st : ∀ g' c', ItemsOf K (upd H b (bagO g' s c')) (.ref p) xs := fun g' c' => .inl ⟨p, rfl, .inl (SqL.of (by rw [upd_ne hp]; exact e))⟩
  exact ⟨b, g, s, d, .ref p, xs, rfl, eb, .inl ⟨p, rfl, .inl (SqL.of e)⟩, st, h0, by omega, fun y g' c' hy => k y _ (Keep.upd rfl) ⟨g', s, c', upd_same⟩ ((hx y hy).far (KeepN.keep (Keep.upd rfl)))⟩
theorem pick_lst {j c : Nat} {Q : VK} (hb : BagAt b H) (h0 : σ[j]? = some (some (.ref b))) (h : EltsS b φ c H σ ts) (c0 : 0 < c) (c1 : c < 1000)
    (k : ∀ y H', Keep (J b) H H' → BagAt b H' → AL b φ H' y → Q y H') : tCall (spPick K) [] E0 (tCons (tVar j) (tCons (tLst ts) tNil)) σ H Q := by
  refine ⟨_, h0, h H _ (Same.refl H) fun vs H1 S1 l ok => ⟨by rw [sizeLine_eq]; omega, fun p np => ?_⟩⟩
  exact pick_at ((hb.same S1).same (same_upd np)) (bag_ne (hb.same S1) np) upd_same (by omega) (by omega) (fun y hy => (ok y hy).same (same_upd np)) fun y H' k' b' a => k y H' ((Keep.of (S1.trans (same_upd np))).trans k') b' a
theorem pick_vr {i j : Nat} {p : Addr} {xs : List V} {Q : VK} (hb : BagAt b H) (h0 : σ[j]? = some (some (.ref b))) (hi : σ[i]? = some (some (.ref p))) (hp : p ≠ b) (e : H p = some (.lst xs)) (x0 : 0 < xs.length) (x1 : xs.length < 1000) (hx : ∀ y ∈ xs, AL b φ H y)
    (k : ∀ y H', Keep (J b) H H' → BagAt b H' → AL b φ H' y → Q y H') : tCall (spPick K) [] E0 (tCons (tVar j) (tCons (tVar i) tNil)) σ H Q :=
  ⟨_, h0, _, hi, pick_at hb hp e x0 x1 hx k⟩
theorem pick_cat {i j c : Nat} {p : Addr} {xs : List V} {Q : VK} (hb : BagAt b H) (h0 : σ[j]? = some (some (.ref b))) (hi : σ[i]? = some (some (.ref p))) (e : H p = some (.lst xs)) (x1 : xs.length < 500) (hx : ∀ y ∈ xs, AL b φ H y) (h : EltsS b φ c H σ ts) (c0 : 0 < c) (c1 : c < 500)
    (k : ∀ y H', Keep (J b) H H' → BagAt b H' → AL b φ H' y → Q y H') : tCall (spPick K) [] E0 (tCons (tVar j) (tCons (tOp rCat (tVar i) (tLst ts)) tNil)) σ H Q := by
  refine ⟨_, h0, _, hi, h H _ (Same.refl H) fun vs H1 S1 l ok => ⟨by rw [sizeLine_eq]; omega, fun q nq => ?_⟩⟩
  have S2 := S1.trans (same_upd (o := .lst vs) nq)
  refine ⟨p, q, xs, vs, rfl, rfl, S2 _ _ e, upd_same, by rw [sizeLine_eq]; omega, fun r nr => ?_⟩
  have S3 := S2.trans (same_upd (o := .lst (xs ++ vs)) nr)
  refine pick_at (hb.same S3) (bag_ne (hb.same S2) nr) upd_same (by rw [List.length_append]; omega) (by rw [List.length_append]; omega) (fun y hy => ?_) fun y H' k' b' a => k y H' ((Keep.of S3).trans k') b' a
  rcases List.mem_append.mp hy with z | z
  · exact (hx y z).same S3
  · exact ((ok y z).same (same_upd nq)).same (same_upd nr)
end
/-! kinds -/
section
variable {K : PySem.W.Frag} {H : Hp}
/-- neither a text nor a tuple -/
def Nst (K : PySem.W.Frag) (H : Hp) (y : V) : Prop := NotTy K H y "str" ∧ NotTy K H y "tuple"
theorem nst_non : Nst K H .non := ⟨⟨_, .base .non, kit_ty (by decide +kernel)⟩, ⟨_, .base .non, kit_ty (by decide +kernel)⟩⟩
theorem nst_int {i : Int} : Nst K H (.int i) := ⟨⟨_, .base (.int i), kit_ty (by decide +kernel)⟩, ⟨_, .base (.int i), kit_ty (by decide +kernel)⟩⟩
theorem nst_bl {i : Bool} : Nst K H (.bl i) := ⟨⟨_, .base (.bl i), kit_ty (by decide +kernel)⟩, ⟨_, .base (.bl i), kit_ty (by decide +kernel)⟩⟩
theorem nst_lst {p : Addr} {xs : List V} (e : H p = some (.lst xs)) : Nst K H (.ref p) := ⟨⟨_, .base (.lst e), kit_ty (by decide +kernel)⟩, ⟨_, .base (.lst e), kit_ty (by decide +kernel)⟩⟩
theorem nst_dK {p : Addr} {xs : List (L2.Key × V)} (e : H p = some (.dK xs)) : Nst K H (.ref p) := ⟨⟨_, .base (.dK e), kit_ty (by decide +kernel)⟩, ⟨_, .base (.dK e), kit_ty (by decide +kernel)⟩⟩
theorem not_str_tup {p : Addr} {xs : List V} (e : H p = some (.tup xs)) : NotTy K H (.ref p) "str" := ⟨_, ty_tup (SqT.of e), kit_ty (by decide +kernel)⟩
theorem not_tup_str {z : Str} : NotTy K H (.str z) "tuple" := ⟨_, .base (.str z), kit_ty (by decide +kernel)⟩
theorem Nst.word {y : V} (h : Nst K H y) : WordV K H y false := .inr ⟨h.1, rfl⟩
theorem bad_str {z : Str} (l : z.length ≤ 1000 := by decide) (h : isWord z = false := by decide +kernel) : WordV K H (.str z) false := .inl ⟨z, rfl, by rw [sizeLine_eq]; omega, h⟩
theorem good_str {z : Str} (l : z.length ≤ 1000 := by decide) (h : isWord z = true := by decide +kernel) : WordV K H (.str z) true := .inl ⟨z, rfl, by rw [sizeLine_eq]; omega, h⟩
theorem bad_tup {p : Addr} {xs : List V} (e : H p = some (.tup xs)) : WordV K H (.ref p) false := .inr ⟨not_str_tup e, rfl⟩
end
end K0
-- K6Word
set_option maxRecDepth 100000
set_option maxHeartbeats 1000000
namespace K0
open PySem L2 FM He
/-- a word over the letters of signs, at most so long -/
def Over (signs : Str) (m : Nat) (z : Str) : Prop := z.length ≤ m ∧ ∀ c ∈ z.cps.toList, c ∈ signs.cps.toList
theorem singles_sum : ∀ zs : List Str, (∀ z ∈ zs, z.length = 1) → (zs.map (·.length)).sum = zs.length
  | [], _ => rfl
  | z :: zs, h => by
    have h1 := h z List.mem_cons_self
    have h2 := singles_sum zs fun y hy => h y (List.mem_cons_of_mem _ hy)
    simp only [List.map_cons, List.sum_cons, List.length_cons]
    omega
theorem singles_join {signs : Str} : ∀ zs : List Str, (∀ z ∈ zs, ∃ c ∈ signs.cps.toList, z = ⟨#[c]⟩) → (Str.join "" zs).length = zs.length ∧ ∀ c ∈ (Str.join "" zs).cps.toList, c ∈ signs.cps.toList
  | [], _ => ⟨rfl, fun c hc => by
    have : c ∈ ([] : List Nat) := hc
    cases this⟩
  | [z], h => by
    obtain ⟨c, hc, rfl⟩ := h z List.mem_cons_self
    refine ⟨rfl, fun d hd => ?_⟩
    have e : d = c := by simpa [Str.join] using hd
    rw [e]
    exact hc
  | z :: y :: zs, h => by
    obtain ⟨c, hc, rfl⟩ := h z List.mem_cons_self
    obtain ⟨l1, l2⟩ := singles_join (signs := signs) (y :: zs) fun x hx => h x (List.mem_cons_of_mem _ hx)
    have e : Str.join "" (⟨#[c]⟩ :: y :: zs) = (⟨#[c]⟩ : Str) ++ "" ++ Str.join "" (y :: zs) := rfl
    rw [e]
    refine ⟨?_, fun d hd => ?_⟩
    · rw [PySem.Str.length_append, PySem.Str.length_append, l1]
      show 1 + 0 + (zs.length + 1) = zs.length + 1 + 1
      omega
    · have hd2 : d = c ∨ d ∈ (Str.join "" (y :: zs)).cps.toList := by
        have z : ((⟨#[c]⟩ : Str) ++ "" ++ Str.join "" (y :: zs)).cps.toList = [c] ++ (Str.join "" (y :: zs)).cps.toList := by
          show ((#[c] ++ #[]) ++ (Str.join "" (y :: zs)).cps).toList = _
          simp
        rw [z] at hd
        simpa using hd
      rcases hd2 with rfl | hd2
      · exact hc
      · exact l2 d hd2
def spWord : Sp := fun vs H Q _ => ∃ (b : Addr) (signs : Str) (m : Nat), vs = [.ref b, .str signs, .int m] ∧ BagAt b H ∧ 0 < signs.length ∧ signs.length ≤ 1000 ∧ m ≤ 1000 ∧
  ∀ z H', Keep (J b) H H' → BagAt b H' → Over signs m z → Q (.str z) H'
section
variable {P : Program} {w : World} {K : PySem.W.Frag} {mg : Str → Option Value} {base : Heap}
theorem ok_law_drawn_word {f : Addr} {fd : FuncData} (F : FnP K "_law_drawn_word" s__law_drawn_word f fd) (T : TP K mg) : FnOk P w K mg base CX0 3 f fd ["_law_bag", "_law_signs", "_law_most"] spWord := by
  obtain ⟨d__law_pick, F__law_pick⟩ := T.f__law_pick
  have G__law_pick := ok_law_pick (P := P) (w := w) (base := base) F__law_pick T
  have b__law_pick : Binds K d__law_pick ["_law_bag", "_law_items"] [] := F__law_pick.bindsN fun _ _ _ _ _ _ us hl => match us, hl with | [_, _], _ => rfl
  obtain ⟨d__law_throw, F__law_throw⟩ := T.f__law_throw
  have G__law_throw := ok_law_throw (P := P) (w := w) (base := base) F__law_throw T
  have b__law_throw : Binds K d__law_throw ["_law_bag", "_law_total"] [] := F__law_throw.bindsN fun _ _ _ _ _ _ us hl => match us, hl with | [_, _], _ => rfl
  refine F.ok sc__law_drawn_word (fun vs H Q E h => ?_) (fun cdv A outer s H vs Q E hr h => ?_)
  · obtain ⟨b, signs, m, rfl, _⟩ := h
    rfl
  · obtain ⟨b, signs, m, rfl, hb, s0, s1, hm, k⟩ := h
    have nd := sc__law_drawn_word.nd
    refine ⟨_, PSs.nox (pss_one (ps_ret (pe_join pe_str (pe_lc (own := [("_law_turn", 3)]) rfl nd (pi_range1 (by rfl) T.b_range (pa_cons (pe_call G__law_throw (hr.mono (by decide)) rfl T.g__law_throw F__law_throw.kp b__law_throw .nil pass0 (pa_cons (pv 0) (pa_cons (pe_op op_add (pv 2) pe_int) pa_nil))) pa_nil)) (blkOk_by (own := [("_law_turn", 3)]) (N := ["_law_bag", "_law_signs", "_law_most", "_law_turn"]) (sc := defScope s__law_drawn_word) (by decide +kernel)) (fun _ _ _ _ _ => (pg_name (i := 3) nd rfl (.inl rfl))) (fun _ _ _ _ _ => pts_nil) (fun _ _ _ _ _ => (pe_call G__law_pick (hr.mono (by decide)) rfl T.g__law_pick F__law_pick.kp b__law_pick .nil pass0 (pa_cons (pv 0) (pa_cons (pv 1) pa_nil)))))))), ?_⟩
    have hb0 := hb
    obtain ⟨g, s', c, hb⟩ := hb
    refine ⟨⟨_, rfl⟩, _, rfl, _, rfl, _, _, rfl, rfl, b, g, s', c, (m : Int) + 1, rfl, hb, by omega, by omega, fun r g' c' r0 r1 => ⟨r, rfl, by omega, by omega, fun D nD => ?_⟩⟩
    have kb : Keep (J b) H (upd H b (bagO g' s' c')) := Keep.upd rfl
    have nb : D ≠ b := fun z => by rw [z, upd_same] at nD; cases nD
    refine lc_range (lo := 0) (n := r.toNat) (fun i H' => ∃ zs : List Str, zs.length = i ∧ (∀ z ∈ zs, ∃ c ∈ signs.cps.toList, z = ⟨#[c]⟩) ∧ H' D = some (.lst (zs.map V.str)) ∧ BagAt b H' ∧ Keep (J b) H H')
      ⟨[], rfl, fun z hz => (nomatch hz), upd_same, ⟨g', s', c', by rw [upd_ne nb.symm]; exact upd_same⟩, kb.trans (Keep.new nD)⟩ (fun i H' hi q => ?_) (fun H' q => ?_)
    · obtain ⟨zs, hl, hz, hD, ⟨g2, s2, c2, hb2⟩, kk⟩ := q
      have el : (signs.cps.toList.map fun c => V.str ⟨#[c]⟩).length = signs.length := by simp [Str.length]
      have s2k : signs.length ≤ sizeLine := by rw [sizeLine_eq]; omega
      refine ⟨rfl, _, rfl, _, rfl, b, g2, s2, c2, .str signs, _, rfl, hb2, .inr ⟨signs, rfl, s2k, rfl⟩, fun _ _ => .inr ⟨signs, rfl, s2k, rfl⟩, by omega, by omega, fun y g3 c3 hy => ?_⟩
      obtain ⟨ch, hc, rfl⟩ := List.mem_map.mp hy
      have hD2 : upd H' b (bagO g3 s2 c3) D = some (.lst (zs.map V.str)) := by rw [upd_ne nb]; exact hD
      refine ⟨_, hD2, by rw [List.length_map, sizeLine_eq]; omega, zs ++ [⟨#[ch]⟩], by simp [hl], ?_, by rw [upd_same]; simp, ⟨g3, s2, c3, by rw [upd_ne nb.symm]; exact upd_same⟩, ?_⟩
      · intro z hz2
        rcases List.mem_append.mp hz2 with h | h
        · exact hz z h
        · rw [List.mem_singleton.mp h]; exact ⟨ch, hc, rfl⟩
      · intro a o na ha
        have aD : a ≠ D := fun z => by
          rw [z] at ha
          have := kb _ _ nb ha
          rw [nD] at this
          cases this
        rw [upd_ne aD]
        exact (kk.trans (Keep.upd rfl)) a o na ha
    · obtain ⟨zs, hl, hz, hD, hbag, kk⟩ := q
      refine ⟨"", D, zs, rfl, rfl, .inl (SqL.of hD), ?_, k _ H' kk hbag ?_⟩
      · have e1 : (zs.map (·.length)).sum = zs.length := singles_sum zs fun z h => by
          obtain ⟨c, _, rfl⟩ := hz z h
          rfl
        have e2 : ("" : Str).length = 0 := rfl
        rw [e1, e2]
        omega
      · have e : Txt.join "" zs = Str.join "" zs := by simpa using (PyProof.Rows.join_closes (sep := "") (sep' := "") (ys := zs) rfl)
        rw [e]
        obtain ⟨l1, l2⟩ := singles_join (signs := signs) zs hz
        exact ⟨by omega, l2⟩
end
end K0
-- K6Items
set_option maxRecDepth 100000
set_option maxHeartbeats 1000000
namespace K0
open PySem L2 FM He
/-- the letters that are drawn -/
abbrev abcz : List Nat := [97, 98, 99, 122]
theorem sub_all {P : List Nat → Prop} (h : ∀ a b c d : Bool, P ((if a = true then [97] else []) ++ ((if b = true then [98] else []) ++ ((if c = true then [99] else []) ++ (if d = true then [122] else []))))) {l : List Nat} (s : l.Sublist abcz) : P l := by
  have one : ∀ {x : Nat} {r l : List Nat}, l.Sublist (x :: r) → ∃ (b : Bool) (l' : List Nat), l'.Sublist r ∧ l = (if b = true then [x] else []) ++ l' := fun {x r l} s => by
    cases s with
    | cons _ s => exact ⟨false, _, s, rfl⟩
    | cons_cons _ s => exact ⟨true, _, s, rfl⟩
  obtain ⟨a, l1, s1, rfl⟩ := one s
  obtain ⟨b, l2, s2, rfl⟩ := one s1
  obtain ⟨c, l3, s3, rfl⟩ := one s2
  obtain ⟨d, l4, s4, rfl⟩ := one s3
  have e : l4 = [] := List.sublist_nil.mp s4
  subst e
  rw [List.append_nil]
  exact h a b c d
def LetOk (z : Str) : Prop := isWord z = true ∧ lets z = true ∧ z.length ≤ 4
theorem sub_ok {z : Str} (s : z.cps.toList.Sublist abcz) : LetOk z := by
  have e : z = ⟨z.cps.toList.toArray⟩ := by cases z; simp
  rw [e]
  refine sub_all (P := fun l => LetOk ⟨l.toArray⟩) (fun a b c d => ?_) s
  cases a <;> cases b <;> cases c <;> cases d <;> exact ⟨by decide +kernel, by decide +kernel, by decide +kernel⟩
theorem join_cps : ∀ zs : List Nat, (Str.join "" (zs.map fun c => (⟨#[c]⟩ : Str))).cps.toList = zs
  | [] => rfl
  | [c] => rfl
  | c :: d :: r => by
    have h := join_cps (d :: r)
    show ((#[c] ++ #[]) ++ (Str.join "" ((d :: r).map fun c => (⟨#[c]⟩ : Str))).cps).toList = _
    rw [Array.toList_append, h]
    simp
theorem join_sum : ∀ zs : List Nat, ((zs.map fun c => (⟨#[c]⟩ : Str)).map (·.length)).sum = zs.length
  | [] => rfl
  | c :: r => by
    have h := join_sum r
    rw [List.map_cons, List.map_cons, List.sum_cons, h, List.length_cons]
    show 1 + r.length = _
    omega
/-- an item as it is drawn -/
def GoodIt (it : Str × Bool) : Prop := it.1 ≠ "" ∧ it.1.cps.toList.Sublist abcz
/-- tuples stay -/
def TK (H H' : Hp) : Prop := ∀ (a : Addr) (xs : List V), H a = some (.tup xs) → H' a = some (.tup xs)
theorem TK.refl {H : Hp} : TK H H := fun _ _ h => h
theorem TK.trans {H H1 H2 : Hp} (x : TK H H1) (y : TK H1 H2) : TK H H2 := fun a xs h => y a xs (x a xs h)
theorem TK.same {H H1 : Hp} (S : Same H H1) : TK H H1 := fun a xs h => S a _ h
theorem bag_tup {b a : Addr} {H : Hp} {xs : List V} (hb : BagAt b H) (h : H a = some (.tup xs)) : a ≠ b := fun e => by
  obtain ⟨g, s, c, eb⟩ := hb
  rw [e, eb] at h
  cases h
theorem TK.keep {b : Addr} {H H1 : Hp} (hb : BagAt b H) (k : Keep (J b) H H1) : TK H H1 := fun a xs h => k a _ (bag_tup hb h) h
theorem TK.keepN {b : Addr} {H H1 : Hp} (hb : BagAt b H) (k : KeepN b H H1) : TK H H1 := fun a xs h => k a _ (bag_tup hb h) (fun _ => by simp) h
theorem TK.put {H : Hp} {f : Addr} {ys zs : List V} (hf : H f = some (.lst ys)) : TK H (upd H f (.lst zs)) := fun a xs h => by
  have : a ≠ f := fun e => by
    rw [e, hf] at h
    cases h
  rw [upd_ne this]
  exact h
def ItemC (H : Hp) (y : V) (it : Str × Bool) : Prop := ∃ q, y = .ref q ∧ H q = some (.tup [.str it.1, .str (kindS it.2)])
/-- items as they are drawn -/
def DrawnIts (H : Hp) (vs : List V) (its : List (Str × Bool)) : Prop := (∀ it ∈ its, GoodIt it) ∧ vs.length = its.length ∧ ∀ (i : Nat) (y : V) (it : Str × Bool), vs[i]? = some y → its[i]? = some it → ItemC H y it
theorem DrawnIts.far {H H1 : Hp} {vs : List V} {its : List (Str × Bool)} (h : DrawnIts H vs its) (k : TK H H1) : DrawnIts H1 vs its := ⟨h.1, h.2.1, fun i y it a c => let ⟨q, e, z⟩ := h.2.2 i y it a c; ⟨q, e, k _ _ z⟩⟩
theorem DrawnIts.at {K : PySem.W.Frag} {H : Hp} {vs : List V} {its : List (Str × Bool)} (h : DrawnIts H vs its) : ItsAt K H vs its := ⟨h.2.1, fun i y it a c => let ⟨q, e, z⟩ := h.2.2 i y it a c; ⟨q, e, SqT.of z⟩⟩
theorem DrawnIts.snoc {H : Hp} {vs : List V} {its : List (Str × Bool)} {q : Addr} {z : Str} {kd : Bool} (h : DrawnIts H vs its) (g : GoodIt (z, kd)) (hq : H q = some (.tup [.str z, .str (kindS kd)])) : DrawnIts H (vs ++ [.ref q]) (its ++ [(z, kd)]) := by
  refine ⟨fun it hit => ?_, by rw [List.length_append, List.length_append, h.2.1]; rfl, fun j y it hy hit => ?_⟩
  · rcases List.mem_append.mp hit with e | e
    · exact h.1 it e
    · rw [List.mem_singleton.mp e]
      exact g
  · have hl := h.2.1
    by_cases lt : j < vs.length
    · rw [List.getElem?_append_left lt] at hy
      rw [List.getElem?_append_left (by omega)] at hit
      exact h.2.2 j y it hy hit
    · have h1 := (List.getElem?_eq_some_iff.mp hy).1
      rw [List.length_append, List.length_singleton] at h1
      have e : j = vs.length := by omega
      subst e
      rw [List.getElem?_append_right (Nat.le_refl _), Nat.sub_self] at hy
      rw [hl, List.getElem?_append_right (Nat.le_refl _), Nat.sub_self] at hit
      cases hy
      cases hit
      exact ⟨q, rfl, hq⟩
def spItems (K : PySem.W.Frag) : Sp := fun vs H Q _ => ∃ (b : Addr) (signs : Str) (m : Nat), vs = [.ref b, .str signs, .int m] ∧ BagAt b H ∧ signs ≠ "" ∧ signs.cps.toList.Sublist abcz ∧ m ≤ 10 ∧
  ∀ t vs its H', Keep (J b) H H' → BagAt b H' → t ≠ b → H' t = some (.tup vs) → DrawnIts H' vs its → its.length ≤ m → Q (.ref t) H'
section
variable {P : Program} {w : World} {K : PySem.W.Frag} {mg : Str → Option Value} {base : Heap}
theorem ok_law_drawn_items {f : Addr} {fd : FuncData} (F : FnP K "_law_drawn_items" s__law_drawn_items f fd) (T : TP K mg) : FnOk P w K mg base CX0 3 f fd ["_law_bag", "_law_signs", "_law_most"] (spItems K) := by
  obtain ⟨d__law_throw, F__law_throw⟩ := T.f__law_throw
  have G__law_throw := ok_law_throw (P := P) (w := w) (base := base) F__law_throw T
  have b__law_throw : Binds K d__law_throw ["_law_bag", "_law_total"] [] := F__law_throw.bindsN fun _ _ _ _ _ _ us hl => match us, hl with | [_, _], _ => rfl
  obtain ⟨d__law_pick, F__law_pick⟩ := T.f__law_pick
  have G__law_pick := ok_law_pick (P := P) (w := w) (base := base) F__law_pick T
  have b__law_pick : Binds K d__law_pick ["_law_bag", "_law_items"] [] := F__law_pick.bindsN fun _ _ _ _ _ _ us hl => match us, hl with | [_, _], _ => rfl
  refine F.ok sc__law_drawn_items (fun vs H Q E h => ?_) (fun cdv A outer s H vs Q E hr h => ?_)
  · obtain ⟨b, signs, m, rfl, _⟩ := h
    rfl
  · obtain ⟨b, signs, m, rfl, hb, s0, s1, hm, k⟩ := h
    have nd := sc__law_drawn_items.nd
    have sl : signs.length ≤ 4 := (sub_ok s1).2.2
    refine ⟨_, PSs.nox (pss_cons (ps_set (i := 3) nd rfl (.inl rfl) (pe_lst pa_nil))
      (pss_cons (ps_for PassesOwn.never rfl (pi_range1 (by rfl) T.b_range (pa_cons (pe_call G__law_throw (hr.mono (by decide)) rfl T.g__law_throw F__law_throw.kp b__law_throw .nil pass0 (pa_cons (pv 0) (pa_cons (pe_op op_add (pv 2) pe_int) pa_nil))) pa_nil)) (pg_name (i := 4) nd rfl (.inl rfl)) (C8.pss_cut (ps_set (i := 5) nd rfl (.inl rfl) (pe_join pe_str (pe_lc (own := [("_law_sign", 6)]) rfl nd (pi_str (pv 1)) (blkOk_by (own := [("_law_sign", 6)]) (N := ["_law_bag", "_law_signs", "_law_most", "_law_found", "_law_turn", "_law_some", "_law_sign"]) (sc := defScope s__law_drawn_items) (by decide +kernel)) (fun _ _ _ _ _ => (pg_name (i := 6) nd rfl (.inl rfl))) (fun _ _ _ _ _ => pts_one (pt_cmpR op_eq (pe_call G__law_throw (hr.mono (by decide)) rfl T.g__law_throw F__law_throw.kp b__law_throw .nil pass0 (pa_cons (pv 0) (pa_cons pe_int pa_nil))) pe_int (nomark _))) (fun _ _ _ _ _ => (pv 6)))))
      (pss_one (ps_expr (pe_bm PySem.F.plainAttrs_list PySem.F.slot_list_append PySem.F.type_list_append mt_append (pv 3) (pa_cons (pe_tup (pa_cons (pe_ifExp (pt_cmpR op_ne (pv 5) pe_str (nomark _)) (pv 5) (pe_call G__law_pick (hr.mono (by decide)) rfl T.g__law_pick F__law_pick.kp b__law_pick .nil pass0 (pa_cons (pv 0) (pa_cons (pv 1) pa_nil)))) (pa_cons (pe_call G__law_pick (hr.mono (by decide)) rfl T.g__law_pick F__law_pick.kp b__law_pick .nil pass0 (pa_cons (pv 0) (pa_cons (pe_lst (pa_cons pe_str (pa_cons pe_str (pa_cons pe_str pa_nil)))) pa_nil))) pa_nil))) pa_nil))))))
      (pss_one (ps_ret (pe_callTy call_tuple_of (by rfl) T.b_tuple (by decide +kernel) (pa_cons (pv 3) pa_nil)))))), ?_⟩
    refine ⟨by show 0 ≤ sizeLine; rw [sizeLine_eq]; decide, fun fa nfa => ?_⟩
    have fb : fa ≠ b := bag_ne hb nfa
    have S1 := same_upd (o := .lst []) nfa
    have hb1 := hb.same S1
    obtain ⟨g, s', c, eb⟩ := hb1
    refine ⟨_, rfl, _, rfl, _, _, rfl, rfl, b, g, s', c, (m : Int) + 1, rfl, eb, by omega, by omega, fun r g' c' r0 r1 => ⟨r, rfl, by omega, by omega, ?_⟩⟩
    have k1 : Keep (J b) H (upd (upd H fa (.lst [])) b (bagO g' s' c')) := (Keep.of S1).trans (Keep.upd rfl)
    refine for_range (lo := 0) (n := r.toNat) (fun i σ H' => (∃ u1 u2 u3, σ = [some (.ref b), some (.str signs), some (.int (m : Nat)), some (.ref fa), u1, u2, u3]) ∧ Keep (J b) H H' ∧ BagAt b H' ∧ ∃ vs its, H' fa = some (.lst vs) ∧ DrawnIts H' vs its ∧ its.length = i)
      ⟨⟨_, _, _, rfl⟩, k1, ⟨g', s', c', upd_same⟩, [], [], by rw [upd_ne fb]; exact upd_same, ⟨fun _ h => (nomatch h), rfl, fun i y it h => (nomatch h)⟩, rfl⟩ ?_ ?_
    · rintro i σ H1 hi ⟨⟨u1, u2, u3, rfl⟩, kk, hb', vs, its, hf, hd, hl⟩
      -- some of the letters
      refine ⟨fun σ H2 => ∃ some' : Str, σ = [some (.ref b), some (.str signs), some (.int (m : Nat)), some (.ref fa), some (.int (0 + (i : Int))), some (.str some'), u3] ∧ Keep (J b) H1 H2 ∧ BagAt b H2 ∧ some'.cps.toList.Sublist signs.cps.toList, ?_, ?_⟩
      · refine ⟨⟨_, rfl⟩, _, rfl, signs, rfl, fun D nD => ?_⟩
        have Db : D ≠ b := bag_ne hb' nD
        refine lc_it (w := walk_str (z := signs)) (Pv := fun j H2 => ∃ zs : List Nat, zs.Sublist (signs.cps.toList.take j) ∧ H2 D = some (.lst ((zs.map fun c => (⟨#[c]⟩ : Str)).map V.str)) ∧ BagAt b H2 ∧ Keep (J b) H1 H2)
          ⟨[], List.nil_sublist _, upd_same, hb'.same (same_upd nD), Keep.new nD⟩ (fun _ _ _ _ => trivial) ?_ ?_
        · rintro j x H2 H3 hj ⟨zs, hz, hD, ⟨g2, s2, c2, eb2⟩, k2⟩ ⟨rfl, ch, hc, rfl⟩
          have hc' : signs.cps.toList[j]? = some ch := by simpa using hc
          have et : signs.cps.toList.take (j + 1) = signs.cps.toList.take j ++ [ch] := by rw [List.take_add_one, hc']; rfl
          refine ⟨rfl, _, rfl, b, g2, s2, c2, 2, rfl, eb2, by decide, by decide, fun r2 g3 c3 q0 q1 => ⟨rfl, _, rfl, ?_⟩⟩
          have kb : Keep (J b) H1 (upd H3 b (bagO g3 s2 c3)) := k2.trans (Keep.upd rfl)
          have hD' : upd H3 b (bagO g3 s2 c3) D = some (.lst ((zs.map fun c => (⟨#[c]⟩ : Str)).map V.str)) := by rw [upd_ne Db]; exact hD
          refine ite2 (fun _ => ?_) (fun _ => ?_)
          · have zl : zs.length ≤ 4 := by
              have := hz.length_le
              rw [List.length_take] at this
              have e : signs.cps.toList.length = signs.length := by simp [Str.length]
              omega
            refine ⟨_, rfl, _, hD', by rw [List.length_map, List.length_map, sizeLine_eq]; omega, zs ++ [ch], ?_, by rw [upd_same]; simp, ⟨g3, s2, c3, by rw [upd_ne Db.symm]; exact upd_same⟩, ?_⟩
            · rw [et]
              exact hz.append (List.Sublist.refl _)
            · intro a o na ha
              have aD : a ≠ D := ne_of_none ha nD
              rw [upd_ne aD]
              exact kb a o na ha
          · exact ⟨zs, by rw [et]; exact hz.trans (List.sublist_append_left _ _), hD', ⟨g3, s2, c3, upd_same⟩, kb⟩
        · rintro H2 ⟨zs, hz, hD, hb2, k2⟩
          have e0 : signs.cps.toList.take signs.cps.size = signs.cps.toList := List.take_of_length_le (by simp)
          rw [e0] at hz
          have zl : zs.length ≤ 4 := by
            have := hz.length_le
            have e : signs.cps.toList.length = signs.length := by simp [Str.length]
            omega
          have ej : Txt.join "" (zs.map fun c => (⟨#[c]⟩ : Str)) = Str.join "" (zs.map fun c => (⟨#[c]⟩ : Str)) := by simpa using (PyProof.Rows.join_closes (sep := "") (sep' := "") (ys := zs.map fun c => (⟨#[c]⟩ : Str)) rfl)
          refine ⟨"", D, _, rfl, rfl, .inl (SqL.of hD), ?_, _, rfl, k2, hb2, ?_⟩
          · rw [join_sum]
            have : ("" : Str).length = 0 := rfl
            rw [this]
            omega
          · rw [ej, join_cps]
            exact hz
      rintro σ H2 ⟨so, rfl, k2, hb2, hs⟩
      have kindOk : ∀ k : Bool, ∀ H, (fun (_ : Hp) y => ∃ k, y = V.str (kindS k)) H (V.str (kindS k)) := fun k H => ⟨k, rfl⟩
      have put : ∀ (z : Str) (kd : Bool) (H4 : Hp), z ≠ "" → z.cps.toList.Sublist abcz → Keep (J b) H1 H4 → BagAt b H4 → ∀ q, H4 q = none →
          Keep (J b) H (upd (upd H4 q (.tup [.str z, .str (kindS kd)])) fa (.lst (vs ++ [.ref q]))) ∧ BagAt b (upd (upd H4 q (.tup [.str z, .str (kindS kd)])) fa (.lst (vs ++ [.ref q]))) ∧
          ∃ vs' its', upd (upd H4 q (.tup [.str z, .str (kindS kd)])) fa (.lst (vs ++ [.ref q])) fa = some (.lst vs') ∧ DrawnIts (upd (upd H4 q (.tup [.str z, .str (kindS kd)])) fa (.lst (vs ++ [.ref q]))) vs' its' ∧ its'.length = i + 1 := fun z kd H4 h0 hz k4 hb4 q nq => by
        have qb : q ≠ b := bag_ne hb4 nq
        have f4 := k4 _ _ fb hf
        have f5 : upd H4 q (.tup [.str z, .str (kindS kd)]) fa = some (.lst vs) := by rw [upd_ne (ne_of_none f4 nq)]; exact f4
        have t4 : TK H1 (upd H4 q (.tup [.str z, .str (kindS kd)])) := (TK.keep hb' k4).trans (TK.same (same_upd nq))
        refine ⟨fun a o na e => ?_, ?_, vs ++ [.ref q], its ++ [(z, kd)], upd_same, ((hd.far t4).snoc ⟨h0, hz⟩ upd_same).far (TK.put f5), by rw [List.length_append, hl]; rfl⟩
        · have e4 := k4 _ _ na (kk a o na e)
          rw [upd_ne (ne_of_none e nfa), upd_ne (ne_of_none e4 nq)]
          exact e4
        · obtain ⟨g, s, c, e⟩ := hb4
          exact ⟨g, s, c, by rw [upd_ne fb.symm, upd_ne qb.symm]; exact e⟩
      have vl : vs.length ≤ 20 := by have := hd.2.1; omega
      have hf2 := k2 _ _ fb hf
      refine ⟨_, rfl, .inl ⟨rfl, _, SqL.of hf2⟩, ?_⟩
      refine ⟨_, rfl, rfl, _, rfl, ?_⟩
      by_cases e0 : so = ""
      · have en : (!decide (V.str so = V.str "")) = false := by rw [dec_strV, decide_eq_true e0]; rfl
        rw [en]
        refine iteF ?_
        obtain ⟨g2, s2, c2, eb2⟩ := hb2
        have el : (signs.cps.toList.map fun c => V.str ⟨#[c]⟩).length = signs.length := by simp [Str.length]
        have sz : signs.length ≤ sizeLine := by rw [sizeLine_eq]; omega
        have s0' : 0 < signs.length := by
          rcases Nat.eq_zero_or_pos signs.length with h | h
          · refine absurd ?_ s0
            cases signs with | mk cps =>
            have : cps = #[] := Array.eq_empty_of_size_eq_zero h
            rw [this]
            rfl
          · exact h
        refine ⟨_, rfl, _, rfl, b, g2, s2, c2, .str signs, _, rfl, eb2, .inr ⟨signs, rfl, sz, rfl⟩, fun _ _ => .inr ⟨signs, rfl, sz, rfl⟩, by omega, by omega, fun y g3 c3 hy => ?_⟩
        obtain ⟨ch, hc, rfl⟩ := List.mem_map.mp hy
        have kb : Keep (J b) H1 (upd H2 b (bagO g3 s2 c3)) := k2.trans (Keep.upd rfl)
        refine pick_lst (φ := fun _ y => ∃ kd, y = V.str (kindS kd)) (j := 0) (c := 3) (b := b) ⟨g3, s2, c3, upd_same⟩ rfl (es_cons (el_c fun _ => ⟨false, rfl⟩) (es_cons (el_c fun _ => ⟨false, rfl⟩) (es_cons (el_c fun _ => ⟨true, rfl⟩) es_nil))) (by decide) (by decide) fun y H4 k4 b4 a4 => ?_
        obtain ⟨kd, rfl⟩ := a4.here
        have k5 := kb.trans k4
        refine ⟨by show 2 ≤ sizeLine; rw [sizeLine_eq]; decide, fun q nq => ?_⟩
        have hf5 : upd H4 q (.tup [.str ⟨#[ch]⟩, .str (kindS kd)]) fa = some (.lst vs) := by rw [upd_ne (ne_of_none (k5 _ _ fb hf) nq)]; exact k5 _ _ fb hf
        obtain ⟨p1, p2, p3⟩ := put ⟨#[ch]⟩ kd H4 (fun e => by cases e) ((List.singleton_sublist.mpr hc).trans s1) k5 b4 q nq
        exact ⟨fa, vs, _, rfl, rfl, hf5, by rw [sizeLine_eq]; omega, ⟨_, _, _, rfl⟩, p1, p2, p3⟩
      · have en : (!decide (V.str so = V.str "")) = true := by rw [dec_strV, decide_eq_false e0]; rfl
        rw [en]
        refine iteT ⟨_, rfl, ?_⟩
        refine pick_lst (φ := fun _ y => ∃ kd, y = V.str (kindS kd)) (j := 0) (c := 3) (b := b) hb2 rfl (es_cons (el_c fun _ => ⟨false, rfl⟩) (es_cons (el_c fun _ => ⟨false, rfl⟩) (es_cons (el_c fun _ => ⟨true, rfl⟩) es_nil))) (by decide) (by decide) fun y H4 k4 b4 a4 => ?_
        obtain ⟨kd, rfl⟩ := a4.here
        have k5 := k2.trans k4
        refine ⟨by show 2 ≤ sizeLine; rw [sizeLine_eq]; decide, fun q nq => ?_⟩
        have hf5 : upd H4 q (.tup [.str so, .str (kindS kd)]) fa = some (.lst vs) := by rw [upd_ne (ne_of_none (k5 _ _ fb hf) nq)]; exact k5 _ _ fb hf
        obtain ⟨p1, p2, p3⟩ := put so kd H4 e0 (hs.trans s1) k5 b4 q nq
        exact ⟨fa, vs, _, rfl, rfl, hf5, by rw [sizeLine_eq]; omega, ⟨_, _, _, rfl⟩, p1, p2, p3⟩
    · rintro σ H' ⟨⟨u1, u2, u3, rfl⟩, kk, hb', vs, its, hf, hd, hl⟩
      refine ⟨_, rfl, fa, vs, rfl, .inl ⟨SqL.of hf, fun t nt => ?_⟩⟩
      have S := same_upd (o := .tup vs) nt
      exact k t vs its _ (kk.trans (Keep.of S)) (hb'.same S) (bag_ne hb' nt) upd_same (hd.far (TK.same S)) (by omega)
end
end K0
-- K6Draw
set_option maxRecDepth 100000
set_option maxHeartbeats 1000000
namespace K0
open PySem L2 FM He
/-- a pattern as it is drawn -/
def DrawnPat (H : Hp) (p : Addr) (its : List (Str × Bool)) (whole : Bool) : Prop := ∃ t vs, H p = some (.tup [.ref t, .bl whole]) ∧ H t = some (.tup vs) ∧ DrawnIts H vs its ∧ its.length ≤ 3
theorem DrawnPat.far {H H1 : Hp} {p : Addr} {its : List (Str × Bool)} {whole : Bool} (h : DrawnPat H p its whole) (k : TK H H1) : DrawnPat H1 p its whole :=
  let ⟨t, vs, h1, h2, h3, h4⟩ := h; ⟨t, vs, k _ _ h1, k _ _ h2, h3.far k, h4⟩
theorem DrawnPat.at {K : PySem.W.Frag} {H : Hp} {p : Addr} {its : List (Str × Bool)} {whole : Bool} (h : DrawnPat H p its whole) : PatAt K H (.ref p) its whole :=
  let ⟨t, vs, h1, h2, h3, h4⟩ := h; ⟨p, t, vs, rfl, SqT.of h1, SqT.of h2, h3.at⟩
def spPat (K : PySem.W.Frag) : Sp := fun vs H Q _ => ∃ (b : Addr) (signs : Str), vs = [.ref b, .str signs] ∧ BagAt b H ∧ signs ≠ "" ∧ signs.cps.toList.Sublist abcz ∧
  ∀ p its whole H', Keep (J b) H H' → BagAt b H' → DrawnPat H' p its whole → Q (.ref p) H'
section
variable {P : Program} {w : World} {K : PySem.W.Frag} {mg : Str → Option Value} {base : Heap}
theorem ok_law_drawn_pattern {f : Addr} {fd : FuncData} (F : FnP K "_law_drawn_pattern" s__law_drawn_pattern f fd) (T : TP K mg) : FnOk P w K mg base CX0 4 f fd ["_law_bag", "_law_signs"] (spPat K) := by
  obtain ⟨d__law_drawn_items, F__law_drawn_items⟩ := T.f__law_drawn_items
  have G__law_drawn_items := ok_law_drawn_items (P := P) (w := w) (base := base) F__law_drawn_items T
  have b__law_drawn_items : Binds K d__law_drawn_items ["_law_bag", "_law_signs", "_law_most"] [] := F__law_drawn_items.bindsN fun _ _ _ _ _ _ us hl => match us, hl with | [_, _, _], _ => rfl
  obtain ⟨d__law_pick, F__law_pick⟩ := T.f__law_pick
  have G__law_pick := ok_law_pick (P := P) (w := w) (base := base) F__law_pick T
  have b__law_pick : Binds K d__law_pick ["_law_bag", "_law_items"] [] := F__law_pick.bindsN fun _ _ _ _ _ _ us hl => match us, hl with | [_, _], _ => rfl
  obtain ⟨d__law_throw, F__law_throw⟩ := T.f__law_throw
  have G__law_throw := ok_law_throw (P := P) (w := w) (base := base) F__law_throw T
  have b__law_throw : Binds K d__law_throw ["_law_bag", "_law_total"] [] := F__law_throw.bindsN fun _ _ _ _ _ _ us hl => match us, hl with | [_, _], _ => rfl
  refine F.ok sc__law_drawn_pattern (fun vs H Q E h => ?_) (fun cdv A outer s H vs Q E hr h => ?_)
  · obtain ⟨b, signs, rfl, _⟩ := h
    rfl
  · obtain ⟨b, signs, rfl, hb, s0, s1, k⟩ := h
    have nd := sc__law_drawn_pattern.nd
    refine ⟨_, PSs.nox (pss_one (ps_ret (pe_tup (pa_cons (pe_call G__law_drawn_items (hr.mono (by decide)) rfl T.g__law_drawn_items F__law_drawn_items.kp b__law_drawn_items .nil pass0 (pa_cons (pv 0) (pa_cons (pv 1) (pa_cons (pe_call G__law_pick (hr.mono (by decide)) rfl T.g__law_pick F__law_pick.kp b__law_pick .nil pass0 (pa_cons (pv 0) (pa_cons (pe_lst (pa_cons pe_int (pa_cons pe_int (pa_cons pe_int (pa_cons pe_int (pa_cons pe_int pa_nil)))))) pa_nil))) pa_nil)))) (pa_cons (pe_cmpR op_eq (pe_call G__law_throw (hr.mono (by decide)) rfl T.g__law_throw F__law_throw.kp b__law_throw .nil pass0 (pa_cons (pv 0) (pa_cons pe_int pa_nil))) pe_int (nomark _)) pa_nil))))), ?_⟩
    refine ⟨_, rfl, _, rfl, ?_⟩
    refine pick_lst (φ := fun _ y => ∃ n : Nat, n ≤ 3 ∧ y = V.int (n : Nat)) (j := 0) (c := 5) (b := b) hb rfl (es_cons (el_c fun _ => ⟨0, by decide, rfl⟩) (es_cons (el_c fun _ => ⟨1, by decide, rfl⟩) (es_cons (el_c fun _ => ⟨1, by decide, rfl⟩) (es_cons (el_c fun _ => ⟨2, by decide, rfl⟩) (es_cons (el_c fun _ => ⟨3, by decide, rfl⟩) es_nil))))) (by decide) (by decide) fun y H2 k2 b2 a2 => ?_
    obtain ⟨n, hn, rfl⟩ := a2.here
    refine ⟨b, signs, n, rfl, b2, s0, s1, by omega, fun t vs its H3 k3 b3 tb ht hd hl => ?_⟩
    obtain ⟨g, s', c, eb⟩ := b3
    refine ⟨_, rfl, b, g, s', c, 4, rfl, eb, by decide, by decide, fun r g' c' r0 r1 => ⟨rfl, by show 2 ≤ sizeLine; rw [sizeLine_eq]; decide, fun p np => ?_⟩⟩
    have b4 : BagAt b (upd H3 b (bagO g' s' c')) := ⟨g', s', c', upd_same⟩
    have t3 : TK H3 (upd H3 b (bagO g' s' c')) := TK.keep ⟨g, s', c, eb⟩ (Keep.upd rfl)
    have S := same_upd (o := .tup [V.ref t, V.bl (decide (V.int r = V.int 0))]) np
    exact k p its _ _ (((k2.trans k3).trans (Keep.upd rfl)).trans (Keep.of S)) (b4.same S) ⟨t, vs, upd_same, S _ _ (t3 _ _ ht), (hd.far t3).far (TK.same S), by omega⟩
end
end K0
-- K6FitIn
set_option maxRecDepth 100000
set_option maxHeartbeats 1000000
namespace K0
open PySem L2 FM He
theorem cutS_drop (x : Str) {n : Nat} (h : n ≤ x.length) : cutS x (some (n : Int)) none = ⟨(x.cps.toList.drop n).toArray⟩ := by
  have lx : x.cps.toList.length = x.length := by simp [Str.length]
  show (⟨((x.cps.toList.drop (HT.sIx x.length 0 (some (n : Int)))).take (HT.sIx x.length x.length none - HT.sIx x.length 0 (some (n : Int)))).toArray⟩ : Str) = _
  have e2 : HT.sIx x.length 0 (some (n : Int)) = n := by
    rw [HT.sIx_nat]
    omega
  have e1 : HT.sIx x.length x.length none = x.length := rfl
  rw [e1, e2, List.take_of_length_le (by rw [List.length_drop]; omega)]
theorem str_nil {z : Str} (h : z.cps.toList = []) : z = "" := by
  cases z with | mk cps =>
  have : cps = #[] := by simpa using h
  rw [this]
  rfl
theorem nil_str {z : Str} (h : z = "") : z.cps.toList = [] := by rw [h]; rfl
def spFit (K : PySem.W.Frag) (n : Nat) : Sp := fun vs H Q _ => ∃ (t : Addr) (ys : List V) (its : List (Str × Bool)) (z : Str), vs = [.ref t, .str z] ∧ SqT K H t ys ∧ ItsAt K H ys its ∧ its.length + z.length < n ∧ n ≤ 1000 ∧
  ∀ H', Same H H' → Q (.bl (fitsL (toIs its) z.cps.toList)) H'
section
variable {P : Program} {w : World} {K : PySem.W.Frag} {mg : Str → Option Value} {base : Heap}
theorem fit_step {fd : FuncData} {n : Nat} (F : FnP K "_law_fits_in" s__law_fits_in (ga K "_law_fits_in") fd) (T : TP K mg) (G : FnOk P w K mg base CX0 n (ga K "_law_fits_in") fd ["_law_items", "_law_one"] (spFit K n)) :
    FnOk P w K mg base CX0 (n + 1) (ga K "_law_fits_in") fd ["_law_items", "_law_one"] (spFit K (n + 1)) := by
  have G__law_fits_in := G
  have F__law_fits_in := F
  have b__law_fits_in : Binds K fd ["_law_items", "_law_one"] [] := F.bindsN fun _ _ _ _ _ _ us hl => match us, hl with | [_, _], _ => rfl
  refine F.ok sc__law_fits_in (fun vs H Q E h => ?_) (fun cdv A outer s H vs Q E hr h => ?_)
  · obtain ⟨t, ys, its, z, rfl, _⟩ := h
    rfl
  · obtain ⟨t, ys, its, z, rfl, ht, hi, hn, h1000, k⟩ := h
    have nd := sc__law_fits_in.nd
    have hu64 := hr.units
    refine ⟨_, PSs.nox (pss_cons (ps_if (pt_cmpR (op_eqNilT hu64) (pv 0) (pe_tup pa_nil) (nomark _)) (pss_one (ps_ret (pe_cmpR op_eq (pv 1) pe_str (nomark _)))) pss_nil)
      (pss_cons (ps_asg (pe_ix ix_seq (pv 0) pe_int (fun _ _ => rfl)) (pg_tup (by rfl) (pgs_cons (pg_name (i := 2) nd rfl (.inl rfl)) (pgs_cons (pg_name (i := 3) nd rfl (.inl rfl)) pgs_nil))))
      (C8.pss_cut (ps_set (i := 4) nd rfl (.inl rfl) (pe_and (pe_cmpR op_ne (pv 1) pe_str (nomark _)) (pe_one (pe_cmpR op_in_sign (pe_ix ix_seq (pv 1) pe_int (fun _ _ => rfl)) (pv 2) (by rfl)))))
      (pss_cons (ps_if (pt_cmpR op_eq (pv 3) pe_str (nomark _)) (pss_one (ps_ret (pe_and (pv 4) (pe_one (pe_call G__law_fits_in hr rfl T.g__law_fits_in F__law_fits_in.kp b__law_fits_in .nil pass0 (pa_cons (pe_slice sl_tup (pv 0) (po_some pe_int) po_none) (pa_cons (pe_slice sl_str (pv 1) (po_some pe_int) po_none) pa_nil))))))) pss_nil)
      (pss_one (ps_ret (pe_or (pe_call G__law_fits_in hr rfl T.g__law_fits_in F__law_fits_in.kp b__law_fits_in .nil pass0 (pa_cons (pe_slice sl_tup (pv 0) (po_some pe_int) po_none) (pa_cons (pv 1) pa_nil))) (pe_one (pe_and (pv 4) (pe_one (pe_call G__law_fits_in hr rfl T.g__law_fits_in F__law_fits_in.kp b__law_fits_in .nil pass0 (pa_cons (pv 0) (pa_cons (pe_slice sl_str (pv 1) (po_some pe_int) po_none) pa_nil))))))))))))), ?_⟩
    refine ⟨_, rfl, by show 0 ≤ sizeLine; rw [sizeLine_eq]; decide, fun q nq => ?_⟩
    have S1 := same_upd (o := .tup []) nq
    refine ⟨t, q, ys, rfl, rfl, sqT_same S1 ht, SqT.of upd_same, _, rfl, ?_⟩
    obtain ⟨hl, hi⟩ := hi
    cases its with
    | nil =>
      have : ys = [] := List.length_eq_zero_iff.mp hl
      subst this
      refine iteT ⟨_, rfl, rfl, ?_⟩
      rw [dec_strV]
      have e : fitsL (toIs []) z.cps.toList = decide (z = "") := by
        show z.cps.toList.isEmpty = _
        rw [Bool.eq_iff_iff, decide_eq_true_iff, List.isEmpty_iff]
        exact ⟨str_nil, nil_str⟩
      rw [← e]
      exact k _ S1
    | cons it r =>
      obtain ⟨y0, yr, rfl⟩ : ∃ y0 yr, ys = y0 :: yr := by
        cases ys with
        | nil => cases hl
        | cons a b => exact ⟨a, b, rfl⟩
      have hl' : yr.length = r.length := by simpa using hl
      obtain ⟨q0, rfl, hq0⟩ := hi 0 y0 it rfl rfl
      have at0 : atI (V.ref q0 :: yr) 0 = some (.ref q0) := atI_nat (j := 0) rfl
      have hir : ∀ {H' : Hp}, Same H H' → ItsAt K H' yr r := fun {H'} S => ⟨hl', fun i y it a b => itemAt_same S (hi (i + 1) y it (by simpa using a) (by simpa using b))⟩
      refine iteF ?_
      have f0 : SqT K (upd H q (.tup [])) t (V.ref q0 :: yr) := sqT_same S1 ht
      refine ⟨_, rfl, .inr (.inl ⟨t, _, 0, _, rfl, rfl, f0, at0, q0, _, rfl, sqT_same S1 hq0, rfl, _, _, rfl, _, _, rfl, rfl, ?_⟩)⟩
      generalize hH1 : upd H q (.tup []) = H1 at S1 f0
      have zl : z.length ≤ sizeLine := by rw [sizeLine_eq]; omega
      let here : Bool := match z.cps.toList with
        | [] => false
        | c :: _ => decide (c ∈ it.1.cps.toList)
      refine ⟨fun σ H2 => H2 = H1 ∧ σ = [some (.ref t), some (.str z), some (.str it.1), some (.str (kindS it.2)), some (.bl here)], ?_, ?_⟩
      · refine ⟨_, rfl, rfl, _, rfl, ?_⟩
        rw [dec_strV]
        cases hz : z.cps.toList with
        | nil =>
          have e : here = false := by show (match z.cps.toList with | [] => false | c :: _ => decide (c ∈ it.1.cps.toList)) = _; rw [hz]
          rw [decide_eq_true (str_nil hz), e]
          exact iteF ⟨rfl, rfl⟩
        | cons c zs =>
          have e : here = decide (c ∈ it.1.cps.toList) := by show (match z.cps.toList with | [] => false | c :: _ => decide (c ∈ it.1.cps.toList)) = _; rw [hz]
          have ne : z ≠ "" := fun h => by rw [nil_str h] at hz; cases hz
          rw [decide_eq_false ne, e]
          have ac : atI z.cps.toList 0 = some c := by rw [hz]; exact atI_nat (j := 0) rfl
          exact iteT ⟨_, rfl, .inr (.inr ⟨z, 0, c, rfl, rfl, zl, ac, _, rfl, c, it.1, rfl, rfl, ⟨rfl, rfl⟩⟩)⟩
      rintro σ H2 ⟨rfl, rfl⟩
      have notw : ¬ (HT.sIx (V.ref q0 :: yr).length 0 (some 1) = 0 ∧ HT.sIx (V.ref q0 :: yr).length (V.ref q0 :: yr).length none = (V.ref q0 :: yr).length) := fun h => by
        have e : HT.sIx (V.ref q0 :: yr).length 0 (some ((1 : Nat) : Int)) = min 1 (V.ref q0 :: yr).length := HT.sIx_nat ..
        have h1 := h.1
        rw [show (some (1 : Int)) = some ((1 : Nat) : Int) from rfl, e, List.length_cons] at h1
        omega
      have ecut : cutV (V.ref q0 :: yr) (some 1) none = yr := by
        show (((V.ref q0 :: yr).drop (HT.sIx (V.ref q0 :: yr).length 0 (some ((1 : Nat) : Int)))).take (HT.sIx (V.ref q0 :: yr).length (V.ref q0 :: yr).length none - HT.sIx (V.ref q0 :: yr).length 0 (some ((1 : Nat) : Int)))) = _
        have e1 : HT.sIx (V.ref q0 :: yr).length 0 (some ((1 : Nat) : Int)) = 1 := by
          have e : HT.sIx (V.ref q0 :: yr).length 0 (some ((1 : Nat) : Int)) = min 1 (V.ref q0 :: yr).length := HT.sIx_nat ..
          rw [e, List.length_cons]
          omega
        have e2 : HT.sIx (V.ref q0 :: yr).length (V.ref q0 :: yr).length none = (V.ref q0 :: yr).length := rfl
        rw [e1, e2, List.drop_succ_cons, List.drop_zero, List.length_cons, Nat.add_sub_cancel, List.take_length]
      have rl : r.length + 1 + z.length < n + 1 := hn
      have tail : ∀ {c : Nat} {zs : List Nat}, z.cps.toList = c :: zs → (cutS z (some 1) none).cps.toList = zs ∧ (cutS z (some 1) none).length + 1 = z.length := fun {c zs} hz => by
        have lz : z.cps.toList.length = z.length := by simp [Str.length]
        have l1 : 1 ≤ z.length := by rw [hz, List.length_cons] at lz; omega
        have e : cutS z (some 1) none = ⟨(z.cps.toList.drop 1).toArray⟩ := cutS_drop z (n := 1) l1
        rw [e, hz]
        refine ⟨by simp, ?_⟩
        rw [hz, List.length_cons] at lz
        show (zs.toArray).size + 1 = _
        rw [List.size_toArray]
        exact lz
      refine ⟨_, rfl, rfl, _, rfl, ?_⟩
      rw [kind_one]
      cases hk : it.2 with
      | false =>
        refine iteT ⟨_, rfl, here, rfl, ?_⟩
        cases hz : z.cps.toList with
        | nil =>
          have e : here = false := by show (match z.cps.toList with | [] => false | c :: _ => decide (c ∈ it.1.cps.toList)) = _; rw [hz]
          rw [e]
          have ef : fitsL (toIs (it :: r)) z.cps.toList = false := by
            show fitsA it.1.cps.toList it.2 (fitsL (toIs r)) z.cps.toList = false
            rw [hz, hk]
            rfl
          have := k _ S1
          rw [ef] at this
          exact iteF this
        | cons c zs =>
          have e : here = decide (c ∈ it.1.cps.toList) := by show (match z.cps.toList with | [] => false | c :: _ => decide (c ∈ it.1.cps.toList)) = _; rw [hz]
          rw [e]
          have ef : fitsL (toIs (it :: r)) z.cps.toList = (decide (c ∈ it.1.cps.toList) && fitsL (toIs r) zs) := by
            show fitsA it.1.cps.toList it.2 (fitsL (toIs r)) z.cps.toList = _
            rw [hz, hk]
            rfl
          rw [ef] at k
          cases hc : decide (c ∈ it.1.cps.toList) with
          | false =>
            rw [hc] at k
            exact iteF (k _ S1)
          | true =>
            rw [hc, Bool.true_and] at k
            obtain ⟨t1, t2⟩ := tail hz
            refine iteT ⟨_, rfl, ⟨_, rfl, t, _, rfl, f0, notw, fun u nu => ?_⟩⟩
            have S2 := S1.trans (same_upd (o := .tup (cutV (V.ref q0 :: yr) (some 1) none)) nu)
            refine ⟨_, rfl, ⟨_, rfl, z, rfl, zl, u, yr, r, _, rfl, SqT.of (by rw [upd_same, ecut]), hir S2, by omega, by omega, fun H3 S3 => ?_⟩⟩
            rw [t1]
            exact k _ (S2.trans S3)
      | true =>
        refine iteF ⟨_, rfl, ⟨_, rfl, t, _, rfl, f0, notw, fun u nu => ?_⟩⟩
        have S2 := S1.trans (same_upd (o := .tup (cutV (V.ref q0 :: yr) (some 1) none)) nu)
        refine ⟨_, rfl, u, yr, r, z, rfl, SqT.of (by rw [upd_same, ecut]), hir S2, by omega, by omega, fun H3 S3 => ⟨_, rfl, ?_⟩⟩
        have S13 := S2.trans S3
        cases hz : z.cps.toList with
        | nil =>
          have e : here = false := by show (match z.cps.toList with | [] => false | c :: _ => decide (c ∈ it.1.cps.toList)) = _; rw [hz]
          have ef : fitsL (toIs (it :: r)) z.cps.toList = fitsL (toIs r) [] := by
            show fitsA it.1.cps.toList it.2 (fitsL (toIs r)) z.cps.toList = _
            rw [hz, hk]
            show (true && fitsL (toIs r) []) = _
            rw [Bool.true_and]
          rw [ef] at k
          cases h1 : fitsL (toIs r) [] with
          | true =>
            rw [h1] at k
            exact iteT (k _ S13)
          | false =>
            rw [h1] at k
            refine iteF ⟨_, rfl, here, rfl, ?_⟩
            rw [e]
            exact iteF (k _ S13)
        | cons c zs =>
          have e : here = decide (c ∈ it.1.cps.toList) := by show (match z.cps.toList with | [] => false | c :: _ => decide (c ∈ it.1.cps.toList)) = _; rw [hz]
          have ef : fitsL (toIs (it :: r)) z.cps.toList = (fitsL (toIs r) (c :: zs) || (decide (c ∈ it.1.cps.toList) && fitsL (toIs (it :: r)) zs)) := by
            show fitsA it.1.cps.toList it.2 (fitsL (toIs r)) z.cps.toList = (_ || (_ && fitsA it.1.cps.toList it.2 (fitsL (toIs r)) zs))
            rw [hz, hk]
            rfl
          rw [ef] at k
          cases h1 : fitsL (toIs r) (c :: zs) with
          | true =>
            rw [h1, Bool.true_or] at k
            exact iteT (k _ S13)
          | false =>
            rw [h1, Bool.false_or] at k
            refine iteF ⟨_, rfl, here, rfl, ?_⟩
            rw [e]
            cases hc : decide (c ∈ it.1.cps.toList) with
            | false =>
              rw [hc] at k
              exact iteF (k _ S13)
            | true =>
              rw [hc, Bool.true_and] at k
              obtain ⟨t1, t2⟩ := tail hz
              refine iteT ⟨_, rfl, _, rfl, ⟨_, rfl, z, rfl, zl, t, _, it :: r, _, rfl, sqT_same S13 ht, ⟨hl, fun i y it a b => itemAt_same S13 (hi i y it a b)⟩, by rw [List.length_cons]; omega, by omega, fun H4 S4 => ?_⟩⟩
              rw [t1]
              exact k _ (S13.trans S4)
theorem fit_all {fd : FuncData} (F : FnP K "_law_fits_in" s__law_fits_in (ga K "_law_fits_in") fd) (T : TP K mg) : ∀ n, FnOk P w K mg base CX0 n (ga K "_law_fits_in") fd ["_law_items", "_law_one"] (spFit K n)
  | 0 => ⟨fun vs H Q E h => by obtain ⟨_, _, _, _, _, _, _, h, _⟩ := h; exact absurd h (Nat.not_lt_zero _), fun A outer s H args us vs Q E _ _ _ _ h => by obtain ⟨_, _, _, _, _, _, _, h, _⟩ := h; exact absurd h (Nat.not_lt_zero _)⟩
  | n + 1 => fit_step F T (fit_all F T n)
end
end K0
-- FmNil
set_option maxRecDepth 100000
set_option maxHeartbeats 1000000
/-! a list compared with [] -/
namespace FM
open PySem PySem.Spec PyProof.Rows L2 PySem.SeqAt
section
variable {X : Cx}
def rNilL (K : PySem.W.Frag) (neg : Bool) : R2 := fun x y H Q => ∃ (p q : Addr) (xs : List V), x = .ref p ∧ y = .ref q ∧ SqL K H p xs ∧ SqL K H q [] ∧ Q (.bl (if neg = true then !xs.isEmpty else xs.isEmpty)) H
theorem op_eqNilL (hu : X.A.units + 64 < cLine) : OpR X (compareOp .Eq) (rNilL X.K false) := by
  intro pins s σ H x y v u Q I rx ry h
  obtain ⟨p, q, xs, rfl, rfl, h1, h2, k⟩ := h
  obtain rfl : v = .ref p := rx
  obtain rfl : u = .ref q := ry
  obtain ⟨us, v1, l1, _⟩ := I.list h1
  obtain ⟨vs, v2, l2, _⟩ := I.list h2
  have n2 : vs = [] := by cases v2; rfl
  subst n2
  have hb : RcAt X.A s (.ref p) (.ref q) xs.isEmpty := by
    cases v1 with
    | nil =>
      exact RcAt.lists (s := s) (e := fun _ => true) l1.isList l2.isList rfl (show X.A.units < cLine by omega) (fun j a b => absurd a (Nat.not_lt_zero _))
    | cons r rr =>
      exact RcAt.lists_lengths l1.isList l2.isList rfl (by omega)
  exact hb _ _ _ _ ⟨.bl _, H, I, rfl, k⟩
theorem op_neNilL (hu : X.A.units + 64 < cLine) : OpR X (compareOp .NotEq) (rNilL X.K true) := by
  intro pins s σ H x y v u Q I rx ry h
  obtain ⟨p, q, xs, rfl, rfl, h1, h2, k⟩ := h
  obtain rfl : v = .ref p := rx
  obtain rfl : u = .ref q := ry
  obtain ⟨us, v1, l1, _⟩ := I.list h1
  obtain ⟨vs, v2, l2, _⟩ := I.list h2
  have n2 : vs = [] := by cases v2; rfl
  subst n2
  have hb : RcNeAt X.A s (.ref p) (.ref q) (!xs.isEmpty) := by
    cases v1 with
    | nil =>
      exact RcNeAt.lists (s := s) (e := fun _ => true) l1.isList l2.isList rfl (show X.A.units < cLine by omega) (fun j a b => absurd a (Nat.not_lt_zero _))
    | cons r rr =>
      exact RcNeAt.lists_lengths l1.isList l2.isList rfl (by omega)
  exact hb _ _ _ _ ⟨.bl _, H, I, rfl, k⟩
end
end FM
-- K6In
set_option maxRecDepth 100000
set_option maxHeartbeats 1000000
namespace K0
open PySem L2 FM He
def begL (its : List (Str × Bool)) (whole : Bool) (t : List Nat) : Bool := if whole = true then fitsL (toIs its) t else (List.range (t.length + 1)).any fun n => fitsL (toIs its) (t.take n)
def endL (its : List (Str × Bool)) (whole : Bool) (t : List Nat) : Bool := if whole = true then fitsL (toIs its) t else (List.range (t.length + 1)).any fun n => fitsL (toIs its) (t.drop n)
def spIn (K : PySem.W.Frag) (R : Judge) : Sp := fun vs H Q _ => ∃ (v : V) (its : List (Str × Bool)) (whole : Bool) (z : Str), vs = [v, .str z] ∧ PatAt K H v its whole ∧ its.length ≤ 3 ∧ z.length ≤ 20 ∧ ∀ H', Same H H' → Q (.bl (R its whole z.cps.toList)) H'
section
variable {P : Program} {w : World} {K : PySem.W.Frag} {mg : Str → Option Value} {base : Heap}
theorem cutS_take (x : Str) {n : Nat} (h : n ≤ x.length) : cutS x none (some (n : Int)) = ⟨(x.cps.toList.take n).toArray⟩ := by
  have lx : x.cps.toList.length = x.length := by simp [Str.length]
  show (⟨((x.cps.toList.drop (HT.sIx x.length 0 none)).take (HT.sIx x.length x.length (some (n : Int)) - HT.sIx x.length 0 none)).toArray⟩ : Str) = _
  have e1 : HT.sIx x.length 0 none = 0 := rfl
  have e2 : HT.sIx x.length x.length (some (n : Int)) = n := by
    rw [HT.sIx_nat]
    omega
  rw [e1, e2, Nat.sub_zero, List.drop_zero]
theorem filter_any (f : Nat → Bool) (n : Nat) : (!((List.range n).filter f).isEmpty) = (List.range n).any f := by
  rw [Bool.eq_iff_iff, List.any_eq_true]
  simp only [Bool.not_eq_true', List.isEmpty_eq_false_iff_exists_mem, List.mem_filter]
theorem ok_law_begins_in {f : Addr} {fd : FuncData} (F : FnP K "_law_begins_in" s__law_begins_in f fd) (T : TP K mg) : FnOk P w K mg base CX0 31 f fd ["_law_pattern", "_law_one"] (spIn K begL) := by
  obtain ⟨d__law_fits_in, F__law_fits_in⟩ := T.f__law_fits_in
  have G__law_fits_in := fit_all (P := P) (w := w) (base := base) F__law_fits_in T 30
  have b__law_fits_in : Binds K d__law_fits_in ["_law_items", "_law_one"] [] := F__law_fits_in.bindsN fun _ _ _ _ _ _ us hl => match us, hl with | [_, _], _ => rfl
  refine F.ok sc__law_begins_in (fun vs H Q E h => ?_) (fun cdv A outer s H vs Q E hr h => ?_)
  · obtain ⟨v, its, whole, z, rfl, _⟩ := h
    rfl
  · obtain ⟨v, its, whole, z, rfl, ⟨p, t, ys, rfl, hp, ht, hi⟩, h3, h20, k⟩ := h
    have nd := sc__law_begins_in.nd
    have hu64 := hr.units
    have at0 : atI ([V.ref t, V.bl whole] : List V) 0 = some (.ref t) := rfl
    have at1 : atI ([V.ref t, V.bl whole] : List V) 1 = some (.bl whole) := rfl
    have zl : z.length ≤ sizeLine := by rw [sizeLine_eq]; omega
    refine ⟨_, PSs.nox (pss_cons (ps_if (pt_val (pe_ix ix_seq (pv 0) pe_int (fun _ _ => rfl))) (pss_one (ps_ret (pe_call G__law_fits_in (hr.mono (by decide)) rfl T.g__law_fits_in F__law_fits_in.kp b__law_fits_in .nil pass0 (pa_cons (pe_ix ix_seq (pv 0) pe_int (fun _ _ => rfl)) (pa_cons (pv 1) pa_nil))))) pss_nil)
      (pss_one (ps_ret (pe_cmpR (op_neNilL hu64) (pe_lc (own := [("_law_size", 2)]) rfl nd (pi_range1 (by rfl) T.b_range (pa_cons (pe_op op_add (pe_callB call_len (by rfl) T.b_len (by decide +kernel) (pa_cons (pv 1) pa_nil)) pe_int) pa_nil)) (blkOk_by (own := [("_law_size", 2)]) (N := ["_law_pattern", "_law_one", "_law_size"]) (sc := defScope s__law_begins_in) (by decide +kernel)) (fun _ _ _ _ _ => (pg_name (i := 2) nd rfl (.inl rfl))) (fun _ _ _ _ _ => pts_one (pt_val (pe_call G__law_fits_in (hr.mono (by decide)) rfl T.g__law_fits_in F__law_fits_in.kp b__law_fits_in .nil pass0 (pa_cons (pe_ix (ix_seq : IxR _ (rIx K)) (pv 0) pe_int (fun _ _ => rfl)) (pa_cons (pe_slice sl_str (pv 1) po_none (po_some (pv 2))) pa_nil))))) (fun _ _ _ _ _ => (pv 2))) (pe_lst pa_nil) (nomark _))))), ?_⟩
    refine ⟨_, rfl, .inr (.inl ⟨p, _, 1, _, rfl, rfl, hp, at1, whole, rfl, ?_⟩)⟩
    cases whole with
    | true => exact iteT ⟨_, rfl, .inr (.inl ⟨p, _, 0, _, rfl, rfl, hp, at0, _, rfl, t, ys, its, z, rfl, ht, hi, by omega, by decide, fun H' S => k H' S⟩)⟩
    | false =>
      refine iteF ?_
      refine ⟨_, rfl, _, z.length, rfl, ⟨zl, rfl⟩, _, _, rfl, rfl, z.length + 1, rfl, by omega, by omega, fun D nD => ?_⟩
      let ff : Nat → Bool := fun n => fitsL (toIs its) (z.cps.toList.take n)
      refine lc_range (lo := 0) (n := z.length + 1) (fun i H' => Same H H' ∧ H' D = some (.lst (((List.range i).filter ff).map fun n => V.int (n : Nat)))) ⟨same_upd nD, upd_same⟩ (fun i H' hi' q => ?_) (fun H' q => ?_)
      · obtain ⟨S, hD⟩ := q
        have e0 : (0 : Int) + ((i : Nat) : Int) = ((i : Nat) : Int) := Int.zero_add _
        rw [e0]
        refine ⟨rfl, _, rfl, .inr (.inl ⟨p, _, 0, _, rfl, rfl, sqT_same S hp, at0, _, rfl, _, rfl, _, rfl, z, rfl, zl, ?_⟩)⟩
        have ec : cutS z none (some ((i : Nat) : Int)) = ⟨(z.cps.toList.take i).toArray⟩ := cutS_take z (by omega)
        have lz : z.cps.toList.length = z.length := by simp [Str.length]
        have el : (cutS z none (some ((i : Nat) : Int))).length ≤ 20 := Nat.le_trans (cutS_length _ _ _) h20
        have ecl : (cutS z none (some ((i : Nat) : Int))).cps.toList = z.cps.toList.take i := by rw [ec]
        refine ⟨t, ys, its, _, rfl, sqT_same S ht, itsAt_same S hi, by omega, by decide, fun H2 S2 => ?_⟩
        rw [ecl]
        have er : (List.range (i + 1)).filter ff = (List.range i).filter ff ++ (if ff i = true then [i] else []) := by
          rw [List.range_succ, List.filter_append]
          cases h : ff i <;> simp [h]
        have fe : fitsL (toIs its) (z.cps.toList.take i) = ff i := rfl
        rw [fe]
        have cnt : ((List.range i).filter ff).length ≤ i := by have := List.length_filter_le ff (List.range i); simpa using this
        refine ⟨_, rfl, ?_⟩
        cases h : ff i with
        | true =>
          rw [h, if_pos rfl] at er
          refine iteT ⟨_, rfl, _, S2 _ _ hD, by rw [List.length_map, sizeLine_eq]; omega, fun c o hc => ?_, ?_⟩
          · rw [upd_ne (ne_of_none hc nD)]
            exact S2 _ _ (S _ _ hc)
          · rw [upd_same, er, List.map_append]
            rfl
        | false =>
          rw [h, if_neg Bool.false_ne_true, List.append_nil] at er
          exact iteF ⟨S.trans S2, by rw [er]; exact S2 _ _ hD⟩
      · obtain ⟨S, hD⟩ := q
        refine ⟨by show 0 ≤ sizeLine; rw [sizeLine_eq]; decide, fun q nq => ?_⟩
        have S2 := same_upd (o := .lst []) nq
        refine ⟨D, q, _, rfl, rfl, SqL.of (S2 _ _ hD), SqL.of upd_same, ?_⟩
        have lz : z.cps.toList.length = z.length := by simp [Str.length]
        have e : (!(((List.range (z.length + 1)).filter ff).map fun n => V.int (n : Nat)).isEmpty) = begL its false z.cps.toList := by
          rw [List.isEmpty_map, filter_any]
          show _ = (List.range (z.cps.toList.length + 1)).any _
          rw [lz]
        rw [if_pos rfl, e]
        exact k _ (S.trans S2)
theorem ok_law_ends_in {f : Addr} {fd : FuncData} (F : FnP K "_law_ends_in" s__law_ends_in f fd) (T : TP K mg) : FnOk P w K mg base CX0 31 f fd ["_law_pattern", "_law_one"] (spIn K endL) := by
  obtain ⟨d__law_fits_in, F__law_fits_in⟩ := T.f__law_fits_in
  have G__law_fits_in := fit_all (P := P) (w := w) (base := base) F__law_fits_in T 30
  have b__law_fits_in : Binds K d__law_fits_in ["_law_items", "_law_one"] [] := F__law_fits_in.bindsN fun _ _ _ _ _ _ us hl => match us, hl with | [_, _], _ => rfl
  refine F.ok sc__law_ends_in (fun vs H Q E h => ?_) (fun cdv A outer s H vs Q E hr h => ?_)
  · obtain ⟨v, its, whole, z, rfl, _⟩ := h
    rfl
  · obtain ⟨v, its, whole, z, rfl, ⟨p, t, ys, rfl, hp, ht, hi⟩, h3, h20, k⟩ := h
    have nd := sc__law_ends_in.nd
    have hu64 := hr.units
    have at0 : atI ([V.ref t, V.bl whole] : List V) 0 = some (.ref t) := rfl
    have at1 : atI ([V.ref t, V.bl whole] : List V) 1 = some (.bl whole) := rfl
    have zl : z.length ≤ sizeLine := by rw [sizeLine_eq]; omega
    refine ⟨_, PSs.nox (pss_cons (ps_if (pt_val (pe_ix ix_seq (pv 0) pe_int (fun _ _ => rfl))) (pss_one (ps_ret (pe_call G__law_fits_in (hr.mono (by decide)) rfl T.g__law_fits_in F__law_fits_in.kp b__law_fits_in .nil pass0 (pa_cons (pe_ix ix_seq (pv 0) pe_int (fun _ _ => rfl)) (pa_cons (pv 1) pa_nil))))) pss_nil)
      (pss_one (ps_ret (pe_cmpR (op_neNilL hu64) (pe_lc (own := [("_law_size", 2)]) rfl nd (pi_range1 (by rfl) T.b_range (pa_cons (pe_op op_add (pe_callB call_len (by rfl) T.b_len (by decide +kernel) (pa_cons (pv 1) pa_nil)) pe_int) pa_nil)) (blkOk_by (own := [("_law_size", 2)]) (N := ["_law_pattern", "_law_one", "_law_size"]) (sc := defScope s__law_ends_in) (by decide +kernel)) (fun _ _ _ _ _ => (pg_name (i := 2) nd rfl (.inl rfl))) (fun _ _ _ _ _ => pts_one (pt_val (pe_call G__law_fits_in (hr.mono (by decide)) rfl T.g__law_fits_in F__law_fits_in.kp b__law_fits_in .nil pass0 (pa_cons (pe_ix (ix_seq : IxR _ (rIx K)) (pv 0) pe_int (fun _ _ => rfl)) (pa_cons (pe_slice sl_str (pv 1) (po_some (pv 2)) po_none) pa_nil))))) (fun _ _ _ _ _ => (pv 2))) (pe_lst pa_nil) (nomark _))))), ?_⟩
    refine ⟨_, rfl, .inr (.inl ⟨p, _, 1, _, rfl, rfl, hp, at1, whole, rfl, ?_⟩)⟩
    cases whole with
    | true => exact iteT ⟨_, rfl, .inr (.inl ⟨p, _, 0, _, rfl, rfl, hp, at0, _, rfl, t, ys, its, z, rfl, ht, hi, by omega, by decide, fun H' S => k H' S⟩)⟩
    | false =>
      refine iteF ?_
      refine ⟨_, rfl, _, z.length, rfl, ⟨zl, rfl⟩, _, _, rfl, rfl, z.length + 1, rfl, by omega, by omega, fun D nD => ?_⟩
      let ff : Nat → Bool := fun n => fitsL (toIs its) (z.cps.toList.drop n)
      refine lc_range (lo := 0) (n := z.length + 1) (fun i H' => Same H H' ∧ H' D = some (.lst (((List.range i).filter ff).map fun n => V.int (n : Nat)))) ⟨same_upd nD, upd_same⟩ (fun i H' hi' q => ?_) (fun H' q => ?_)
      · obtain ⟨S, hD⟩ := q
        have e0 : (0 : Int) + ((i : Nat) : Int) = ((i : Nat) : Int) := Int.zero_add _
        rw [e0]
        refine ⟨rfl, _, rfl, .inr (.inl ⟨p, _, 0, _, rfl, rfl, sqT_same S hp, at0, _, rfl, _, rfl, _, rfl, z, rfl, zl, ?_⟩)⟩
        have ec : cutS z (some ((i : Nat) : Int)) none = ⟨(z.cps.toList.drop i).toArray⟩ := cutS_drop z (by omega)
        have lz : z.cps.toList.length = z.length := by simp [Str.length]
        have el : (cutS z (some ((i : Nat) : Int)) none).length ≤ 20 := Nat.le_trans (cutS_length _ _ _) h20
        have ecl : (cutS z (some ((i : Nat) : Int)) none).cps.toList = z.cps.toList.drop i := by rw [ec]
        refine ⟨t, ys, its, _, rfl, sqT_same S ht, itsAt_same S hi, by omega, by decide, fun H2 S2 => ?_⟩
        rw [ecl]
        have er : (List.range (i + 1)).filter ff = (List.range i).filter ff ++ (if ff i = true then [i] else []) := by
          rw [List.range_succ, List.filter_append]
          cases h : ff i <;> simp [h]
        have fe : fitsL (toIs its) (z.cps.toList.drop i) = ff i := rfl
        rw [fe]
        have cnt : ((List.range i).filter ff).length ≤ i := by have := List.length_filter_le ff (List.range i); simpa using this
        refine ⟨_, rfl, ?_⟩
        cases h : ff i with
        | true =>
          rw [h, if_pos rfl] at er
          refine iteT ⟨_, rfl, _, S2 _ _ hD, by rw [List.length_map, sizeLine_eq]; omega, fun c o hc => ?_, ?_⟩
          · rw [upd_ne (ne_of_none hc nD)]
            exact S2 _ _ (S _ _ hc)
          · rw [upd_same, er, List.map_append]
            rfl
        | false =>
          rw [h, if_neg Bool.false_ne_true, List.append_nil] at er
          exact iteF ⟨S.trans S2, by rw [er]; exact S2 _ _ hD⟩
      · obtain ⟨S, hD⟩ := q
        refine ⟨by show 0 ≤ sizeLine; rw [sizeLine_eq]; decide, fun q nq => ?_⟩
        have S2 := same_upd (o := .lst []) nq
        refine ⟨D, q, _, rfl, rfl, SqL.of (S2 _ _ hD), SqL.of upd_same, ?_⟩
        have lz : z.cps.toList.length = z.length := by simp [Str.length]
        have e : (!(((List.range (z.length + 1)).filter ff).map fun n => V.int (n : Nat)).isEmpty) = endL its false z.cps.toList := by
          rw [List.isEmpty_map, filter_any]
          show _ = (List.range (z.cps.toList.length + 1)).any _
          rw [lz]
        rw [if_pos rfl, e]
        exact k _ (S.trans S2)
end
end K0
-- K6Jud
set_option maxRecDepth 100000
set_option maxHeartbeats 1000000
namespace FM
open PySem L2
theorem passN {X : Cx} : Passes (L2.CX X.prog X.w) X (fun _ _ _ => False) := fun _ _ _ _ _ _ _ c => by
  obtain ⟨_, _, _, _, _, _, _, _, _, _, _, _, h⟩ := c
  exact h.elim
end FM
namespace K0
open PySem L2 FM He
theorem bool_eq {a b : Bool} (h : a = true ↔ b = true) : a = b := by rw [Bool.eq_iff_iff]; exact h
theorem len_toIs (its : List (Str × Bool)) : (toIs its).length = its.length := List.length_map ..
theorem end_whole (I : List Item) (t : List Nat) : EndsJ I true t I.length ↔ Fits I t := by
  unfold EndsJ
  rw [List.take_length]
  constructor
  · rintro ⟨pre, s, rfl, h, q⟩
    rw [h rfl]
    exact q
  · exact fun h => ⟨[], t, rfl, fun _ => rfl, h⟩
theorem end_part (I : List Item) (t : List Nat) : EndsJ I false t I.length ↔ ∃ n, n ≤ t.length ∧ Fits I (t.drop n) := by
  unfold EndsJ
  rw [List.take_length]
  constructor
  · rintro ⟨pre, s, rfl, _, q⟩
    exact ⟨pre.length, by rw [List.length_append]; omega, by rw [List.drop_left]; exact q⟩
  · rintro ⟨n, _, q⟩
    exact ⟨t.take n, t.drop n, (List.take_append_drop n t).symm, fun e => (by cases e), q⟩
theorem fitR_eq (its : List (Str × Bool)) (whole : Bool) (t : List Nat) : fitR its whole t = fitsL (toIs its) t := by
  refine bool_eq ?_
  unfold fitR
  rw [← len_toIs its, ends_all _ _ _ _ (Nat.le_refl _), end_whole, fitsL_iff]
theorem endR_eq (its : List (Str × Bool)) (whole : Bool) (t : List Nat) : endR its whole t = endL its whole t := by
  refine bool_eq ?_
  unfold endR endL
  rw [← len_toIs its, ends_all _ _ _ _ (Nat.le_refl _)]
  cases whole with
  | true => rw [if_pos rfl, end_whole, fitsL_iff]
  | false =>
    rw [if_neg Bool.false_ne_true, end_part, List.any_eq_true]
    constructor
    · rintro ⟨n, h, q⟩
      exact ⟨n, List.mem_range.mpr (by omega), (fitsL_iff _ _).mpr q⟩
    · rintro ⟨n, h, q⟩
      exact ⟨n, by have := List.mem_range.mp h; omega, (fitsL_iff _ _).mp q⟩
theorem begR_eq (its : List (Str × Bool)) (whole : Bool) (t : List Nat) : begR its whole t = begL its whole t := by
  refine bool_eq ?_
  unfold begR begL
  have e : toIs its.reverse = (toIs its).reverse := List.map_reverse
  have el : its.length = ((toIs its).reverse).length := by rw [List.length_reverse, len_toIs]
  rw [e, el, ends_all _ _ _ _ (Nat.le_refl _)]
  cases whole with
  | true => rw [if_pos rfl, end_whole, fits_rev_iff, List.reverse_reverse, fitsL_iff]
  | false =>
    rw [if_neg Bool.false_ne_true, end_part, List.any_eq_true]
    constructor
    · rintro ⟨n, h, q⟩
      rw [fits_rev_iff, List.reverse_drop, List.reverse_reverse] at q
      rw [List.length_reverse] at q
      exact ⟨t.length - n, List.mem_range.mpr (by omega), (fitsL_iff _ _).mpr q⟩
    · rintro ⟨n, h, q⟩
      have hn := List.mem_range.mp h
      refine ⟨t.length - n, by rw [List.length_reverse]; omega, ?_⟩
      rw [fits_rev_iff, List.reverse_drop, List.reverse_reverse, List.length_reverse]
      have : t.length - (t.length - n) = n := by omega
      rw [this]
      exact (fitsL_iff _ _).mp q
theorem pat_true {K : PySem.W.Frag} {H : Hp} {p : Addr} {its : List (Str × Bool)} {whole : Bool} (h : DrawnPat H p its whole) : PatV K H (.ref p) true := by
  obtain ⟨t, vs, h1, h2, ⟨g, hl, hi⟩, h3⟩ := h
  refine .inr (.inr ⟨p, _, _, rfl, SqT.of h1, .inr ⟨t, vs, rfl, SqT.of h2, by omega, .inr ⟨whole, rfl, .inr ⟨by omega, List.replicate vs.length true, List.length_replicate, fun i y c hy hc => ?_, ?_⟩⟩⟩⟩)
  · have lt := (List.getElem?_eq_some_iff.mp hy).1
    have ec : c = true := by
      obtain ⟨_, e⟩ := List.getElem?_eq_some_iff.mp hc
      rw [List.getElem_replicate] at e
      exact e.symm
    subst ec
    have hit : its[i]? = some its[i] := List.getElem?_eq_getElem (by omega)
    obtain ⟨q, rfl, hq⟩ := hi i y _ hy hit
    obtain ⟨g1, g2⟩ := g _ (List.getElem_mem (by omega : i < its.length))
    obtain ⟨l1, l2, l3⟩ := sub_ok g2
    refine .inr (.inr ⟨q, _, _, rfl, SqT.of hq, .inr ⟨_, rfl, l1, by omega, .inr ⟨g1, l2, .inl ⟨_, rfl, ?_⟩⟩⟩⟩)
    unfold kindS
    cases (its[i]).2 <;> decide
  · rw [List.all_replicate]
    cases vs with
    | nil => rfl
    | cons a b => simp
def spJud (K : PySem.W.Frag) : List V → Hp → VK → Prop := fun vs H Q => ∃ (p : Addr) (its : List (Str × Bool)) (whole : Bool) (z : Str), vs = [.ref p, .str z] ∧ DrawnPat H p its whole ∧ isWord z = true ∧ z.length ≤ 20 ∧ ∀ H', Same H H' → Q (.bl true) H'
section
variable {P : Program} {w : World} {K : PySem.W.Frag} {mg : Str → Option Value} {base : Heap}
theorem ok_law_judged_right {f : Addr} {fd : FuncData} (F : FnP K "_law_judged_right" s__law_judged_right f fd) (T : TP K mg) (hsm : ∃ o, base.get? sysModules = some o) : FnG P w K mg base 32 f fd ["_law_pattern", "_law_one"] (spJud K) := by
  obtain ⟨d_fits, F_fits⟩ := T.f_fits
  have G_fits := ok_fits (P := P) (w := w) (base := base) F_fits T
  have b_fits : Binds K d_fits ["pattern", "text"] [] := F_fits.bindsN fun _ _ _ _ _ _ us hl => match us, hl with | [_, _], _ => rfl
  obtain ⟨d_begins_with, F_begins_with⟩ := T.f_begins_with
  have G_begins_with := ok_begins_with (P := P) (w := w) (base := base) F_begins_with T
  have b_begins_with : Binds K d_begins_with ["pattern", "text"] [] := F_begins_with.bindsN fun _ _ _ _ _ _ us hl => match us, hl with | [_, _], _ => rfl
  obtain ⟨d_ends_with, F_ends_with⟩ := T.f_ends_with
  have G_ends_with := ok_ends_with (P := P) (w := w) (base := base) F_ends_with T
  have b_ends_with : Binds K d_ends_with ["pattern", "text"] [] := F_ends_with.bindsN fun _ _ _ _ _ _ us hl => match us, hl with | [_, _], _ => rfl
  obtain ⟨d__law_fits_in, F__law_fits_in⟩ := T.f__law_fits_in
  have G__law_fits_in := fit_all (P := P) (w := w) (base := base) F__law_fits_in T 30
  have b__law_fits_in : Binds K d__law_fits_in ["_law_items", "_law_one"] [] := F__law_fits_in.bindsN fun _ _ _ _ _ _ us hl => match us, hl with | [_, _], _ => rfl
  obtain ⟨d__law_begins_in, F__law_begins_in⟩ := T.f__law_begins_in
  have G__law_begins_in := ok_law_begins_in (P := P) (w := w) (base := base) F__law_begins_in T
  have b__law_begins_in : Binds K d__law_begins_in ["_law_pattern", "_law_one"] [] := F__law_begins_in.bindsN fun _ _ _ _ _ _ us hl => match us, hl with | [_, _], _ => rfl
  obtain ⟨d__law_ends_in, F__law_ends_in⟩ := T.f__law_ends_in
  have G__law_ends_in := ok_law_ends_in (P := P) (w := w) (base := base) F__law_ends_in T
  have b__law_ends_in : Binds K d__law_ends_in ["_law_pattern", "_law_one"] [] := F__law_ends_in.bindsN fun _ _ _ _ _ _ us hl => match us, hl with | [_, _], _ => rfl
  refine FnG.of F sc__law_judged_right (fun vs H Q h => ?_) (fun cdv A outer s H vs Q hcd hg hr h => ?_)
  · obtain ⟨p, its, whole, z, rfl, _⟩ := h
    rfl
  · obtain ⟨p, its, whole, z, rfl, hp, hw, hz, k⟩ := h
    have nd := sc__law_judged_right.nd
    have hu20 : (A.deeper (PyProof.Rows.envOfC "_law_judged_right" (defScope s__law_judged_right) s.heap.objs.size f cdv)).units + 20 < cLine := by
      have := hr.un
      omega
    refine ⟨_, PSs.nox (pss_cons (ps_set (i := 2) nd rfl (.inl rfl) (pe_lst (pa_cons (pe_call G_fits (hr.mono (by decide)) rfl T.g_fits F_fits.kp b_fits .nil passN (pa_cons (pv 0) (pa_cons (pv 1) pa_nil))) (pa_cons (pe_call G_begins_with (hr.mono (by decide)) rfl T.g_begins_with F_begins_with.kp b_begins_with .nil passN (pa_cons (pv 0) (pa_cons (pv 1) pa_nil))) (pa_cons (pe_call G_ends_with (hr.mono (by decide)) rfl T.g_ends_with F_ends_with.kp b_ends_with .nil passN (pa_cons (pv 0) (pa_cons (pv 1) pa_nil))) pa_nil)))))
      (pss_cons (ps_set (i := 3) nd rfl (.inl rfl) (pe_lst (pa_cons (pe_call G__law_fits_in (hr.mono (by decide)) rfl T.g__law_fits_in F__law_fits_in.kp b__law_fits_in .nil pass0 (pa_cons (pe_ix ix_seq (pv 0) pe_int (fun _ _ => rfl)) (pa_cons (pv 1) pa_nil))) (pa_cons (pe_call G__law_begins_in (hr.mono (by decide)) rfl T.g__law_begins_in F__law_begins_in.kp b__law_begins_in .nil pass0 (pa_cons (pv 0) (pa_cons (pv 1) pa_nil))) (pa_cons (pe_call G__law_ends_in (hr.mono (by decide)) rfl T.g__law_ends_in F__law_ends_in.kp b__law_ends_in .nil pass0 (pa_cons (pv 0) (pa_cons (pv 1) pa_nil))) pa_nil)))))
      (pss_one (ps_ret (pe_cmpR op_eq (pe_callB (call_reprAny hg hu20 hsm) (by rfl) T.b_repr (by decide +kernel) (pa_cons (pv 2) pa_nil)) (pe_callB (call_reprAny hg hu20 hsm) (by rfl) T.b_repr (by decide +kernel) (pa_cons (pv 3) pa_nil)) (nomark _)))))), ?_⟩
    have i3 : its.length ≤ 3 := let ⟨_, _, _, _, _, h⟩ := hp; h
    have px : ∀ {H1 : Hp}, Same H H1 → PatV K H1 (.ref p) true := fun S => pat_true (hp.far (TK.same S))
    have pat : ∀ {H5 : Hp}, Same H H5 → PatAt K H5 (.ref p) its whole := fun S => (hp.far (TK.same S)).at
    have tx : ∀ {H1 : Hp}, TextV K H1 (.str z) true := .inl ⟨z, rfl, by rw [sizeLine_eq]; omega, by rw [hw, decide_eq_true (by omega : z.length ≤ 60)]; rfl⟩
    refine ⟨_, rfl, _, rfl, ?_⟩
    refine ⟨_, _, true, true, rfl, px (Same.refl H), tx, fun e => (by cases e), fun _ e => (by cases e), fun _ _ => ⟨its, whole, z, pat (Same.refl H), by omega, rfl, by omega, fun H1 S1 => ?_⟩⟩
    refine ⟨_, rfl, _, rfl, ?_⟩
    refine ⟨_, _, true, true, rfl, px S1, tx, fun e => (by cases e), fun _ e => (by cases e), fun _ _ => ⟨its, whole, z, pat S1, by omega, rfl, by omega, fun H2 S2' => ?_⟩⟩
    have S2 := S1.trans S2'
    refine ⟨_, rfl, _, rfl, ?_⟩
    refine ⟨_, _, true, true, rfl, px S2, tx, fun e => (by cases e), fun _ e => (by cases e), fun _ _ => ⟨its, whole, z, pat S2, by omega, rfl, by omega, fun H3 S3' => ?_⟩⟩
    have S3 := S2.trans S3'
    rw [fitR_eq, begR_eq, endR_eq]
    refine ⟨by show 3 ≤ sizeLine; rw [sizeLine_eq]; decide, fun d nd' => ?_⟩
    have S4 := S3.trans (same_upd (o := .lst [V.bl (fitsL (toIs its) z.cps.toList), V.bl (begL its whole z.cps.toList), V.bl (endL its whole z.cps.toList)]) nd')
    have hp4 := hp.far (TK.same S4)
    obtain ⟨t, ys, h1, h2, h3, h4⟩ := hp4
    have at0 : atI ([V.ref t, V.bl whole] : List V) 0 = some (.ref t) := rfl
    have tt := SqT.of (K := K) h2
    refine ⟨_, rfl, .inr (.inl ⟨p, _, 0, _, rfl, rfl, SqT.of h1, at0, _, rfl, t, ys, its, z, rfl, SqT.of h2, h3.at, by omega, by decide, fun H5 S5' => ?_⟩)⟩
    have S5 := S4.trans S5'
    refine ⟨_, rfl, _, rfl, _, its, whole, z, rfl, pat S5, i3, hz, fun H6 S6' => ?_⟩
    have S6 := S5.trans S6'
    refine ⟨_, rfl, _, rfl, _, its, whole, z, rfl, pat S6, i3, hz, fun H7 S7' => ?_⟩
    have S7 := S6.trans S7'
    refine ⟨by show 3 ≤ sizeLine; rw [sizeLine_eq]; decide, fun e ne => ?_⟩
    have hd8 : (upd H7 e (.lst [V.bl (fitsL (toIs its) z.cps.toList), V.bl (begL its whole z.cps.toList), V.bl (endL its whole z.cps.toList)])) d = some (.lst [V.bl (fitsL (toIs its) z.cps.toList), V.bl (begL its whole z.cps.toList), V.bl (endL its whole z.cps.toList)]) :=
      (((S5'.trans S6').trans S7').trans (same_upd ne)) _ _ upd_same
    have S8 := S7.trans (same_upd (o := .lst [V.bl (fitsL (toIs its) z.cps.toList), V.bl (begL its whole z.cps.toList), V.bl (endL its whole z.cps.toList)]) ne)
    have dv : ∀ {H9 : Hp} {q : Addr} {a b c : Bool}, H9 q = some (.lst [V.bl a, V.bl b, V.bl c]) → DV H9 (.ref q) (.list [.bool a, .bool b, .bool c]) (q :: []) := fun h => .lst h (.cons (as := []) (.bl _) (.cons (as := []) (.bl _) (.cons (as := []) (.bl _) .nil)))
    have sh : ∀ a b c : Bool, (PyData.list [.bool a, .bool b, .bool c]).showable = true ∧ (PyData.list [.bool a, .bool b, .bool c]).depth ≤ 10 ∧ (PyData.list [.bool a, .bool b, .bool c]).shown.length ≤ 1000 := fun a b c => by
      cases a <;> cases b <;> cases c <;> exact ⟨by decide +kernel, by decide +kernel, by decide +kernel⟩
    obtain ⟨q1, q2, q3⟩ := sh (fitsL (toIs its) z.cps.toList) (begL its whole z.cps.toList) (endL its whole z.cps.toList)
    refine ⟨_, rfl, _, _, _, rfl, dv hd8, q1, q2, by rw [sizeLine_eq]; omega, ?_⟩
    refine ⟨_, rfl, _, _, _, rfl, dv upd_same, q1, q2, by rw [sizeLine_eq]; omega, ?_⟩
    refine ⟨rfl, ?_⟩
    rw [decide_eq_true rfl]
    exact k _ S8
end
end K0
-- K6Near
set_option maxRecDepth 100000
set_option maxHeartbeats 1000000
namespace K0
open PySem L2 FM He
theorem word_of {z : Str} (h : ∀ c ∈ z.cps.toList, alpha.cps.contains c = true) : isWord z = true := by
  unfold isWord
  rw [decide_eq_true_iff]
  unfold Txt.stripChars
  rw [PyProof.Rows.stripBy_eq]
  have e1 : z.cps.toList.takeWhile alpha.cps.contains = z.cps.toList := by
    generalize z.cps.toList = l at h
    induction l with
    | nil => rfl
    | cons c r ih => rw [List.takeWhile_cons, h c List.mem_cons_self, if_pos rfl, ih fun d hd => h d (List.mem_cons_of_mem _ hd)]
  have e2 : stripLo alpha.cps.contains true z = z.cps.size := by
    show (if true = true then (z.cps.toList.takeWhile alpha.cps.contains).length else 0) = _
    rw [if_pos rfl, e1, Array.length_toList]
  rw [e2]
  show (⟨z.cps.extract z.cps.size _⟩ : Str) = ""
  have e3 : ∀ j, z.cps.extract z.cps.size j = #[] := fun j => by simp
  rw [e3]
  rfl
/-- a word of the letters that are drawn, at most so long -/
def Abc (m : Nat) (z : Str) : Prop := z.length ≤ m ∧ ∀ c ∈ z.cps.toList, c ∈ abcz
theorem Abc.word {m : Nat} {z : Str} (h : Abc m z) : isWord z = true := word_of fun c hc => by
  have m := h.2 c hc
  simp only [List.mem_cons, List.not_mem_nil, or_false] at m
  rcases m with rfl | rfl | rfl | rfl <;> decide +kernel
theorem Abc.mono {m n : Nat} {z : Str} (h : Abc m z) (l : m ≤ n) : Abc n z := ⟨Nat.le_trans h.1 l, h.2⟩
theorem app_cps (x y : Str) : (x ++ y).cps.toList = x.cps.toList ++ y.cps.toList := by
  show (x.cps ++ y.cps).toList = _
  simp
theorem Abc.app {m n : Nat} {x y : Str} (hx : Abc m x) (hy : Abc n y) : Abc (m + n) (x ++ y) := by
  refine ⟨by rw [PySem.Str.length_append]; have := hx.1; have := hy.1; omega, fun c hc => ?_⟩
  rw [app_cps] at hc
  rcases List.mem_append.mp hc with h | h
  · exact hx.2 c h
  · exact hy.2 c h
theorem Abc.cut {m : Nat} {z : Str} {lo hi : Option Int} (h : Abc m z) : Abc m (cutS z lo hi) := by
  refine ⟨Nat.le_trans (cutS_length _ _ _) h.1, fun c hc => ?_⟩
  have e : (cutS z lo hi).cps.toList = (z.cps.toList.drop (HT.sIx z.length 0 lo)).take (HT.sIx z.length z.length hi - HT.sIx z.length 0 lo) := by
    show (((z.cps.toList.drop (HT.sIx z.length 0 lo)).take (HT.sIx z.length z.length hi - HT.sIx z.length 0 lo)).toArray).toList = _
    simp
  rw [e] at hc
  exact h.2 c (List.mem_of_mem_drop (List.mem_of_mem_take hc))
theorem Abc.rep {z : Str} {n : Nat} (h : Abc 1 z) : Abc n (repS z n) := by
  refine ⟨?_, fun c hc => ?_⟩
  · rw [repS_length]
    calc n * z.length ≤ n * 1 := Nat.mul_le_mul_left n h.1
      _ = n := Nat.mul_one n
  · rw [repS_cps] at hc
    obtain ⟨l, hl, hc⟩ := List.mem_flatten.mp hc
    rw [List.eq_of_mem_replicate hl] at hc
    exact h.2 c hc
theorem Abc.over {z : Str} {m : Nat} (h : Over "abc" m z) : Abc m z := ⟨h.1, fun c hc => by
  have e : ("abc" : Str).cps.toList = [97, 98, 99] := by decide +kernel
  have m := h.2 c hc
  rw [e] at m
  simp only [List.mem_cons, List.not_mem_nil, or_false] at m
  rcases m with rfl | rfl | rfl <;> decide⟩
theorem Abc.sz {m : Nat} {z : Str} (h : Abc m z) (l : m ≤ 1000) : z.length ≤ sizeLine := by rw [sizeLine_eq]; have := h.1; omega
def spNear : Sp := fun vs H Q _ => ∃ (b p : Addr) (its : List (Str × Bool)) (whole : Bool), vs = [.ref b, .ref p] ∧ BagAt b H ∧ DrawnPat H p its whole ∧ ∀ z H', Keep (J b) H H' → BagAt b H' → Abc 10 z → Q (.str z) H'
section
variable {P : Program} {w : World} {K : PySem.W.Frag} {mg : Str → Option Value} {base : Heap}
theorem ok_law_near_text {f : Addr} {fd : FuncData} (F : FnP K "_law_near_text" s__law_near_text f fd) (T : TP K mg) : FnOk P w K mg base CX0 4 f fd ["_law_bag", "_law_pattern"] spNear := by
  obtain ⟨d__law_pick, F__law_pick⟩ := T.f__law_pick
  have G__law_pick := ok_law_pick (P := P) (w := w) (base := base) F__law_pick T
  have b__law_pick : Binds K d__law_pick ["_law_bag", "_law_items"] [] := F__law_pick.bindsN fun _ _ _ _ _ _ us hl => match us, hl with | [_, _], _ => rfl
  obtain ⟨d__law_drawn_word, F__law_drawn_word⟩ := T.f__law_drawn_word
  have G__law_drawn_word := ok_law_drawn_word (P := P) (w := w) (base := base) F__law_drawn_word T
  have b__law_drawn_word : Binds K d__law_drawn_word ["_law_bag", "_law_signs", "_law_most"] [] := F__law_drawn_word.bindsN fun _ _ _ _ _ _ us hl => match us, hl with | [_, _, _], _ => rfl
  obtain ⟨d__law_throw, F__law_throw⟩ := T.f__law_throw
  have G__law_throw := ok_law_throw (P := P) (w := w) (base := base) F__law_throw T
  have b__law_throw : Binds K d__law_throw ["_law_bag", "_law_total"] [] := F__law_throw.bindsN fun _ _ _ _ _ _ us hl => match us, hl with | [_, _], _ => rfl
  refine F.ok sc__law_near_text (fun vs H Q E h => ?_) (fun cdv A outer s H vs Q E hr h => ?_)
  · obtain ⟨b, p, its, whole, rfl, _⟩ := h
    rfl
  · obtain ⟨b, p, its, whole, rfl, hb, hp, k⟩ := h
    have nd := sc__law_near_text.nd
    obtain ⟨t, ys, h1, h2, ⟨hg, hl, hi⟩, h3⟩ := hp
    have at0 : atI ([V.ref t, V.bl whole] : List V) 0 = some (.ref t) := rfl
    refine ⟨_, PSs.nox (C8.pss_cut (ps_set (i := 2) nd rfl (.inl rfl) pe_str)
      (C8.pss_cut (ps_for PassesOwn.never rfl (pi_tup (pe_ix ix_seq (pv 1) pe_int (fun _ _ => rfl))) (pg_tup (by rfl) (pgs_cons (pg_name (i := 3) nd rfl (.inl rfl)) (pgs_cons (pg_name (i := 4) nd rfl (.inl rfl)) pgs_nil))) (pss_one (ps_set (i := 2) nd rfl (.inl rfl) (pe_op op_add_str (pv 2) (pe_op op_repS (pe_call G__law_pick (hr.mono (by decide)) rfl T.g__law_pick F__law_pick.kp b__law_pick .nil pass0 (pa_cons (pv 0) (pa_cons (pv 3) pa_nil))) (pe_ifExp (pt_cmpR op_eq (pv 4) pe_str (nomark _)) pe_int (pe_call G__law_throw (hr.mono (by decide)) rfl T.g__law_throw F__law_throw.kp b__law_throw .nil pass0 (pa_cons (pv 0) (pa_cons pe_int pa_nil)))))))))
      (C8.pss_cut (ps_par (i := 5) (j := 6) (by rfl) nd rfl rfl (by decide) rfl rfl (pa_cons (pe_call G__law_drawn_word (hr.mono (by decide)) rfl T.g__law_drawn_word F__law_drawn_word.kp b__law_drawn_word .nil pass0 (pa_cons (pv 0) (pa_cons pe_str (pa_cons pe_int pa_nil)))) (pa_cons (pe_call G__law_drawn_word (hr.mono (by decide)) rfl T.g__law_drawn_word F__law_drawn_word.kp b__law_drawn_word .nil pass0 (pa_cons (pv 0) (pa_cons pe_str (pa_cons pe_int pa_nil)))) pa_nil)) (by rfl))
      (C8.pss_cut (ps_set (i := 7) nd rfl (.inl rfl) (pe_lst (pa_cons (pv 2) (pa_cons (pe_op op_add_str (pv 5) (pv 2)) (pa_cons (pe_op op_add_str (pv 2) (pv 6)) (pa_cons (pe_op op_add_str (pe_op op_add_str (pv 5) (pv 2)) (pv 6)) (pa_cons (pe_slice sl_str (pv 2) (po_some pe_int) po_none) (pa_cons (pe_slice sl_str (pv 2) po_none (po_some (pe_un un_neg pe_int))) (pa_cons (pe_op op_add_str (pv 5) (pv 6)) pa_nil)))))))))
      (pss_one (ps_ret (pe_call G__law_pick (hr.mono (by decide)) rfl T.g__law_pick F__law_pick.kp b__law_pick .nil pass0 (pa_cons (pv 0) (pa_cons (pv 7) pa_nil))))))))), ?_⟩
    refine ⟨fun σ H' => H' = H ∧ σ = [some (.ref b), some (.ref p), some (.str ""), none, none, none, none, none], ⟨rfl, rfl⟩, ?_⟩
    rintro σ H' ⟨rfl, rfl⟩
    refine ⟨fun σ H2 => ∃ z u1 u2, σ = [some (.ref b), some (.ref p), some (.str z), u1, u2, none, none, none] ∧ Keep (J b) H' H2 ∧ BagAt b H2 ∧ Abc 6 z, ?_, ?_⟩
    · refine ⟨_, rfl, .inr (.inl ⟨p, _, 0, _, rfl, rfl, SqT.of h1, at0, t, rfl, ⟨_, SqT.of h2⟩, ?_⟩)⟩
      refine for_tup (K := K) (xs := ys) (fun i σ H2 => i ≤ ys.length ∧ ∃ z u1 u2, σ = [some (.ref b), some (.ref p), some (.str z), u1, u2, none, none, none] ∧ Keep (J b) H' H2 ∧ BagAt b H2 ∧ Abc (2 * i) z)
        ⟨Nat.zero_le _, "", _, _, rfl, Keep.refl, hb, by decide, fun c h => (by cases h)⟩ (fun i σ H2 _ q => ?_) ?_ ?_
      · obtain ⟨_, z, u1, u2, _, kk, _, _⟩ := q
        exact SqT.of ((TK.keep hb kk) _ _ h2)
      · rintro i x σ H2 hx ⟨hil, z, u1, u2, rfl, kk, hb2, hz⟩
        have lt : i < ys.length := (List.getElem?_eq_some_iff.mp hx).1
        have hit : its[i]? = some its[i] := List.getElem?_eq_getElem (by omega)
        obtain ⟨q, rfl, hq⟩ := hi i x _ hx hit
        obtain ⟨g1, g2⟩ := hg _ (List.getElem_mem (by omega : i < its.length))
        generalize its[i] = it at hq g1 g2
        have q2 := (TK.keep hb kk) _ _ hq
        refine ⟨q, _, rfl, SqT.of q2, rfl, _, _, rfl, _, _, rfl, rfl, ?_⟩
        obtain ⟨g, s', c, eb⟩ := hb2
        have l4 := (sub_ok g2).2.2
        have el : (it.1.cps.toList.map fun c => V.str ⟨#[c]⟩).length = it.1.length := by simp [Str.length]
        have sz : it.1.length ≤ sizeLine := by rw [sizeLine_eq]; omega
        have s0' : 0 < it.1.length := by
          rcases Nat.eq_zero_or_pos it.1.length with h | h
          · exact absurd (str_nil (List.length_eq_zero_iff.mp (by simpa [Str.length] using h))) g1
          · exact h
        refine ⟨_, rfl, _, rfl, _, rfl, b, g, s', c, .str it.1, _, rfl, eb, .inr ⟨it.1, rfl, sz, rfl⟩, fun _ _ => .inr ⟨it.1, rfl, sz, rfl⟩, by omega, by omega, fun y g3 c3 hy => ?_⟩
        obtain ⟨ch, hc, rfl⟩ := List.mem_map.mp hy
        have a1 : Abc 1 ⟨#[ch]⟩ := ⟨Nat.le_refl 1, fun d hd => by
          have : d = ch := by simpa using hd
          rw [this]
          exact g2.subset hc⟩
        have k3 : Keep (J b) H' (upd H2 b (bagO g3 s' c3)) := kk.trans (Keep.upd rfl)
        have put : ∀ (n : Nat) (H4 : Hp), n ≤ 2 → Keep (J b) H' H4 → BagAt b H4 → (i + 1 ≤ ys.length ∧ ∃ z' u1 u2, [some (V.ref b), some (V.ref p), some (V.str (z ++ repS ⟨#[ch]⟩ n)), some (V.str it.1), some (V.str (kindS it.2)), none, none, none] = [some (V.ref b), some (V.ref p), some (V.str z'), u1, u2, none, none, none] ∧ Keep (J b) H' H4 ∧ BagAt b H4 ∧ Abc (2 * (i + 1)) z') := fun n H4 hn k4 b4 =>
          ⟨lt, _, _, _, rfl, k4, b4, (hz.app (a1.rep (n := n))).mono (by omega)⟩
        have lz : z.length ≤ 1000 := by have := hz.1; omega
        have rl : ∀ n, n ≤ 2 → z.length + (repS ⟨#[ch]⟩ n).length ≤ sizeLine := fun n hn => by
          rw [repS_length, sizeLine_eq]
          show z.length + n * 1 ≤ _
          omega
        refine ⟨_, rfl, rfl, _, rfl, ?_⟩
        rw [kind_one]
        cases hk : it.2 with
        | false => exact iteT ⟨_, 1, rfl, rfl, by show 1 ≤ 1000; decide, by decide, _, _, rfl, rfl, rl 1 (by decide), hk ▸ put 1 _ (by decide) k3 ⟨g3, s', c3, upd_same⟩⟩
        | true =>
          refine iteF ⟨_, rfl, b, g3, s', c3, 3, rfl, upd_same, by decide, by decide, fun r g4 c4 r0 r1 => ?_⟩
          obtain ⟨n, rfl⟩ : ∃ n : Nat, r = (n : Nat) := ⟨r.toNat, by omega⟩
          exact ⟨_, n, rfl, rfl, by show 1 ≤ 1000; decide, by omega, _, _, rfl, rfl, rl n (by omega), hk ▸ put n _ (by omega) (k3.trans (Keep.upd rfl)) ⟨g4, s', c4, upd_same⟩⟩
      · rintro σ H2 ⟨_, z, u1, u2, rfl, kk, hb2, hz⟩
        exact ⟨z, u1, u2, rfl, kk, hb2, hz.mono (by omega)⟩
    rintro σ H2 ⟨z, u1, u2, rfl, kk, hb2, hz⟩
    refine ⟨fun σ H3 => ∃ x y, σ = [some (.ref b), some (.ref p), some (.str z), u1, u2, some (.str x), some (.str y), none] ∧ Keep (J b) H' H3 ∧ BagAt b H3 ∧ Abc 2 x ∧ Abc 2 y, ?_, ?_⟩
    · refine ⟨_, rfl, b, "abc", 2, rfl, hb2, by decide, by decide, by decide, fun x H4 k4 b4 o4 => ?_⟩
      refine ⟨_, rfl, b, "abc", 2, rfl, b4, by decide, by decide, by decide, fun y H5 k5 b5 o5 => ?_⟩
      exact ⟨_, _, rfl, x, y, rfl, (kk.trans k4).trans k5, b5, .over o4, .over o5⟩
    clear hb2 kk
    rintro σ H3 ⟨x, y, rfl, kk, hb3, hx, hy⟩
    have sz : ∀ {a c : Str} {m n : Nat}, Abc m a → Abc n c → m + n ≤ 20 → a.length + c.length ≤ sizeLine := fun ha hc h => by
      rw [sizeLine_eq]
      have := ha.1
      have := hc.1
      omega
    refine ⟨fun σ H4 => ∃ q xs, σ = [some (.ref b), some (.ref p), some (.str z), u1, u2, some (.str x), some (.str y), some (.ref q)] ∧ Same H3 H4 ∧ H4 q = some (.lst xs) ∧ q ≠ b ∧ xs.length = 7 ∧ ∀ v ∈ xs, ∃ w, Abc 10 w ∧ v = V.str w, ?_, ?_⟩
    · refine ⟨_, rfl, _, rfl, _, rfl, _, _, rfl, rfl, sz hx hz (by decide), _, rfl, _, rfl, _, _, rfl, rfl, sz hz hy (by decide), _, rfl, _, rfl, _, _, rfl, rfl, sz hx hz (by decide), _, rfl, _, _, rfl, rfl, sz (hx.app hz) hy (by decide), _, rfl, _, rfl, _, rfl, hz.sz (by decide), _, rfl, _, rfl, _, rfl, _, rfl, hz.sz (by decide), _, rfl, _, rfl, _, _, rfl, rfl, sz hx hy (by decide), by show 7 ≤ sizeLine; rw [sizeLine_eq]; decide, fun q nq => ?_⟩
      refine ⟨q, _, rfl, same_upd nq, upd_same, bag_ne hb3 nq, rfl, fun v hv => ?_⟩
      simp only [List.mem_cons, List.not_mem_nil, or_false] at hv
      rcases hv with rfl | rfl | rfl | rfl | rfl | rfl | rfl
      · exact ⟨_, hz.mono (by decide), rfl⟩
      · exact ⟨_, (hx.app hz).mono (by decide), rfl⟩
      · exact ⟨_, (hz.app hy).mono (by decide), rfl⟩
      · exact ⟨_, ((hx.app hz).app hy).mono (by decide), rfl⟩
      · exact ⟨_, hz.cut.mono (by decide), rfl⟩
      · exact ⟨_, hz.cut.mono (by decide), rfl⟩
      · exact ⟨_, (hx.app hy).mono (by decide), rfl⟩
    rintro σ H4 ⟨q, xs, rfl, S, hq, qb, hl7, hxs⟩
    refine pick_vr (φ := fun _ v => ∃ w, Abc 10 w ∧ v = V.str w) (i := 7) (j := 0) (hb3.same S) rfl rfl qb hq (by omega) (by omega) (fun v hv Hf _ => hxs v hv) fun v H5 k5 b5 a5 => ?_
    obtain ⟨w, hw, rfl⟩ := a5.here
    exact k w H5 ((kk.trans (Keep.of S)).trans k5) b5 hw
end
end K0
-- FmTryAs
set_option maxRecDepth 100000
set_option maxHeartbeats 2000000
/-! try: .. except C1 as e: .. except C2 as e: .. -/
namespace FM
open PySem PySem.Spec PyProof.Rows L2
abbrev AsL : Type := List (Value × Nat × (Addr → Value → Option Addr → TS))
def endsAs (D : Ends) (i : Nat) : Ends where
  nx := fun σ H => D.nx (σ.set i none) H
  rt := D.rt
  bk := fun σ H => D.bk (σ.set i none) H
  ct := fun σ H => D.ct (σ.set i none) H
/-- what the clauses wish of an error, one behind the other -/
def wishAs (K : PySem.W.Frag) (Wo : WX) (D : Ends) : AsL → WX
  | [] => Wo
  | (c, i, ts) :: r => fun cls d σ H => ∃ b, PySem.W.exmOne K cls c = some b ∧
      (b = true → ∀ a, H a = none → ts a cls d (endsAs D i) (σ.set i (some (.ref a))) H) ∧ (b = false → wishAs K Wo D r cls d σ H)
inductive ClausesAs (X : Cx) : List ExceptHandler → AsL → Prop
  | nil : ClausesAs X [] []
  | cons {x n : Str} {c : Value} {i : Nat} {ts : Addr → Value → Option Addr → TS} {b0 : Stmt} {su : List Stmt} {np hp : Pos} {hs : List ExceptHandler} {l : AsL}
      (hc : Names X x c) (hi : X.N[i]? = some n) (hn : X.env.kindOf n = some .local)
      (hsu : ∀ (a : Addr) (o : Obj) (cls : Value) (d : Option Addr) (pn : List (Addr × Obj)), Zc cls d o → (∃ fs, o.data = .fields fs) → PSs (X.suite a ((a, o) :: pn)) (b0 :: su) (ts a cls d))
      (r : ClausesAs X hs l) : ClausesAs X (.ExceptHandler (some (.Name x np)) (some n) (b0 :: su) hp :: hs) ((c, i, ts) :: l)
section
variable {X : Cx} {body : List Stmt} {h0 : ExceptHandler} {hs : List ExceptHandler} {l : AsL} {pos : Pos} {tb : WX → TS} {Wo : WX}
theorem ps_tryAs (e1 : X.stack = X.env :: X.outer) (e2 : X.env.frame = some X.env.locals) (nd : X.N.Nodup) (tk : Takes X Wo)
    (hb : ∀ (W : WX) (pn : List (Addr × Obj)) (xe : Value → Shared → Prop), Takes (X.tr pn xe) W → PassesOwn (model X.prog X.w) X.A X.env xe → PSs (X.tr pn xe) body (tb W))
    (hh : ClausesAs X (h0 :: hs) l) : PS X (.Try body (h0 :: hs) [] [] pos) (fun D σ H => tb (wishAs X.K Wo D l) D σ H) := by
  refine ⟨fun pins s σ H D I h => ?_⟩
  have ok := I.ok
  have frames : X.A.frames = some (X.env :: X.outer) := ok.frames.trans (congrArg some e1)
  refine wpAny_Try_except ?_
  let after : Value → Shared → Prop := fun e t0 => wpAny (model X.prog X.w) X.A (noteFrame e X.env)
    (fun _ t1 => wpAny (model X.prog X.w) X.A (setFlight e none)
      (fun _ t2 => wpAny (model X.prog X.w) X.A (handleBy e X.env (h0 :: hs)) (SP X pins D) X.xe t2) X.xe t1) X.xe t0
  have takes : Takes (X.tr (X.pn ++ pins) after) (wishAs X.K Wo D l) := fun u s' z => by
    obtain ⟨a, B, sI, qs, σ1, H1, cls, d, rfl, J0, nb, up, sky, na, os, ag, w⟩ := z
    have J : Inv X pins σ1 H1 sI := J0.ofTry ok
    have sky1 : Sky B (X.env :: X.outer) a (Zc cls d) X.env.locals s'.heap := by
      rw [← e1]
      exact sky
    show wpAny (model X.prog X.w) X.A (noteFrame (.ref a) X.env) _ _ _
    refine Sky.land Zc.steady frames e2 sky1 fun g fl gu => ?_
    have J1 : Inv X pins σ1 H1 { s' with heap := g } := J.landed nb fl.1 (up.trans gu) os ag
    obtain ⟨o1, f1, at1, z1, dt1⟩ := fl.there
    have apart : a ∉ frs (X.env :: X.outer) := fun hm => by
      obtain ⟨_, o', at', no⟩ := fl.2.2.1.mem hm
      cases at1.symm.trans at'
      exact no _ dt1
    have n1 : a ≠ X.env.locals := fun z => apart (List.mem_filterMap.mpr ⟨X.env, List.mem_cons_self, by rw [e2, z]⟩)
    have n2 : a ∉ X.fs := fun hm => by
      obtain ⟨e, he, q⟩ := List.mem_filterMap.mp hm
      exact apart (List.mem_filterMap.mpr ⟨e, List.mem_cons_of_mem _ he, q⟩)
    have S1 := J1.suite at1 dt1 na n1 n2
    have go : ∀ {ks : List ExceptHandler} {m : AsL}, ClausesAs X ks m → wishAs X.K Wo D m cls d σ1 H1 →
        wpAny (model X.prog X.w) X.A (handleBy (.ref a) X.env ks) (SP X pins D) X.xe { s' with heap := g } := by
      intro ks m hk
      induction hk with
      | nil =>
        intro w
        refine wpAny_handleBy_nil ?_
        obtain ⟨_, _, _, o2, f2, T, oT, t2, at2, zz, dd, hf, _⟩ := id fl
        unfold PySem.passOn
        refine wpAny_bind (wpAny_field at2 dd hf ?_)
        have no : ¬ ((Value.ref T == Value.none) = true) := by simp
        rw [if_neg no]
        have leave : wpAny (model X.prog X.w) X.A (setFlight (.ref a) X.env.frame)
            (fun _ t => wpAny (model X.prog X.w) X.A (throw (.ref a) : Sem Flow) (SP X pins D) X.xe t) X.xe { s' with heap := g } := by
          rw [e2]
          refine HandSPX.setFlight_upZ fl fun g2 hg2 gu2 => wpAny_throw (tk _ _ ?_)
          exact ⟨a, B, sI, pins, σ1, H1, cls, d, rfl, J, nb, (up.trans gu).trans gu2, .inr (.inr (by rw [e1]; exact hg2)), na, os, ag, w⟩
        first
          | exact wpAny_bind (wpAny_pure (wpAny_bind leave))
          | exact wpAny_bind leave
      | @cons x n c i ts b0 su np hp ks2 m2 hc hi hn hsu r ih =>
        intro w
        obtain ⟨b, eb, yes, no⟩ := w
        refine wpAny_handleBy_cons (codeAny_handlers_test ?_) (by intro q; cases q)
        have ty : PySem.W.Looks (model X.prog X.w) g (typeOf (.ref a)) cls := fun _ _ _ _ k q => wpAny_typeOf_ref (k _ _ at1) (by rw [z1.1]; exact q)
        have is := PySem.W.exm_one (M := model X.prog X.w) (J1.kIn) ty eb
        have named : ∀ {Q E : Value → Shared → Prop}, Q c { s' with heap := g } → wpAny (model X.prog X.w) (X.A.mark (some (.ref a))) (eval (.Name x np) X.env) Q E { s' with heap := g } := fun {Q E} q => by
          obtain ⟨y1, y2, y3⟩ := hc
          rcases y3 with y3 | ⟨y3, y4, y5⟩
          · exact ld_glob (X := X.suite a ((a, o1) :: (X.pn ++ pins))) S1 y1 y3 q y2
          · exact ld_blt (X := X.suite a ((a, o1) :: (X.pn ++ pins))) S1 y1 y3 y4 q y5 y2
        refine named (is.here ?_)
        cases b with
        | false =>
          show wpAny _ X.A (handleBy (.ref a) X.env ks2) _ _ _
          exact ih (no rfl)
        | true =>
          refine codeAny_handlers_suite_as ?_
          refine HandSPX.lands_againZ fl fun g2 fl2 gu2 => ?_
          have J2 : Inv X pins σ1 H1 { s' with heap := g2 } := J.landed nb fl2.1 ((up.trans gu).trans gu2) os ag
          obtain ⟨o2, f2, at2, z2, dt2⟩ := fl2.there
          have S2 := J2.suite at2 dt2 na n1 n2
          have loc : Loc X.env.scope n := .inl hn
          refine store_ok (X := X.suite a ((a, o2) :: (X.pn ++ pins))) (v := .ref a) S2 nd hi loc rfl (fun s5 S5 => ?_) (.inr hn)
          refine wpAny_mono ((hsu a o2 cls d (X.pn ++ pins) z2 ⟨_, dt2⟩).run [] s5 _ H1 _ S5 (yes rfl a na)) (fun f s6 z => ?_) (fun _ _ z => False.elim z)
          have gone : ∀ {σ6 : L2.St} {H6 : Hp} {Q : Shared → Prop}, Inv (X.suite a ((a, o2) :: (X.pn ++ pins))) [] σ6 H6 s6 → (∀ s7, Inv X pins (σ6.set i none) H6 s7 → Q s7) →
              wpAny (model X.prog X.w) X.A (do bindName X.env n .none; unbindBehindTheSuite X.env n hp) (fun _ s7 => Q s7) X.xe s6 := fun S6 hq => gone_ok (S6.unsuite ok) nd hi hn hq
          cases f with
          | next =>
            obtain ⟨σ6, H6, S6, q⟩ := z
            exact gone S6 fun s7 J7 => ⟨_, _, J7, q⟩
          | brk =>
            obtain ⟨σ6, H6, S6, q⟩ := z
            exact gone S6 fun s7 J7 => ⟨_, _, J7, q⟩
          | cont =>
            obtain ⟨σ6, H6, S6, q⟩ := z
            exact gone S6 fun s7 J7 => ⟨_, _, J7, q⟩
          | ret u =>
            obtain ⟨v6, σ6, H6, S6, r6, q⟩ := z
            exact gone S6 fun s7 J7 => ⟨_, _, _, J7, r6, q⟩
    exact go hh w
  refine wpAny_mono ((hb _ (X.pn ++ pins) after takes PassesOwn.looking).run [] s σ H D (I.toTry _) h) (fun f t z => ?_) (fun _ _ z => z)
  cases f with
  | next =>
    obtain ⟨σ1, H1, J, q⟩ := z
    exact wpAny_execs_nil ⟨σ1, H1, J.ofTry ok, q⟩
  | brk =>
    obtain ⟨σ1, H1, J, q⟩ := z
    exact ⟨σ1, H1, J.ofTry ok, q⟩
  | cont =>
    obtain ⟨σ1, H1, J, q⟩ := z
    exact ⟨σ1, H1, J.ofTry ok, q⟩
  | ret u =>
    obtain ⟨v, σ1, H1, J, r, q⟩ := z
    exact ⟨v, σ1, H1, J.ofTry ok, r, q⟩
end
end FM
-- FmCount
set_option maxRecDepth 100000
set_option maxHeartbeats 2000000
/-! list.count of truths. -/
namespace FM
open PySem PySem.Spec PyProof.Rows L2
def isB (b : Bool) : Value → Bool
  | .bool c => c == b
  | _ => false
theorem bools_are : ∀ {bs : List Bool} {us : List Value}, Vals (bs.map V.bl) us → us = bs.map Value.bool
  | [], _, .nil => rfl
  | b :: bs, _, .cons r t => by
    cases r
    rw [bools_are t]
    rfl
theorem count_bools (b : Bool) : ∀ bs : List Bool, (bs.map Value.bool).countP (isB b) = bs.count b
  | [] => rfl
  | c :: bs => by
    simp only [List.map_cons, List.countP_cons, List.count_cons, count_bools b bs]
    rfl
def rCntB (K : PySem.W.Frag) : V → List V → Hp → VK → Prop := fun x xs H Q => ∃ (p : Addr) (bs : List Bool) (b : Bool), x = .ref p ∧ xs = [.bl b] ∧ SqL K H p (bs.map V.bl) ∧ Q (.int (bs.count b : Nat)) H
theorem mt_lcountB {X : Cx} : MtR X "list.count" (rCntB X.K) := by
  intro pins s σ H x xs v us Q I rx rxs h
  obtain ⟨p, bs, b, rfl, rfl, hs, q⟩ := h
  cases rx
  obtain ⟨u, rfl, ru⟩ := rxs.one
  cases ru
  obtain ⟨its, rv, ⟨⟨cls, dd, data, sl⟩, n, ho, hc, hdn, hd⟩, hlen⟩ := I.list hs
  simp only at hc hd
  subst hc hd
  have e1 := bools_are rv
  subst e1
  have each : ∀ y, y ∈ (bs.map Value.bool).toArray → SeqAt.EqAt X.A.in1 s y (.bool b) (isB b y) := fun y hy => by
    have hy2 : y ∈ bs.map Value.bool := by simpa using hy
    obtain ⟨c, _, rfl⟩ := List.mem_map.mp hy2
    exact SeqAt.EqAt.bool_bool c b
  refine call_meets PySem.F.slot_list_count ⟨_, ho, rfl⟩ PySem.F.entry_list_count (PySem.F.args_list_count_2 _ _) (SeqAt.list_countAt p (bs.map Value.bool).toArray n dd sl (.bool b) (isB b)) ⟨ho, each, ?_⟩
  refine ⟨.int (bs.count b : Nat), H, I.tok _, ⟨s.toks, ?_⟩, q⟩
  have e2 : ((bs.map Value.bool).toArray.toList.countP (isB b)) = bs.count b := count_bools b bs
  rw [e2]
end FM
-- K6Told
set_option maxRecDepth 100000
set_option maxHeartbeats 1000000
namespace K0
open PySem L2 FM He
def two : List Str := ["InvalidBook", "InvalidText"]
def nameOf (x : Str) : Str := if x = "InvalidBook" then "book" else "text"
structure TT (K : PySem.W.Frag) (mg : Str → Option Value) : Prop extends TP K mg where
  exmE : ∀ x ∈ two, PySem.W.exmOne K (.ref (ga K x)) (.ref (ga K "MarkError")) = some true
  kit : ∀ x ∈ two, ∀ y ∈ two, PySem.W.kitOne K (.ref (ga K x)) (.ref (ga K y)) = some (decide (x = y))
/-- what told tells of an error, as Q wants it -/
def ETold (K : PySem.W.Frag) (Q : VK) : XK := fun cls d H' => ∃ x ∈ two, cls = .ref (ga K x) ∧ d = none ∧ ∀ H2, Same H' H2 → Q (.str (nameOf x)) H2
def TTold (K : PySem.W.Frag) : (XK → Hp → VK → Prop) → Hp → VK → Prop := fun tl H Q => tl (ETold K Q) H (fun _ H' => Q (.str "returned") H')
def tS2 (K : PySem.W.Frag) : Addr → Value → Option Addr → TS := fun a cls d D σ H => (∃ σ0 : L2.St, σ = List.set σ0 1 (some (.ref a))) ∧ d = none ∧ ∃ x ∈ two, cls = .ref (ga K x) ∧ ∀ H2, Same H H2 → D.rt (.str (nameOf x)) H2
theorem slot1 {σ σ0 : L2.St} {x : Option V} (e : σ = List.set σ0 1 x) (l : σ.length = 3) : ∃ u w, σ = [u, x, w] := by
  subst e
  rw [List.length_set] at l
  match σ0, l with
  | [u, _, w], _ => exact ⟨u, w, rfl⟩
theorem told_gives {X : Cx} (T : TT X.K X.mg) {q : Str} {g : Addr} {cdg : Value} (hr : Room 3 X.A) :
    LamX.GivesTo X ["_law_call", "e", "_law_kinds"] "_law_told" (defScope s__law_told) g cdg (defBody s__law_told) "_law_call" q (TTold X.K) := by
  intro f c' s H Q tl act hc h
  have nd := sc__law_told.nd
  have hr2 : Room 2 (X.A.deeper (PyProof.Rows.envOfC "_law_told" (defScope s__law_told) s.heap.objs.size g cdg)) := hr.deeper _
  let Y : Cx := (cxOf C8.CX0 X.prog X.w X.K X.mg X.base ["_law_call", "e", "_law_kinds"] "_law_told" (defScope s__law_told) g cdg X.A X.stack s H C8.E0).nox
  refine ⟨_, pss_cons (ps_tryAs (X := Y) (l := [(.ref (ga X.K "MarkError"), 1, tS2 X.K)])
      (tb := fun W D σ H => ∃ Ech : XK, (∀ cls d σ' H', Ech cls d H' → W cls d σ' H') ∧ σ[0]? = some (some (.ref f)) ∧ H c' = some (LamX.CodeO c' q) ∧ tl Ech H (fun _ H' => D.nx σ H'))
      (Wo := fun _ _ _ _ => False) rfl rfl nd LamX.takes0 (fun W pn xe tk _ => ?_) (.cons ⟨rfl, by decide, .inl T.g_MarkError⟩ rfl rfl (fun a o cls d pn hz hf => ?_) .nil))
      (pss_one (ps_ret pe_str)), ?_⟩
  · refine ⟨fun pins s' σ H' D I h' => ?_⟩
    obtain ⟨Ech, hW, h1, h2, h3⟩ := h'
    exact (pss_one (ps_expr (act W pn xe Ech _ _ tk hW))).run pins s' σ H' D I ⟨h1, h2, h3⟩
  · refine ⟨fun pins s' σ H' D I h' => ?_⟩
    obtain ⟨⟨σ0, h0⟩, rfl, x, hx, rfl, k⟩ := h'
    obtain ⟨u, w', rfl⟩ := slot1 h0 I.len
    have hp : PinD (Y.suite a ((a, o) :: pn)).pn a (ga X.K x) := ⟨o, List.mem_cons_self, hz, hf⟩
    have m9 : ∀ y ∈ two, y ∈ mark9 := by decide
    have c := T.exc x (m9 x hx)
    refine (pss_cons (ps_set (X := Y.suite a ((a, o) :: pn)) (i := 2) nd rfl (.inl rfl) (pe_lst (pa_cons (pe_callB call_isX (by rfl) T.b_isinstance (by decide +kernel) (pa_cons (pv 1) (pa_cons (C8.pe_gc (v := .ref _) (by rfl) ⟨_, T.g_InvalidBook, rfl⟩) pa_nil)))
        (pa_cons (pe_callB call_isX (by rfl) T.b_isinstance (by decide +kernel) (pa_cons (pv 1) (pa_cons (C8.pe_gc (v := .ref _) (by rfl) ⟨_, T.g_InvalidText, rfl⟩) pa_nil))) pa_nil))))
      (pss_one (ps_ret (pe_ifExp (pt_cmpR op_eq (pe_bm PySem.F.plainAttrs_list PySem.F.slot_list_count PySem.F.type_list_count mt_lcountB (pv 2) (pa_cons pe_bl pa_nil)) pe_int (nomark _))
        (pe_ix ix_seq (pe_lst (pa_cons pe_str (pa_cons pe_str pa_nil))) (pe_bm PySem.F.plainAttrs_list PySem.F.slot_list_index PySem.F.type_list_index mt_index (pv 2) (pa_cons pe_bl pa_nil)) (fun _ _ => rfl)) pe_str)))).run pins s' _ H' D I ?_
    refine ⟨_, rfl, a, _, _, _, _, rfl, ClsV.own _, .inr hp, c, T.kit x hx "InvalidBook" (by decide), _, rfl, a, _, _, _, _, rfl, ClsV.own _, .inr hp, c, T.kit x hx "InvalidText" (by decide), by show 2 ≤ sizeLine; decide, fun p np => ?_⟩
    simp only [two, List.mem_cons, List.not_mem_nil, or_false] at hx
    rcases hx with rfl | rfl
    · have S1 := same_upd (o := .lst (([true, false] : List Bool).map V.bl)) np
      refine ⟨_, rfl, .inl ⟨rfl, _, SqL.of (xs := ([true, false] : List Bool).map V.bl) upd_same⟩, p, [true, false], true, rfl, rfl, SqL.of upd_same, rfl, true, by decide, iteT ?_⟩
      refine ⟨by show 2 ≤ sizeLine; decide, fun r nr => ?_⟩
      have S2 := same_upd (o := .lst [.str "book", .str "text"]) nr
      refine ⟨_, rfl, .inl ⟨rfl, _, SqL.of (S2 _ _ upd_same)⟩, p, ([true, false] : List Bool).map V.bl, .bl true, 0, .bl true, rfl, rfl, SqL.of (S2 _ _ upd_same), rfl, rfl, rfl, rfl, ?_, .inl ⟨r, _, 0, .str "book", rfl, rfl, SqL.of upd_same, rfl, k _ (S1.trans S2)⟩⟩
      intro m z hm hz2
      exact absurd hm (Nat.not_lt_zero m)
    · have S1 := same_upd (o := .lst (([false, true] : List Bool).map V.bl)) np
      refine ⟨_, rfl, .inl ⟨rfl, _, SqL.of (xs := ([false, true] : List Bool).map V.bl) upd_same⟩, p, [false, true], true, rfl, rfl, SqL.of upd_same, rfl, true, by decide, iteT ?_⟩
      refine ⟨by show 2 ≤ sizeLine; decide, fun r nr => ?_⟩
      have S2 := same_upd (o := .lst [.str "book", .str "text"]) nr
      refine ⟨_, rfl, .inl ⟨rfl, _, SqL.of (S2 _ _ upd_same)⟩, p, ([false, true] : List Bool).map V.bl, .bl true, 1, .bl true, rfl, rfl, SqL.of (S2 _ _ upd_same), rfl, rfl, rfl, rfl, ?_, .inl ⟨r, _, 1, .str "text", rfl, rfl, SqL.of upd_same, rfl, k _ (S1.trans S2)⟩⟩
      intro m z hm hz2
      match m, hm with
      | 0, _ => cases hz2; rfl
  · refine ⟨fun cls d H1 => ETold X.K Q cls d H1, fun cls d σ1 H1 he => ?_, rfl, hc, h⟩
    obtain ⟨x, hx, rfl, rfl, k⟩ := he
    exact ⟨true, T.exmE x hx, fun _ a na => ⟨⟨_, rfl⟩, rfl, x, hx, rfl, k⟩, Bool.noConfusion⟩
end K0
-- FmWalk
set_option maxRecDepth 100000
set_option maxHeartbeats 4000000
namespace FM
open PySem PySem.Spec PyProof.Rows L2
theorem walk_G {l : PySem.W.OpenLaw} {n k : Nat} {q : Program} {loose : List Str} {XP : (Str → Option Value) → Heap → Prop} {YP : World → Heap → Prop} {d : DefRec} {x : Str}
    (h1 : l.most = some n) (h2 : n ≤ sizeLine) (h3 : d.params.defaults = []) (h4 : Room k callerA) (h5 : importsNone q = true)
    (F : ∀ (w : World) (mg : Str → Option Value) (fa : Addr) (h : Heap), YP w h → h.Ns mainGlobals mg → mg d.name = some (.ref fa) →
      ∃ (K : PySem.W.Frag) (c T : Addr) (fd : FuncData) (sp : List V → Hp → VK → Prop), K.In h ∧ h.get? T = some { cls := .none, data := .fields #[] } ∧ K.lookup T = none ∧ PySem.W.CodeHd h c T ∧
        (∀ (s : Shared) (u : Value), BindsTo s fd ⟨[u], []⟩ [(x, u)]) ∧
        (∀ (H : Hp) (a : Addr) (ns : List Int), ns.length ≤ n → H T = some (.tbl #[]) → SqL K H a (ns.map V.int) → sp [.ref a] H fun v _ => v = .bl true) ∧
        ∀ base : Heap, K.In base → base.Ns mainGlobals mg → LamX.TabB base mg c T → (∃ o, base.get? sysModules = some o) → FnG l.prog w K mg base k fa fd [x] sp) :
    PySem.W.WalkO q loose XP YP l.row.toRowW d [] (fun f vs => PySem.call f vs) := by
  refine Att.attach_callB h1 h3 fun w s0 s mg mb fa o pm cd doc a vs ns G Y e1 e2 e3 e4 e5 e6 e7 e8 e9 => ?_
  obtain ⟨K, c, T, fd, sp, k1, k2, k3, k4, k5, k6, k7⟩ := F w mg fa _ Y G.T.g e4
  have bi : s.heap.BuiltinsAt mg T := by
    obtain ⟨bm, ob, b1, b2, b3, b4, b5, b6⟩ := G.T.bmain
    refine ⟨bm, ob, b1, b2, fun z => ?_, fun z => ?_, b3, b4, b5, b6⟩
    · obtain ⟨o, es, ep, e, d, _⟩ := G.T.g
      rw [← z, b3] at e; cases e; rw [b6] at d; cases d
    · rw [z, k2] at b3; cases b3; cases b6
  exact law_callG k1 G.T.g G.T.b G.T.builtins G.T.nolimit e9 k2 k3 k4 bi (by obtain ⟨mm, z, _⟩ := (G.T.seer h5).mods; exact ⟨mm, z⟩) e5 e6 (Nat.le_trans e7 h2) h4 k7 k5 fun H t s => k6 H a ns e7 t s
end FM
-- FmGuardN
set_option maxRecDepth 100000
set_option maxHeartbeats 4000000
/-! The law's call with several code tables. -/
namespace FM
open PySem PySem.Spec PyProof.Rows L2
theorem law_callN {P : Program} {w : World} {K : PySem.W.Frag} {mg mb : Str → Option Value} {k : Nat} {fa a : Addr} {CT : List (Addr × Addr)} {fd : FuncData} {x : Str} {sp : List V → Hp → VK → Prop} {s : Shared} {vs : List Value} {ns : List Int}
    (kin : K.In s.heap) (g1 : s.heap.Ns mainGlobals mg) (g2 : s.heap.Ns builtinsNs mb) (g3 : ∀ x : Str, x ≠ "__name__" → mb x = bootBuiltins x) (g4 : s.heap.NoLimit) (g5 : s.gens = #[])
    (tT : ∀ p ∈ CT, s.heap.get? p.2 = some { cls := .none, data := .fields #[] }) (tK : ∀ p ∈ CT, K.lookup p.2 = none) (tC : ∀ p ∈ CT, PySem.W.CodeHd s.heap p.1 p.2) (g6 : ∀ p ∈ CT, s.heap.BuiltinsAt mg p.2) (g7 : ∃ mm, s.heap.Ns sysModules mm)
    (la : s.heap.get? a = some { cls := .type "list", data := .seq vs.toArray }) (li : IntsAre vs ns) (ll : ns.length ≤ sizeLine) (hr : Room k callerA)
    (F : ∀ base : Heap, K.In base → base.Ns mainGlobals mg → (∀ p ∈ CT, LamX.TabB base mg p.1 p.2) → (∃ o, base.get? sysModules = some o) → FnG P w K mg base k fa fd [x] sp) (hbind : ∀ (s : Shared) (u : Value), BindsTo s fd ⟨[u], []⟩ [(x, u)])
    (hsp : ∀ H : Hp, (∀ p ∈ CT, H p.2 = some (.tbl #[])) → SqL K H a (ns.map V.int) → sp [.ref a] H fun v _ => v = .bl true) :
    codeAny (model P w) callerA (.call (.ref fa) ⟨[.ref a], []⟩) (fun r s' => r = .ok (.ret (.bool true)) ∧ OldK s.heap s'.heap ∧ s'.os = s.os ∧ AllBare s'.gens) s := by
  have rel := vals_ints li
  have isT : ∀ b, (∃ p ∈ CT, p.2 = b) → s.heap.get? b = some { cls := .none, data := .fields #[] } := fun b ⟨p, hp, e⟩ => e ▸ tT p hp
  have ne : ¬ ∃ p ∈ CT, p.2 = a := fun z => by rw [isT a z] at la; cases la
  classical
  let H : Hp := fun b => if (∃ p ∈ CT, p.2 = b) then some (.tbl #[]) else if b = a ∧ K.lookup a = none then some (.frz { cls := .type "list", data := .seq vs.toArray } (.lst (ns.map V.int))) else none
  have hT : ∀ p ∈ CT, H p.2 = some (.tbl #[]) := fun p hp => if_pos ⟨p, hp, rfl⟩
  have other : ∀ b, ¬ (∃ p ∈ CT, p.2 = b) → ¬ (b = a ∧ K.lookup a = none) → H b = none := fun b h1 h2 => (if_neg h1).trans (if_neg h2)
  have far : ∀ b o, s.heap.get? b = some o → (∀ vs n, o.data ≠ .seq vs n) → o.data ≠ .fields #[] → H b = none := fun b o e h1 h2 => by
    refine other b (fun z => ?_) fun z => ?_
    · rw [isT b z] at e; cases e; exact h2 rfl
    · rw [z.1, la] at e; cases e; exact h1 _ _ rfl
  have ok : HOk P w H s.heap := fun b u e => by
    by_cases h1 : ∃ p ∈ CT, p.2 = b
    · obtain ⟨p, hp, rfl⟩ := h1
      cases (hT p hp).symm.trans e
      exact tT p hp
    · by_cases h2 : b = a ∧ K.lookup a = none
      · cases ((if_neg h1).trans (if_pos h2)).symm.trans e
        rw [h2.1]
        exact ⟨la, by rw [List.length_map]; exact ll, vs, _, rel, la⟩
      · cases (other b h1 h2).symm.trans e
  have seq : SqL K H a (ns.map V.int) := by
    cases hk : K.lookup a with
    | none => exact .inl (.inr ⟨_, (if_neg ne).trans (if_pos ⟨rfl, hk⟩)⟩)
    | some o =>
      have e := kin a o hk
      rw [la] at e
      cases e
      exact .inr ⟨_, vs.toArray, _, hk, rfl, rfl, rfl, by rw [List.size_toArray, li.length]; exact ll, by simpa using rel⟩
  let B : Heap := hidT s.heap H
  have inB : ∀ b o, s.heap.get? b = some o → H b = none → B.get? b = some o := fun _ _ e n => hidT_get e n
  have dict : ∀ b o (es : Array DictEntry) (ep : Nat), s.heap.get? b = some o → o.data = .dict es ep → B.get? b = some o := fun b o es ep e d => inB b o e (far b o e (fun _ _ z => by rw [d] at z; cases z) fun z => by rw [d] at z; cases z)
  have names : ∀ (b : Addr) (m : Str → Option Value), s.heap.Ns b m → B.Ns b m := fun b m h => by
    obtain ⟨o, es, ep, e, d, r⟩ := h
    exact ⟨o, es, ep, dict b o es ep e d, d, r⟩
  have kinB : K.In B := fun b o e => by
    refine inB b o (kin b o e) (other b (fun z => ?_) fun z => ?_)
    · obtain ⟨p, hp, rfl⟩ := z
      rw [tK p hp] at e; cases e
    · rw [z.1, z.2] at e; cases e
  have mod : L2.Mod K mg B := by
    obtain ⟨mc, l1, l2⟩ := g4
    exact ⟨kinB, names _ _ g1, ⟨mb, names _ _ g2, g3⟩, ⟨mc, names _ _ l1, l2⟩⟩
  have tab : ∀ p ∈ CT, LamX.TabB B mg p.1 p.2 := fun p hp => by
    refine ⟨?_, ?_, fun z => ?_⟩
    · obtain ⟨o, fs, file, tf, flags, tg, inF, text, tt, e, r1, r2, r3, rest⟩ := tC p hp
      refine ⟨o, fs, file, tf, flags, tg, inF, text, tt, inB p.1 o e (far p.1 o e (fun _ _ z => ?_) fun z => ?_), r1, r2, r3, rest⟩
      · rw [r2] at z; cases z
      · rw [r2] at z; cases z; simp at r3
    · obtain ⟨bm, ob, b1, b2, b3, b4, b5, b6, b7, b8⟩ := g6 p hp
      refine ⟨bm, ob, b1, b2, b3, b4, inB bm ob b5 (far bm ob b5 (fun _ _ z => ?_) fun z => ?_), b6, b7, b8⟩
      · rw [b8] at z; cases z
      · rw [b8] at z; cases z
    · obtain ⟨o, es, ep, e, d, _⟩ := g1
      rw [z, tT p hp] at e; cases e; cases d
  have e0 : Env0 P w K mg B callerA [] s H := by
    constructor
    · rfl
    · exact mod
    · exact fun b o e => of_hidT e
    · exact Nat.le_of_eq (hidT_size _ _)
    · trivial
    · intro b hb; exact nomatch (show b ∈ ([] : List Addr) from hb)
    · exact ok
    · exact .of_eq g5
  refine codeAny_mono ((F B kinB (names _ _ g1) tab (by obtain ⟨mm, h⟩ := g7; obtain ⟨o, es, ep, e, _⟩ := names _ _ h; exact ⟨o, e⟩)).run callerA [] s H ⟨[.ref a], []⟩ [.ref a] [.ref a] _ rfl hr e0 (hbind s (.ref a)) (.cons rfl .nil) (hsp H hT seq)) fun r s' h => ?_
  cases r with
  | error e => exact False.elim h
  | ok fl =>
    cases fl with
    | next => exact False.elim h
    | brk => exact False.elim h
    | cont => exact False.elim h
    | ret u =>
      obtain ⟨v, H', os, bare, un, ok', ru, q⟩ := h
      have q' : v = .bl true := q
      subst q'
      cases ru
      have stay : ∀ b o, ¬ (∃ p ∈ CT, p.2 = b) → s.heap.get? b = some o → s'.heap.get? b = some o := fun b o h1 e => by
        by_cases h2 : b = a ∧ K.lookup a = none
        · have z := un.frzs b _ _ ((if_neg h1).trans (if_pos h2))
          rw [h2.1, la] at e
          cases e
          rw [h2.1] at z ⊢
          exact (ok' a _ z).1
        · exact un.keep b o e (other b h1 h2) (fun z => nomatch (show b ∈ ([] : List Addr) from z)) (fun z => nomatch z)
      have tN : ∀ p ∈ CT, ∃ more, s'.heap.get? p.2 = some { cls := .none, data := .fields (#[] ++ more) } := fun p hp => by
        obtain ⟨more, tm⟩ := un.tbls p.2 #[] (hT p hp)
        exact ⟨more, ok' p.2 _ tm⟩
      refine ⟨rfl, ⟨fun b o e => ?_, fun b o e => ?_⟩, os, bare⟩
      · by_cases h1 : ∃ p ∈ CT, p.2 = b
        · obtain ⟨p, hp, rfl⟩ := h1
          cases (tT p hp).symm.trans e
          obtain ⟨more, z⟩ := tN p hp
          exact .inr (.inl ⟨((tC p hp).tab (tT p hp)).isCodeTable, rfl, #[], more, rfl, z⟩)
        · exact .inl (stay b o h1 e)
      · by_cases h1 : ∃ p ∈ CT, p.2 = b
        · obtain ⟨p, hp, rfl⟩ := h1
          obtain ⟨more, z⟩ := tN p hp
          exact ⟨_, z⟩
        · exact ⟨o, stay b o h1 e⟩
theorem walk_N {l : PySem.W.OpenLaw} {n k : Nat} {q : Program} {loose : List Str} {XP : (Str → Option Value) → Heap → Prop} {YP : World → Heap → Prop} {d : DefRec} {x : Str}
    (h1 : l.most = some n) (h2 : n ≤ sizeLine) (h3 : d.params.defaults = []) (h4 : Room k callerA) (h5 : importsNone q = true)
    (F : ∀ (w : World) (mg : Str → Option Value) (fa : Addr) (h : Heap), YP w h → h.Ns mainGlobals mg → mg d.name = some (.ref fa) →
      ∃ (K : PySem.W.Frag) (CT : List (Addr × Addr)) (fd : FuncData) (sp : List V → Hp → VK → Prop), K.In h ∧ (∀ p ∈ CT, h.get? p.2 = some { cls := .none, data := .fields #[] }) ∧ (∀ p ∈ CT, K.lookup p.2 = none) ∧ (∀ p ∈ CT, PySem.W.CodeHd h p.1 p.2) ∧
        (∀ (s : Shared) (u : Value), BindsTo s fd ⟨[u], []⟩ [(x, u)]) ∧
        (∀ (H : Hp) (a : Addr) (ns : List Int), ns.length ≤ n → (∀ p ∈ CT, H p.2 = some (.tbl #[])) → SqL K H a (ns.map V.int) → sp [.ref a] H fun v _ => v = .bl true) ∧
        ∀ base : Heap, K.In base → base.Ns mainGlobals mg → (∀ p ∈ CT, LamX.TabB base mg p.1 p.2) → (∃ o, base.get? sysModules = some o) → FnG l.prog w K mg base k fa fd [x] sp) :
    PySem.W.WalkO q loose XP YP l.row.toRowW d [] (fun f vs => PySem.call f vs) := by
  refine Att.attach_callB h1 h3 fun w s0 s mg mb fa o pm cd doc a vs ns G Y e1 e2 e3 e4 e5 e6 e7 e8 e9 => ?_
  obtain ⟨K, CT, fd, sp, k1, k2, k3, k4, k5, k6, k7⟩ := F w mg fa _ Y G.T.g e4
  have bi : ∀ p ∈ CT, s.heap.BuiltinsAt mg p.2 := fun p hp => by
    obtain ⟨bm, ob, b1, b2, b3, b4, b5, b6⟩ := G.T.bmain
    refine ⟨bm, ob, b1, b2, fun z => ?_, fun z => ?_, b3, b4, b5, b6⟩
    · obtain ⟨o, es, ep, e, d, _⟩ := G.T.g
      rw [← z, b3] at e; cases e; rw [b6] at d; cases d
    · rw [z, k2 p hp] at b3; cases b3; cases b6
  exact law_callN k1 G.T.g G.T.b G.T.builtins G.T.nolimit e9 k2 k3 k4 bi (by obtain ⟨mm, z, _⟩ := (G.T.seer h5).mods; exact ⟨mm, z⟩) e5 e6 (Nat.le_trans e7 h2) h4 k7 k5 fun H t s => k6 H a ns e7 t s
end FM
-- K6Tell
set_option maxRecDepth 100000
set_option maxHeartbeats 1000000
namespace K0
open PySem L2 FM He
theorem _root_.LamX.ExtN.same {H H1 H2 : Hp} (e : LamX.ExtN H H1) (S : Same H1 H2) : LamX.ExtN H H2 := e.trans (LamX.ExtN.of S)
section
variable {σ : L2.St}
theorem app_mk {K : PySem.W.Frag} {i : Nat} {l : Addr} {t : L2.TA} {D : Ends} {H : Hp} {xs : List V} (hv : σ[i]? = some (some (.ref l))) (hl : H l = some (.lst xs))
    (h : t σ H fun vs H2 => rAppend (.ref l) vs H2 fun _ H1 => D.nx σ H1) : tDrop (tBM K "list" rAppend (tVar i) t) D σ H := ⟨_, hv, .inl ⟨rfl, xs, SqL.of hl⟩, h⟩
theorem app_end {l : Addr} {H : Hp} {Q : VK} {y : V} {xs : List V} (hl : H l = some (.lst xs)) (hx : xs.length < 1000) (k : Q .non (upd H l (.lst (xs ++ [y])))) : rAppend (.ref l) [y] H Q :=
  ⟨l, xs, y, rfl, rfl, hl, by rw [sizeLine_eq]; omega, k⟩
theorem app_nil {l : Addr} {H : Hp} {Q : VK} {y : V} {xs : List V} (hl : H l = some (.lst xs)) (hx : xs.length ≤ 100) (k : Q .non (upd H l (.lst (xs ++ [y])))) : tNil σ H fun us H2 => rAppend (.ref l) (y :: us) H2 Q :=
  app_end hl (by omega) k
theorem asg_raw {ts : L2.TA} {g : TG} {D : Ends} {H : Hp} (h : ts σ H fun vs H1 => vs.length ≤ sizeLine ∧ ∀ p, H1 p = none → g (.ref p) σ (upd H1 p (.lst vs)) D.nx) : tAsg (tLst ts) g D σ H := h
theorem cons_go {t : L2.TE} {ts : L2.TA} {Q : List V → Hp → Prop} {H : Hp} (h : t σ H fun v H1 => ts σ H1 fun vs H2 => Q (v :: vs) H2) : tCons t ts σ H Q := h
end
/-! what told tells of a lambda -/
def Tells (K : PySem.W.Frag) (Hb : Hp) (σ : L2.St) (t : XK → L2.TE) (s : Str) : Prop := ∀ (H1 : Hp) (Q : VK), LamX.ExtN Hb H1 → (∀ H2, Same H1 H2 → Q (.str s) H2) → t (ETold K Q) σ H1 (fun _ H' => Q (.str "returned") H')
theorem told_err {K : PySem.W.Frag} {Q : VK} {H1 : Hp} {x : Str} (hx : x ∈ two) (k : ∀ H2, Same H1 H2 → Q (.str (nameOf x)) H2) : ∀ H', Same H1 H' → ETold K Q (.ref (ga K x)) none H' := fun H' S => ⟨x, hx, rfl, rfl, fun H2 S2 => k H2 (S.trans S2)⟩
theorem told_lam {K : PySem.W.Frag} {Ts : List (Addr × Str)} {Hb H : Hp} {σ : L2.St} {t : XK → L2.TE} {s : Str} {Q : VK} (ht : LamX.Tabs Ts H) (hb : LamX.ExtN Hb H) (h : Tells K Hb σ t s)
    (k : ∀ H', LamX.ExtN H H' → LamX.Tabs Ts H' → Q (.str s) H') : LamX.tLam Ts (TTold K) t σ H Q :=
  ⟨ht, fun H1 e1 t1 => h H1 Q (hb.trans e1) fun H2 S2 => k H2 (e1.same S2) (t1.ext S2)⟩
/-- the list of what was told so far -/
structure Found (Ts : List (Addr × Str)) (Hb : Hp) (pf : Addr) (H : Hp) (ss : List Str) : Prop where
  no : Hb pf = none
  ext : LamX.ExtN Hb H
  tabs : LamX.Tabs Ts H
  at_ : H pf = some (.lst (ss.map V.str))
theorem extN_put {Hb H1 : Hp} {pf : Addr} {o : HO} (e : LamX.ExtN Hb H1) (no : Hb pf = none) : LamX.ExtN Hb (upd H1 pf o) := fun a u ha n => by
  rw [upd_ne (ne_of_none ha no)]
  exact e a u ha n
theorem tabs_put {Ts : List (Addr × Str)} {H : Hp} {pf : Addr} {xs ys : List V} (h : LamX.Tabs Ts H) (e : H pf = some (.lst xs)) : LamX.Tabs Ts (upd H pf (.lst ys)) := fun p hp => by
  obtain ⟨ps, h1, h2, h3⟩ := h p hp
  refine ⟨ps, by rw [upd_ne (ne_of h1 e (fun z => nomatch z))]; exact h1, h2, fun pos cv hc => ?_⟩
  obtain ⟨c, e1, e2⟩ := h3 pos cv hc
  refine ⟨c, e1, ?_⟩
  have ne : c ≠ pf := ne_of e2 e fun z => by
    have z' : HO.ext _ = HO.lst xs := z
    cases z'
  rw [upd_ne ne]
  exact e2
section
variable {K : PySem.W.Frag} {Ts : List (Addr × Str)} {Hb H : Hp} {pf : Addr} {ss : List Str} {s : Str} {σ : L2.St} {t : XK → L2.TE} {D : Ends} {i : Nat}
theorem found_app (hv : σ[i]? = some (some (.ref pf))) (F : Found Ts Hb pf H ss) (h9 : ss.length ≤ 20) (h : Tells K Hb σ t s) (k : ∀ H', Found Ts Hb pf H' (ss ++ [s]) → D.nx σ H') :
    tDrop (tBM K "list" rAppend (tVar i) (tCons (LamX.tLam Ts (TTold K) t) tNil)) D σ H := by
  refine app_mk hv F.at_ (told_lam F.tabs F.ext h fun H' e1 t1 => app_nil (xs := ss.map V.str) (e1 _ _ F.at_ (fun _ => by simp)) (by rw [List.length_map]; omega) (k _ ?_))
  exact ⟨F.no, extN_put (F.ext.trans e1) F.no, tabs_put t1 (e1 _ _ F.at_ (fun _ => by simp)), by rw [upd_same, List.map_append]; rfl⟩
/-- found = [told(lambda)] -/
theorem found_new {g : TG} (ht : LamX.Tabs Ts H) (hb : LamX.ExtN Hb H) (h : Tells K Hb σ t s) (k : ∀ pf H0 H', LamX.ExtN H H0 → Found Ts H0 pf H' [s] → g (.ref pf) σ H' D.nx) :
    tAsg (tLst (tCons (LamX.tLam Ts (TTold K) t) tNil)) g D σ H :=
  asg_raw (cons_go (told_lam ht hb h fun H' e1 t1 => ⟨by show 1 ≤ sizeLine; rw [sizeLine_eq]; decide, fun p np =>
    k p H' _ e1 ⟨np, LamX.ExtN.of (same_upd np), t1.ext (same_upd np), upd_same⟩⟩))
/-- found + [told(lambda)] -/
theorem found_plus {Q : VK} (hv : σ[i]? = some (some (.ref pf))) (F : Found Ts Hb pf H ss) (h9 : ss.length ≤ 20) (h : Tells K Hb σ t s) (k : ∀ q H', Found Ts Hb pf H' ss → H' q = some (.lst ((ss ++ [s]).map V.str)) → LamX.ExtN H H' → Q (.ref q) H') :
    tOp rCat (tVar i) (tLst (tCons (LamX.tLam Ts (TTold K) t) tNil)) σ H Q := by
  refine ⟨_, hv, told_lam F.tabs F.ext h fun H' e1 t1 => ⟨by show 1 ≤ sizeLine; rw [sizeLine_eq]; decide, fun p np => ?_⟩⟩
  have S1 := same_upd (o := .lst [V.str s]) np
  refine ⟨pf, p, _, _, rfl, rfl, S1 _ _ (e1 _ _ F.at_ (fun _ => by simp)), upd_same, by rw [List.length_map, sizeLine_eq]; show ss.length + 1 ≤ _; omega, fun q nq => ?_⟩
  have S2 := same_upd (o := .lst (ss.map V.str ++ [V.str s])) nq
  have S := S1.trans S2
  refine k q _ ⟨F.no, (F.ext.trans e1).same S, t1.ext S, S _ _ (e1 _ _ F.at_ (fun _ => by simp))⟩ ?_ (e1.same S)
  rw [upd_same, List.map_append]
  rfl
theorem Found.more {H' : Hp} (F : Found Ts Hb pf H ss) (e : LamX.ExtN H H') (t : LamX.Tabs Ts H') : Found Ts Hb pf H' ss := ⟨F.no, F.ext.trans e, t, e _ _ F.at_ (fun _ => by simp)⟩
theorem Found.same {H' : Hp} (F : Found Ts Hb pf H ss) (S : Same H H') : Found Ts Hb pf H' ss := F.more (LamX.ExtN.of S) (F.tabs.ext S)
/-- [x] * n -/
theorem rep_mk {x : Str} {n : Nat} {Q : VK} (hn : n ≤ 100) (k : ∀ q H', Same H H' → H' q = some (.lst ((List.replicate n x).map V.str)) → Q (.ref q) H') : tOp rRep (tLst (tCons (tC (.str x)) tNil)) (tC (.int (n : Nat))) σ H Q := by
  refine ⟨by show 1 ≤ sizeLine; rw [sizeLine_eq]; decide, fun p np => ⟨p, n, [.str x], rfl, rfl, upd_same, by omega, by omega, ?_, fun q nq => ?_⟩⟩
  · show 1 * ((n : Nat) : Int).toNat ≤ sizeLine
    rw [sizeLine_eq, Int.toNat_natCast]
    omega
  · refine k q _ ((same_upd np).trans (same_upd nq)) ?_
    rw [upd_same, Int.toNat_natCast, List.flatten_replicate_singleton, List.map_replicate]
/-- found != [x] * n -/
theorem found_ne {x : Str} {n : Nat} {Q : VK} (hv : σ[i]? = some (some (.ref pf))) (F : Found Ts Hb pf H ss) (hn : n ≤ 100) (e : ss = List.replicate n x) (k : ∀ H', Found Ts Hb pf H' ss → LamX.ExtN H H' → Q (.bl false) H') :
    tOp (rNeS K) (tVar i) (tOp rRep (tLst (tCons (tC (.str x)) tNil)) (tC (.int (n : Nat)))) σ H Q := by
  refine ⟨_, hv, rep_mk hn fun q H' S hq => ⟨pf, q, ss, _, rfl, rfl, SqL.of (F.same S).at_, SqL.of hq, ?_⟩⟩
  rw [decide_eq_true e]
  exact k H' (F.same S) (LamX.ExtN.of S)
/-- found + [told(lambda)] == [x] * n -/
theorem found_eq {x : Str} {n : Nat} {Q : VK} (hv : σ[i]? = some (some (.ref pf))) (F : Found Ts Hb pf H ss) (h9 : ss.length ≤ 20) (h : Tells K Hb σ t s) (hn : n ≤ 100) (e : ss ++ [s] = List.replicate n x) (k : ∀ H', Found Ts Hb pf H' ss → LamX.ExtN H H' → Q (.bl true) H') :
    tOp (rEqS K) (tOp rCat (tVar i) (tLst (tCons (LamX.tLam Ts (TTold K) t) tNil))) (tOp rRep (tLst (tCons (tC (.str x)) tNil)) (tC (.int (n : Nat)))) σ H Q := by
  refine found_plus hv F h9 h fun q H' F' hq e' => rep_mk hn fun r H2 S hr => ⟨q, r, ss ++ [s], _, rfl, rfl, SqL.of (S _ _ hq), SqL.of hr, ?_⟩
  rw [decide_eq_true e]
  exact k H2 (F'.same S) (e'.same S)
theorem found_neP {x : Str} {n : Nat} {Q : VK} (hv : σ[i]? = some (some (.ref pf))) (F : Found Ts Hb pf H ss) (h9 : ss.length ≤ 20) (h : Tells K Hb σ t s) (hn : n ≤ 100) (e : ss ++ [s] = List.replicate n x) (k : ∀ H', Found Ts Hb pf H' ss → LamX.ExtN H H' → Q (.bl false) H') :
    tOp (rNeS K) (tOp rCat (tVar i) (tLst (tCons (LamX.tLam Ts (TTold K) t) tNil))) (tOp rRep (tLst (tCons (tC (.str x)) tNil)) (tC (.int (n : Nat)))) σ H Q := by
  refine found_plus hv F h9 h fun q H' F' hq e' => rep_mk hn fun r H2 S hr => ⟨q, r, ss ++ [s], _, rfl, rfl, SqL.of (S _ _ hq), SqL.of hr, ?_⟩
  rw [decide_eq_true e]
  exact k H2 (F'.same S) (e'.same S)
end
end K0
-- K6Bad
set_option maxRecDepth 100000
set_option maxHeartbeats 1000000
namespace K0
open PySem L2 FM He
theorem AllP.len {H : Hp} : ∀ {φs : List (Hp → V → Prop)} {ys : List V}, AllP φs H ys → ys.length = φs.length
  | [], [], _ => rfl
  | _ :: _, _ :: _, h => by rw [List.length_cons, List.length_cons, AllP.len h.2]
  | [], _ :: _, h => h.elim
  | _ :: _, [], h => h.elim
theorem AllP.one {φ : Hp → V → Prop} {H : Hp} {ys : List V} (h : AllP [φ] H ys) : ∃ x, ys = [x] ∧ φ H x := by
  match ys, h with
  | [x], h => exact ⟨x, rfl, h.1⟩
theorem AllP.two {φ ψ : Hp → V → Prop} {H : Hp} {ys : List V} (h : AllP [φ, ψ] H ys) : ∃ x y, ys = [x, y] ∧ φ H x ∧ ψ H y := by
  match ys, h with
  | [x, y], h => exact ⟨x, y, rfl, h.1, h.2.1⟩
section
variable {K : PySem.W.Frag} {H : Hp} {p s : Addr} {x y y1 y2 : V} {ys xs : List V}
abbrev BadPat (K : PySem.W.Frag) : Hp → V → Prop := fun H y => PatV K H y false
abbrev OddIt (K : PySem.W.Frag) : Hp → V → Prop := fun H y => ItemV K H y false
theorem bp_nt (h : NotTy K H y "tuple") : PatV K H y false := .inl ⟨h, rfl⟩
theorem bp_len (e : H p = some (.tup xs)) (h : xs.length ≠ 2) : PatV K H (.ref p) false := .inr (.inl ⟨p, xs, rfl, SqT.of e, h, rfl⟩)
theorem bp_y1 (e : H p = some (.tup [y1, y2])) (h : NotTy K H y1 "tuple") : PatV K H (.ref p) false := .inr (.inr ⟨p, y1, y2, rfl, SqT.of e, .inl ⟨h, rfl⟩⟩)
theorem bp_y2 (e : H p = some (.tup [.ref s, y2])) (es : H s = some (.tup ys)) (l : ys.length ≤ 60) (h : NotTy K H y2 "bool") : PatV K H (.ref p) false :=
  .inr (.inr ⟨p, _, y2, rfl, SqT.of e, .inr ⟨s, ys, rfl, SqT.of es, l, .inl ⟨h, rfl⟩⟩⟩)
theorem bp_many {w : Bool} (e : H p = some (.tup [.ref s, .bl w])) (es : H s = some (.tup ys)) (l : ys.length ≤ 60) (h : 3 < ys.length) : PatV K H (.ref p) false :=
  .inr (.inr ⟨p, _, _, rfl, SqT.of e, .inr ⟨s, ys, rfl, SqT.of es, l, .inr ⟨w, rfl, .inl ⟨h, rfl⟩⟩⟩⟩)
theorem bp_its {w : Bool} (e : H p = some (.tup [.ref s, .bl w])) (es : H s = some (.tup ys)) (l : ys.length ≤ 3) (bs : List Bool) (hb : bs.length = ys.length) (h : ∀ (i : Nat) (y : V) (c : Bool), ys[i]? = some y → bs[i]? = some c → ItemV K H y c) (f : bs.all id = false) : PatV K H (.ref p) false :=
  .inr (.inr ⟨p, _, _, rfl, SqT.of e, .inr ⟨s, ys, rfl, SqT.of es, by omega, .inr ⟨w, rfl, .inr ⟨l, bs, hb, h, f.symm⟩⟩⟩⟩)
theorem bp_its1 {w : Bool} (e : H p = some (.tup [.ref s, .bl w])) (es : H s = some (.tup [x])) (h : ItemV K H x false) : PatV K H (.ref p) false :=
  bp_its e es (by show 1 ≤ 3; decide) [false] rfl (fun i y c hy hc => match i, hy, hc with | 0, hy, hc => by cases hy; cases hc; exact h) rfl
theorem bp_its2 {w a : Bool} (e : H p = some (.tup [.ref s, .bl w])) (es : H s = some (.tup [x, y])) (h1 : ItemV K H x a) (h2 : ItemV K H y false) : PatV K H (.ref p) false :=
  bp_its e es (by show 2 ≤ 3; decide) [a, false] rfl (fun i y c hy hc => match i, hy, hc with | 0, hy, hc => by cases hy; cases hc; exact h1 | 1, hy, hc => by cases hy; cases hc; exact h2) (by cases a <;> rfl)
theorem not_bool_int {i : Int} : NotTy K H (.int i) "bool" := ⟨_, .base (.int i), kit_ty (by decide +kernel)⟩
theorem not_bool_non : NotTy K H .non "bool" := ⟨_, .base .non, kit_ty (by decide +kernel)⟩
theorem not_bool_tup (e : H p = some (.tup xs)) : NotTy K H (.ref p) "bool" := ⟨_, ty_tup (SqT.of e), kit_ty (by decide +kernel)⟩
theorem nt_lst (e : H p = some (.lst xs)) : NotTy K H (.ref p) "tuple" := (nst_lst e).2
theorem odd_nt (h : NotTy K H y "tuple") : ItemV K H y false := .inl ⟨h, rfl⟩
theorem odd_len (e : H p = some (.tup xs)) (h : xs.length ≠ 2) : ItemV K H (.ref p) false := .inr (.inl ⟨p, xs, rfl, SqT.of e, h, rfl⟩)
theorem odd_w (e : H p = some (.tup [y1, y2])) (h : WordV K H y1 false) : ItemV K H (.ref p) false := .inr (.inr ⟨p, y1, y2, rfl, SqT.of e, .inl ⟨h, rfl⟩⟩)
theorem odd_l {z : Str} (e : H p = some (.tup [.str z, y2])) (h1 : isWord z = true := by decide +kernel) (h2 : z.length < 64 := by decide) (h3 : z = "" ∨ lets z = false := by decide +kernel) : ItemV K H (.ref p) false :=
  .inr (.inr ⟨p, _, y2, rfl, SqT.of e, .inr ⟨z, rfl, h1, h2, .inl ⟨h3, rfl⟩⟩⟩)
theorem odd_k {z : Str} (e : H p = some (.tup [.str z, y2])) (h : KindV K H y2 false) (h1 : isWord z = true := by decide +kernel) (h2 : z.length < 64 := by decide) (h3 : z ≠ "" := by decide) (h4 : lets z = true := by decide +kernel) : ItemV K H (.ref p) false :=
  .inr (.inr ⟨p, _, y2, rfl, SqT.of e, .inr ⟨z, rfl, h1, h2, .inr ⟨h3, h4, h⟩⟩⟩)
/-- an item of a written list -/
def ItemT (H : Hp) (y : V) : Prop := ∃ q z kd, y = .ref q ∧ H q = some (.tup [.str z, .str (kindS kd)]) ∧ isWord z = true ∧ z.length < 64 ∧ z ≠ "" ∧ lets z = true
theorem ItemT.v (h : ItemT H y) : ItemV K H y true := by
  obtain ⟨q, z, kd, rfl, e, h1, h2, h3, h4⟩ := h
  refine .inr (.inr ⟨q, _, _, rfl, SqT.of e, .inr ⟨z, rfl, h1, h2, .inr ⟨h3, h4, .inl ⟨_, rfl, ?_⟩⟩⟩⟩)
  unfold kindS
  cases kd <;> decide
theorem bp_item {w : Bool} (e : H p = some (.tup [x, .bl w])) (h : ItemT H x) : PatV K H (.ref p) false := by
  obtain ⟨q, z, kd, rfl, hq, _⟩ := h
  exact bp_its2 (a := false) e hq (odd_nt not_tup_str) (odd_nt not_tup_str)
theorem tup_al {b : Addr} (hb : BagAt b H) (e : H p = some (.tup xs)) : AL b (fun H y => y = .ref p ∧ H p = some (.tup xs)) H (.ref p) := fun Hf k => ⟨rfl, (TK.keepN hb k) _ _ e⟩
end
section
variable {b : Addr} {H0 : Hp} {σ : L2.St}
theorem el_kind {z k : Str} (hb : BagAt b H0) (h1 : isWord z = true := by decide +kernel) (h2 : z.length < 64 := by decide) (h3 : z ≠ "" := by decide) (h4 : lets z = true := by decide +kernel) (kd : Bool) (e : k = kindS kd := by rfl) : EltA b ItemT H0 σ (tTup (tCons (tC (.str z)) (tCons (tC (.str k)) tNil))) :=
  el_tup hb (elL_cons (el_c (φ := fun _ v => v = .str z) fun _ => rfl) (elL_cons (el_c (φ := fun _ v => v = .str k) fun _ => rfl) elL_nil)) (by show 2 ≤ 10; decide) fun H p xs e' ap => by
    obtain ⟨u, v, rfl, rfl, rfl⟩ := ap.two
    subst e
    exact ⟨p, z, kd, rfl, e', h1, h2, h3, h4⟩
theorem el_two {ψ : Hp → V → Prop} {x y : V} (hb : BagAt b H0) (h : ∀ H p, H p = some (.tup [x, y]) → ψ H (.ref p)) : EltA b ψ H0 σ (tTup (tCons (tC x) (tCons (tC y) tNil))) :=
  el_tup hb (elL_cons (el_c (φ := fun _ v => v = x) fun _ => rfl) (elL_cons (el_c (φ := fun _ v => v = y) fun _ => rfl) elL_nil)) (by show 2 ≤ 10; decide) fun H p xs e ap => by
    obtain ⟨u, v, rfl, rfl, rfl⟩ := ap.two
    exact h H p e
/-- so it is as long as tuples stay -/
def AT (b : Addr) (H0 H : Hp) (φ : Hp → V → Prop) (y : V) : Prop := ∀ Hf, KeepN b H0 Hf → TK H Hf → φ Hf y
theorem AT.far {φ : Hp → V → Prop} {H H1 : Hp} {y : V} (h : AT b H0 H φ y) (k : TK H H1) : AT b H0 H1 φ y := fun Hf a c => h Hf a (k.trans c)
theorem AT.al {φ : Hp → V → Prop} {H : Hp} {y : V} (h : AT b H0 H φ y) (hb : BagAt b H) (k : KeepN b H0 H) : AL b φ H y := fun Hf z => h Hf (k.trans z) (TK.keepN hb z)
end
def spBadP (K : PySem.W.Frag) : Sp := fun vs H Q _ => ∃ (b p : Addr) (its : List (Str × Bool)) (whole : Bool), vs = [.ref b, .ref p] ∧ BagAt b H ∧ DrawnPat H p its whole ∧
  ∀ q xs H', Keep (J b) H H' → BagAt b H' → H' q = some (.lst xs) → q ≠ b → 0 < xs.length → xs.length < 100 → (∀ y ∈ xs, AL b (BadPat K) H' y) → Q (.ref q) H'
section
variable {P : Program} {w : World} {K : PySem.W.Frag} {mg : Str → Option Value} {base : Heap}
theorem ok_law_bad_patterns {f : Addr} {fd : FuncData} (F : FnP K "_law_bad_patterns" s__law_bad_patterns f fd) (T : TP K mg) : FnOk P w K mg base CX0 3 f fd ["_law_bag", "_law_pattern"] (spBadP K) := by
  obtain ⟨d__law_pick, F__law_pick⟩ := T.f__law_pick
  have G__law_pick := ok_law_pick (P := P) (w := w) (base := base) F__law_pick T
  have b__law_pick : Binds K d__law_pick ["_law_bag", "_law_items"] [] := F__law_pick.bindsN fun _ _ _ _ _ _ us hl => match us, hl with | [_, _], _ => rfl
  refine F.ok sc__law_bad_patterns (fun vs H Q E h => ?_) (fun cdv A outer s H vs Q E hr h => ?_)
  · obtain ⟨b, p, its, whole, rfl, _⟩ := h
    rfl
  · obtain ⟨b, p, its, whole, rfl, hb, ⟨t, ys, h1, h2, hdi, h3⟩, k⟩ := h
    have nd := sc__law_bad_patterns.nd
    have hl : ys.length ≤ 3 := by have := hdi.2.1; omega
    have at0 : atI ([V.ref t, V.bl whole] : List V) 0 = some (.ref t) := rfl
    refine ⟨_, PSs.nox (C8.pss_cut (ps_asg (pe_tup (pa_cons (pe_ix ix_seq (pv 1) pe_int (fun _ _ => rfl)) (pa_cons (pe_call G__law_pick (hr.mono (by decide)) rfl T.g__law_pick F__law_pick.kp b__law_pick .nil pass0 (pa_cons (pv 0) (pa_cons (pe_lst (pa_cons (pe_tup (pa_cons pe_str (pa_cons pe_str pa_nil))) (pa_cons (pe_tup (pa_cons pe_str (pa_cons pe_str pa_nil))) pa_nil))) pa_nil))) pa_nil))) (pg_tup (by rfl) (pgs_cons (pg_name (i := 2) nd rfl (.inl rfl)) (pgs_cons (pg_name (i := 3) nd rfl (.inr rfl)) pgs_nil))))
      (C8.pss_cut (ps_set (i := 4) nd rfl (.inl rfl) (pe_lst (pa_cons pe_non (pa_cons pe_int (pa_cons (pe_tup pa_nil) (pa_cons (pe_lst pa_nil) (pa_cons pe_dnewK (pa_cons pe_str (pa_cons (pv 2) (pa_cons (pe_tup (pa_cons (pv 2) pa_nil)) (pa_cons (pe_tup (pa_cons (pv 2) (pa_cons pe_int pa_nil))) (pa_cons (pe_tup (pa_cons (pv 2) (pa_cons pe_non pa_nil))) (pa_cons (pe_tup (pa_cons (pv 2) (pa_cons pe_int pa_nil))) (pa_cons (pe_tup (pa_cons (pe_callTy call_list_of (by rfl) T.b_list (by decide +kernel) (pa_cons (pv 2) pa_nil)) (pa_cons pe_bl pa_nil))) pa_nil))))))))))))))
      (C8.pss_cut (ps_set (i := 4) nd rfl (.inl rfl) (pe_op op_cat (pv 4) (pe_lst (pa_cons (pe_callTy call_list_of (by rfl) T.b_list (by decide +kernel) (pa_cons (pv 1) pa_nil)) (pa_cons (pe_op op_catT (pv 1) (pe_tup (pa_cons pe_bl pa_nil))) (pa_cons (pe_tup (pa_cons (pe_op op_repT (pe_tup (pa_cons (pv 3) pa_nil)) pe_int) (pa_cons pe_bl pa_nil))) (pa_cons (pe_tup (pa_cons (pe_tup (pa_cons (pv 3) (pa_cons pe_non pa_nil))) (pa_cons pe_bl pa_nil))) (pa_cons (pe_tup (pa_cons pe_non (pa_cons pe_bl pa_nil))) pa_nil))))))))
      (C8.pss_cut (ps_set (i := 5) nd rfl (.inl rfl) (pe_lst (pa_cons (pe_tup (pa_cons pe_str (pa_cons pe_str pa_nil))) (pa_cons (pe_tup (pa_cons pe_str (pa_cons pe_str pa_nil))) (pa_cons (pe_tup (pa_cons pe_str (pa_cons pe_str pa_nil))) (pa_cons (pe_tup (pa_cons pe_str (pa_cons pe_str pa_nil))) (pa_cons (pe_tup (pa_cons pe_str (pa_cons pe_str pa_nil))) (pa_cons (pe_tup (pa_cons pe_str (pa_cons pe_non pa_nil))) (pa_cons (pe_tup (pa_cons pe_str pa_nil)) (pa_cons pe_str pa_nil))))))))))
      (C8.pss_cut (ps_set (i := 4) nd rfl (.inl rfl) (pe_op op_cat (pv 4) (pe_lc (own := [("_law_odd", 6)]) rfl nd (pi_list (pv 5)) (blkOk_by (own := [("_law_odd", 6)]) (N := ["_law_bag", "_law_pattern", "_law_items", "_law_item", "_law_some", "_law_bad", "_law_odd"]) (sc := defScope s__law_bad_patterns) (by decide +kernel)) (fun _ _ _ _ _ => (pg_name (i := 6) nd rfl (.inl rfl))) (fun _ _ _ _ _ => pts_nil) (fun _ _ _ _ _ => (pe_tup (pa_cons (pe_tup (pa_cons (pv 6) pa_nil)) (pa_cons pe_bl pa_nil)))))))
      (C8.pss_cut (ps_set (i := 5) nd rfl (.inl rfl) (pe_lst (pa_cons (pe_tup (pa_cons pe_str (pa_cons pe_str (pa_cons pe_int pa_nil)))) (pa_cons (pe_tup (pa_cons pe_str (pa_cons pe_str pa_nil))) (pa_cons (pe_tup (pa_cons (pe_tup (pa_cons pe_str pa_nil)) (pa_cons pe_str pa_nil))) (pa_cons (pe_tup (pa_cons pe_non (pa_cons pe_str pa_nil))) (pa_cons (pe_tup (pa_cons pe_str (pa_cons (pe_lst (pa_cons pe_str pa_nil)) pa_nil))) (pa_cons (pe_tup (pa_cons pe_str (pa_cons pe_str pa_nil))) (pa_cons (pe_lst (pa_cons pe_str (pa_cons pe_str pa_nil))) pa_nil)))))))))
      (C8.pss_cut (ps_set (i := 4) nd rfl (.inl rfl) (pe_op op_cat (pv 4) (pe_lc (own := [("_law_odd", 6)]) rfl nd (pi_list (pv 5)) (blkOk_by (own := [("_law_odd", 6)]) (N := ["_law_bag", "_law_pattern", "_law_items", "_law_item", "_law_some", "_law_bad", "_law_odd"]) (sc := defScope s__law_bad_patterns) (by decide +kernel)) (fun _ _ _ _ _ => (pg_name (i := 6) nd rfl (.inl rfl))) (fun _ _ _ _ _ => pts_nil) (fun _ _ _ _ _ => (pe_tup (pa_cons (pe_tup (pa_cons (pv 3) (pa_cons (pv 6) pa_nil))) (pa_cons pe_bl pa_nil)))))))
      (pss_one (ps_ret (pe_op op_cat (pv 4) (pe_lst (pa_cons (pe_tup (pa_cons (pv 3) (pa_cons pe_bl pa_nil))) (pa_cons (pe_tup (pa_cons (pe_tup (pa_cons pe_str (pa_cons pe_str pa_nil))) (pa_cons pe_bl pa_nil))) (pa_cons (pe_tup (pa_cons pe_bl (pa_cons pe_bl pa_nil))) pa_nil)))))))))))))), ?_⟩
    refine ⟨fun σ H1 => ∃ it, σ = [some (.ref b), some (.ref p), some (.ref t), some it, none, none, none] ∧ Keep (J b) H H1 ∧ BagAt b H1 ∧ AL b ItemT H1 it, ?_, ?_⟩
    · refine ⟨_, rfl, .inr (.inl ⟨p, _, 0, _, rfl, rfl, SqT.of h1, at0, ?_⟩)⟩
      refine pick_lst (φ := ItemT) (j := 0) (c := 2) hb rfl (es_cons (el_kind hb (kd := false)) (es_cons (el_kind hb (kd := true)) es_nil)) (by decide) (by decide) fun y H2 k2 b2 a2 => ?_
      refine ⟨by show 2 ≤ sizeLine; rw [sizeLine_eq]; decide, fun q nq => ?_⟩
      have S := same_upd (o := .tup [V.ref t, y]) nq
      exact ⟨q, _, rfl, SqT.of upd_same, rfl, _, _, rfl, _, _, rfl, rfl, y, rfl, k2.trans (Keep.of S), b2.same S, a2.same S⟩
    rintro σ H1 ⟨it, rfl, k1, hb1, hit⟩
    have t1 := TK.keep hb k1
    have e1 := t1 _ _ h1
    have e2 := t1 _ _ h2
    have hd1 := hdi.far t1
    have ai := tup_al hb1 e2
    have ap := tup_al hb1 e1
    clear hdi h1 h2
    let φI : Hp → V → Prop := fun H y => y = .ref t ∧ H t = some (.tup ys)
    let φT : Hp → V → Prop := fun _ _ => True
    have tr : ∀ {v : V} {H : Hp} {σ : L2.St}, EltA b φT H σ (tC v) := el_c fun _ => trivial
    -- the first twelve
    refine ⟨fun σ H2 => ∃ q xs, σ = [some (.ref b), some (.ref p), some (.ref t), some it, some (.ref q), none, none] ∧ Same H1 H2 ∧ H2 q = some (.lst xs) ∧ xs.length = 12 ∧ ∀ y ∈ xs, AL b (BadPat K) H2 y, ?_, ?_⟩
    · refine asg_es ?_ (by decide) fun q vs H2 S2 hq _ l ok => ⟨q, vs, rfl, S2, hq, l, ok⟩
      have iv : EltA b φI H1 [some (V.ref b), some (V.ref p), some (V.ref t), some it, none, none, none] (tVar 2) := el_var rfl ai
      refine (es_cons (el_c fun _ => bp_nt nst_non.2)
        (es_cons (el_c fun _ => bp_nt nst_int.2)
        (es_cons (el_tup hb1 elL_nil (by decide) fun H p xs e ap => bp_len e (by rw [ap.len]; decide))
        (es_cons (el_lst hb1 elL_nil (by decide) fun H p xs e _ => bp_nt (nst_lst e).2)
        (es_cons (el_dnew hb1 fun H p e => bp_nt (nst_dK e).2)
        (es_cons (el_c fun _ => bp_nt not_tup_str)
        (es_cons (el_var rfl ?_)
        (es_cons (el_tup hb1 (elL_cons iv elL_nil) (Nat.le_of_ble_eq_true rfl) fun H p xs e ap => bp_len e (by rw [ap.len]; show 1 ≠ 2; decide))
        (es_cons (el_tup hb1 (elL_cons iv (elL_cons (el_c (φ := fun _ v => v = .int 1) fun _ => rfl) elL_nil)) (Nat.le_of_ble_eq_true rfl) fun H p xs e ap => (by obtain ⟨x, y, rfl, ⟨rfl, h⟩, rfl⟩ := ap.two; exact bp_y2 e h (by omega) not_bool_int))
        (es_cons (el_tup hb1 (elL_cons iv (elL_cons (el_c (φ := fun _ v => v = .non) fun _ => rfl) elL_nil)) (Nat.le_of_ble_eq_true rfl) fun H p xs e ap => (by obtain ⟨x, y, rfl, ⟨rfl, h⟩, rfl⟩ := ap.two; exact bp_y2 e h (by omega) not_bool_non))
        (es_cons (el_tup hb1 (elL_cons iv (elL_cons (el_c (φ := fun _ v => v = .int 0) fun _ => rfl) elL_nil)) (Nat.le_of_ble_eq_true rfl) fun H p xs e ap => (by obtain ⟨x, y, rfl, ⟨rfl, h⟩, rfl⟩ := ap.two; exact bp_y2 e h (by omega) not_bool_int))
        (es_cons (el_tup hb1 (elL_cons (φ := fun H y => ∃ l xs, y = .ref l ∧ H l = some (.lst xs)) ?_ (elL_cons tr elL_nil)) (Nat.le_of_ble_eq_true rfl) fun H p xs e ap => (by obtain ⟨x, y, rfl, ⟨l, zs, rfl, h⟩, _⟩ := ap.two; exact bp_y1 e (nt_lst h)))
        es_nil))))))))))))
      · intro Hf z
        have tk := TK.keepN hb1 z
        have ef := tk _ _ e2
        obtain ⟨_, hlen, hitm⟩ := hd1.far tk
        by_cases l2 : ys.length = 2
        · obtain ⟨y1, y2, rfl⟩ : ∃ y1 y2, ys = [y1, y2] := by
            match ys, l2 with
            | [a, c], _ => exact ⟨a, c, rfl⟩
          have i0 : its[0]? = some its[0] := List.getElem?_eq_getElem (by rw [← hlen]; show 0 < 2; decide)
          have i1 : its[1]? = some its[1] := List.getElem?_eq_getElem (by rw [← hlen]; show 1 < 2; decide)
          obtain ⟨q1, rfl, z1⟩ := hitm 0 y1 _ rfl i0
          obtain ⟨q2, rfl, z2⟩ := hitm 1 y2 _ rfl i1
          exact bp_y2 ef z1 (by show 2 ≤ 60; decide) (not_bool_tup z2)
        · exact bp_len ef l2
      · exact fun H Q S k => ⟨_, rfl, t, ys, rfl, .inr (SqT.of (S _ _ e2)), fun l hl => k _ _ (same_upd hl) fun Hf z => ⟨l, ys, rfl, z l _ (bag_ne (hb1.same S) hl) (fun _ => by simp) upd_same⟩⟩
    rintro σ H2 ⟨q, xs, rfl, S2, hq, hl2, hx⟩
    have hb2 := hb1.same S2
    have it2 := hit.same S2
    have ep2 := S2 _ _ e1
    -- five more
    refine ⟨fun σ H3 => ∃ q xs, σ = [some (.ref b), some (.ref p), some (.ref t), some it, some (.ref q), none, none] ∧ Same H1 H3 ∧ H3 q = some (.lst xs) ∧ xs.length = 17 ∧ ∀ y ∈ xs, AL b (BadPat K) H3 y, ?_, ?_⟩
    · refine cat_es (i := 4) (c := 5) rfl hq (by omega) hx ?_ (by decide) fun q ys H3 S3 hq l ok => ⟨q, ys, rfl, S2.trans S3, hq, by rw [l, hl2], ok⟩
      have itv : EltA b ItemT H2 [some (V.ref b), some (V.ref p), some (V.ref t), some it, some (V.ref q), none, none] (tVar 3) := el_var rfl it2
      refine (es_cons (fun H Q S k => ⟨_, rfl, p, _, rfl, .inr (SqT.of (S _ _ ep2)), fun l hl => k _ _ (same_upd hl) fun Hf z => bp_nt (nt_lst (z l _ (bag_ne (hb2.same S) hl) (fun _ => by simp) upd_same))⟩)
        (es_cons ?_
        (es_cons (el_tup hb2 (elL_cons (φ := fun H y => ∃ l v, y = .ref l ∧ H l = some (.tup [v, v, v, v])) ?_ (elL_cons (el_c (φ := fun _ v => v = .bl false) fun _ => rfl) elL_nil)) (Nat.le_of_ble_eq_true rfl) fun H p xs e ap => (by obtain ⟨x, y, rfl, ⟨l, v, rfl, h⟩, rfl⟩ := ap.two; exact bp_many e h (by show 4 ≤ 60; decide) (by show 3 < 4; decide)))
        (es_cons (el_tup hb2 (elL_cons (el_tup (ψ := fun H y => ∃ l x, y = .ref l ∧ H l = some (.tup [x, .non]) ∧ ItemT H x) hb2 (elL_cons itv (elL_cons (el_c (φ := fun _ v => v = .non) fun _ => rfl) elL_nil)) (Nat.le_of_ble_eq_true rfl) fun H p xs e ap => (by obtain ⟨x, y, rfl, h, rfl⟩ := ap.two; exact ⟨p, x, rfl, e, h⟩)) (elL_cons (el_c (φ := fun _ v => v = .bl true) fun _ => rfl) elL_nil)) (Nat.le_of_ble_eq_true rfl) fun H p xs e ap => (by obtain ⟨x, y, rfl, ⟨l, v, rfl, h, hv⟩, rfl⟩ := ap.two; exact bp_its2 e h hv.v (odd_nt nst_non.2)))
        (es_cons (el_tup hb2 (elL_cons (el_c (φ := fun _ v => v = .non) fun _ => rfl) (elL_cons tr elL_nil)) (Nat.le_of_ble_eq_true rfl) fun H p xs e ap => (by obtain ⟨x, y, rfl, rfl, _⟩ := ap.two; exact bp_y1 e nst_non.2))
        es_nil)))))
      · exact fun H Q S k => ⟨_, rfl, by show 1 ≤ sizeLine; rw [sizeLine_eq]; decide, fun u nu => ⟨p, u, _, _, rfl, rfl, SqT.of ((S.trans (same_upd nu)) _ _ ep2), SqT.of upd_same, (fun e => by cases e), by show 2 + 1 ≤ sizeLine; rw [sizeLine_eq]; decide, (fun e => by cases e), fun _ l hl =>
          k _ _ ((same_upd nu).trans (same_upd hl)) fun Hf z => bp_len (z l _ (bag_ne ((hb2.same S).same (same_upd nu)) hl) (fun _ => by simp) upd_same) (by show 3 ≠ 2; decide)⟩⟩
      · exact fun H Q S k => ⟨_, rfl, by show 1 ≤ sizeLine; rw [sizeLine_eq]; decide, fun u nu => ⟨u, 4, _, rfl, rfl, SqT.of upd_same, (fun e => by cases e), by decide, by decide, by show 1 ≤ 1000; decide, fun l hl =>
          k _ _ ((same_upd nu).trans (same_upd hl)) fun Hf z => ⟨l, it, rfl, z l _ (bag_ne ((hb2.same S).same (same_upd nu)) hl) (fun _ => by simp) upd_same⟩⟩⟩
    clear hx hq hl2 xs q ep2 it2 hb2 S2 H2
    rintro σ H2 ⟨q, xs, rfl, S2, hq, hl2, hx⟩
    have hb2 := hb1.same S2
    -- odd items
    refine ⟨fun σ H3 => ∃ u os, σ = [some (.ref b), some (.ref p), some (.ref t), some it, some (.ref q), some (.ref u), none] ∧ Same H2 H3 ∧ H3 u = some (.lst os) ∧ os.length ≤ 10 ∧ ∀ y ∈ os, AL b (OddIt K) H3 y, ?_, ?_⟩
    · refine asg_es (c := 8) ?_ (by decide) fun u vs H3 S3 hu _ l ok => ⟨u, vs, rfl, S3, hu, by omega, ok⟩
      exact (es_cons (el_two hb2 fun H p e => odd_l e)
        (es_cons (el_two hb2 fun H p e => odd_l e)
        (es_cons (el_two hb2 fun H p e => odd_l e)
        (es_cons (el_two hb2 fun H p e => odd_w e bad_str)
        (es_cons (el_two hb2 fun H p e => odd_k e (.inl ⟨_, rfl, by decide +kernel⟩))
        (es_cons (el_two hb2 fun H p e => odd_k e (.inr (.inl ⟨rfl, rfl⟩)))
        (es_cons (el_tup hb2 (elL_cons tr elL_nil) (Nat.le_of_ble_eq_true rfl) fun H p xs e ap => odd_len e (by rw [ap.len]; show 1 ≠ 2; decide))
        (es_cons (el_c fun _ => odd_nt not_tup_str)
        es_nil))))))))
    rintro σ H3 ⟨u, os, rfl, S3, hu, hol, ho⟩
    have hb3 := hb2.same S3
    have hq3 := S3 _ _ hq
    have hx3 : ∀ y ∈ xs, AL b (BadPat K) H3 y := fun y hy => (hx y hy).same S3
    have S13 := S2.trans S3
    clear hx hq hb2 S2 S3 H2
    refine ⟨fun σ H4 => ∃ q xs, σ = [some (.ref b), some (.ref p), some (.ref t), some it, some (.ref q), some (.ref u), none] ∧ Same H1 H4 ∧ H4 q = some (.lst xs) ∧ 0 < xs.length ∧ xs.length < 60 ∧ ∀ y ∈ xs, AL b (BadPat K) H4 y, ?_, ?_⟩
    · refine ⟨_, rfl, _, rfl, u, rfl, ⟨_, SqL.of hu⟩, fun D nD => ?_⟩
      refine lc_list (K := K) (a := u) (xs := os) (fun i H' => Same H3 H' ∧ ∃ zs, H' D = some (.lst zs) ∧ zs.length = i ∧ ∀ z ∈ zs, AT b H3 H' (BadPat K) z) ⟨same_upd nD, [], upd_same, rfl, fun _ h => (nomatch h)⟩ (fun i H' _ h => SqL.of (h.1 _ _ hu)) ?_ ?_
      · rintro i x H' hx' ⟨S, zs, hD, hl, hz⟩
        have hox := ho x (List.mem_of_getElem? hx')
        have hio : i < os.length := (List.getElem?_eq_some_iff.mp hx').1
        refine ⟨rfl, _, rfl, by show 1 ≤ sizeLine; rw [sizeLine_eq]; decide, fun p1 np1 => ⟨by show 2 ≤ sizeLine; rw [sizeLine_eq]; decide, fun p2 np2 => ?_⟩⟩
        have Sa := (same_upd (o := .tup [x]) np1).trans (same_upd (o := .tup [V.ref p1, V.bl false]) np2)
        have hD' := Sa _ _ hD
        have e1' : upd (upd H' p1 (.tup [x])) p2 (.tup [V.ref p1, V.bl false]) p1 = some (.tup [x]) := (same_upd np2) _ _ upd_same
        refine ⟨zs, hD', by rw [sizeLine_eq]; omega, fun a o ha => ?_, zs ++ [.ref p2], upd_same, by rw [List.length_append, hl]; rfl, fun z hz' => ?_⟩
        · rw [upd_ne (ne_of_none ha nD)]
          exact Sa _ _ (S _ _ ha)
        · rcases List.mem_append.mp hz' with h | h
          · exact (hz z h).far ((TK.same Sa).trans (TK.put hD'))
          · rw [List.mem_singleton.mp h]
            exact fun Hf z tk => bp_its1 (tk _ _ ((TK.put hD') _ _ upd_same)) (tk _ _ ((TK.put hD') _ _ e1')) (hox Hf z)
      · rintro H' ⟨S, zs, hD, hl, hz⟩
        refine ⟨q, D, xs, zs, rfl, rfl, S _ _ hq3, hD, by rw [sizeLine_eq]; omega, fun r nr => ?_⟩
        have S5 := S.trans (same_upd (o := .lst (xs ++ zs)) nr)
        refine ⟨r, xs ++ zs, rfl, S13.trans S5, upd_same, by rw [List.length_append]; omega, by rw [List.length_append]; omega, fun y hy => ?_⟩
        rcases List.mem_append.mp hy with h | h
        · exact (hx3 y h).same S5
        · exact ((hz y h).far (TK.same (same_upd nr))).al (hb3.same S5) (KeepN.same S5)
    clear hx3 hq3 hb3 S13 xs hu ho hl2
    clear q H3
    rintro σ H2 ⟨q, xs, rfl, S2, hq, l0, hl2, hx⟩
    have hb2 := hb1.same S2
    -- odd items again
    refine ⟨fun σ H3 => ∃ u os, σ = [some (.ref b), some (.ref p), some (.ref t), some it, some (.ref q), some (.ref u), none] ∧ Same H2 H3 ∧ H3 u = some (.lst os) ∧ os.length ≤ 10 ∧ ∀ y ∈ os, AL b (OddIt K) H3 y, ?_, ?_⟩
    · refine asg_es (c := 7) ?_ (by decide) fun u vs H3 S3 hu _ l ok => ⟨u, vs, rfl, S3, hu, by omega, ok⟩
      exact (es_cons (el_tup hb2 (elL_cons tr (elL_cons tr (elL_cons tr elL_nil))) (Nat.le_of_ble_eq_true rfl) fun H p xs e ap => odd_len e (by rw [ap.len]; show 3 ≠ 2; decide))
        (es_cons (el_two hb2 fun H p e => odd_w e bad_str)
        (es_cons (el_tup hb2 (elL_cons (el_tup (ψ := fun H y => WordV K H y false) hb2 (elL_cons tr elL_nil) (Nat.le_of_ble_eq_true rfl) fun H p xs e _ => bad_tup e) (elL_cons tr elL_nil)) (Nat.le_of_ble_eq_true rfl) fun H p xs e ap => (by obtain ⟨x, y, rfl, h, _⟩ := ap.two; exact odd_w e h))
        (es_cons (el_two hb2 fun H p e => odd_w e nst_non.word)
        (es_cons (el_tup hb2 (elL_cons (el_c (φ := fun _ v => v = .str "a") fun _ => rfl) (elL_cons (el_lst (ψ := fun H y => KindV K H y false) hb2 (elL_cons tr elL_nil) (Nat.le_of_ble_eq_true rfl) fun H p xs e _ => .inr (.inr ⟨p, xs, rfl, SqL.of e, rfl⟩)) elL_nil)) (Nat.le_of_ble_eq_true rfl) fun H p xs e ap => (by obtain ⟨x, y, rfl, rfl, h⟩ := ap.two; exact odd_k e h))
        (es_cons (el_two hb2 fun H p e => odd_w e bad_str)
        (es_cons (el_lst hb2 (elL_cons tr (elL_cons tr elL_nil)) (Nat.le_of_ble_eq_true rfl) fun H p xs e _ => odd_nt (nt_lst e))
        es_nil)))))))
    rintro σ H3 ⟨u, os, rfl, S3, hu, hol, ho⟩
    have hb3 := hb2.same S3
    have hq3 := S3 _ _ hq
    have hx3 : ∀ y ∈ xs, AL b (BadPat K) H3 y := fun y hy => (hx y hy).same S3
    have S13 := S2.trans S3
    have it3 := hit.same S13
    clear hx hq hb2 S2 S3 H2
    refine ⟨fun σ H4 => ∃ q xs, σ = [some (.ref b), some (.ref p), some (.ref t), some it, some (.ref q), some (.ref u), none] ∧ Same H1 H4 ∧ H4 q = some (.lst xs) ∧ 0 < xs.length ∧ xs.length < 80 ∧ ∀ y ∈ xs, AL b (BadPat K) H4 y, ?_, ?_⟩
    · refine ⟨_, rfl, _, rfl, u, rfl, ⟨_, SqL.of hu⟩, fun D nD => ?_⟩
      refine lc_list (K := K) (a := u) (xs := os) (fun i H' => Same H3 H' ∧ ∃ zs, H' D = some (.lst zs) ∧ zs.length = i ∧ ∀ z ∈ zs, AT b H3 H' (BadPat K) z) ⟨same_upd nD, [], upd_same, rfl, fun _ h => (nomatch h)⟩ (fun i H' _ h => SqL.of (h.1 _ _ hu)) ?_ ?_
      · rintro i x H' hx' ⟨S, zs, hD, hl, hz⟩
        have hox := ho x (List.mem_of_getElem? hx')
        have hio : i < os.length := (List.getElem?_eq_some_iff.mp hx').1
        refine ⟨rfl, _, rfl, _, rfl, by show 2 ≤ sizeLine; rw [sizeLine_eq]; decide, fun p1 np1 => ⟨by show 2 ≤ sizeLine; rw [sizeLine_eq]; decide, fun p2 np2 => ?_⟩⟩
        have Sa := (same_upd (o := .tup [it, x]) np1).trans (same_upd (o := .tup [V.ref p1, V.bl true]) np2)
        have hD' := Sa _ _ hD
        have e1' : upd (upd H' p1 (.tup [it, x])) p2 (.tup [V.ref p1, V.bl true]) p1 = some (.tup [it, x]) := (same_upd np2) _ _ upd_same
        refine ⟨zs, hD', by rw [sizeLine_eq]; omega, fun a o ha => ?_, zs ++ [.ref p2], upd_same, by rw [List.length_append, hl]; rfl, fun z hz' => ?_⟩
        · rw [upd_ne (ne_of_none ha nD)]
          exact Sa _ _ (S _ _ ha)
        · rcases List.mem_append.mp hz' with h | h
          · exact (hz z h).far ((TK.same Sa).trans (TK.put hD'))
          · rw [List.mem_singleton.mp h]
            exact fun Hf z tk => bp_its2 (tk _ _ ((TK.put hD') _ _ upd_same)) (tk _ _ ((TK.put hD') _ _ e1')) (it3 Hf z).v (hox Hf z)
      · rintro H' ⟨S, zs, hD, hl, hz⟩
        refine ⟨q, D, xs, zs, rfl, rfl, S _ _ hq3, hD, by rw [sizeLine_eq]; omega, fun r nr => ?_⟩
        have S5 := S.trans (same_upd (o := .lst (xs ++ zs)) nr)
        refine ⟨r, xs ++ zs, rfl, S13.trans S5, upd_same, by rw [List.length_append]; omega, by rw [List.length_append]; omega, fun y hy => ?_⟩
        rcases List.mem_append.mp hy with h | h
        · exact (hx3 y h).same S5
        · exact ((hz y h).far (TK.same (same_upd nr))).al (hb3.same S5) (KeepN.same S5)
    clear hx3 hq3 hb3 S13 xs hu ho hl2 l0 it3
    clear q H3
    rintro σ H2 ⟨q, xs, rfl, S2, hq, l0, hl2, hx⟩
    have hb2 := hb1.same S2
    have it2 := hit.same S2
    have es : EltsS b (BadPat K) 3 H2 [some (V.ref b), some (V.ref p), some (V.ref t), some it, some (V.ref q), some (V.ref u), none] _ :=
      (es_cons (el_tup hb2 (elL_cons (el_var (i := 3) (φ := ItemT) rfl it2) (elL_cons (el_c (φ := fun _ v => v = .bl false) fun _ => rfl) elL_nil)) (Nat.le_of_ble_eq_true rfl) fun H p xs e ap => (by obtain ⟨x, y, rfl, h, rfl⟩ := ap.two; exact bp_item e h))
        (es_cons (el_tup hb2 (elL_cons (el_kind (z := "a") (k := "one") hb2 (kd := false)) (elL_cons (el_c (φ := fun _ v => v = .bl true) fun _ => rfl) elL_nil)) (Nat.le_of_ble_eq_true rfl) fun H p xs e ap => (by obtain ⟨x, y, rfl, h, rfl⟩ := ap.two; exact bp_item e h))
        (es_cons (el_tup hb2 (elL_cons (el_c (φ := fun _ v => v = .bl true) fun _ => rfl) (elL_cons (el_c (v := .bl true) (φ := fun _ _ => True) fun _ => trivial) elL_nil)) (Nat.le_of_ble_eq_true rfl) fun H p xs e ap => (by obtain ⟨x, y, rfl, rfl, _⟩ := ap.two; exact bp_y1 e nst_bl.2))
        es_nil)))
    refine ⟨_, rfl, es H2 _ (Same.refl H2) fun vs H3 S3 l ok => ⟨by rw [l, sizeLine_eq]; omega, fun v nv => ?_⟩⟩
    have S4 := S3.trans (same_upd (o := .lst vs) nv)
    refine ⟨q, v, xs, vs, rfl, rfl, S4 _ _ hq, upd_same, by rw [l, sizeLine_eq]; omega, fun r nr => ?_⟩
    have S5 := S4.trans (same_upd (o := .lst (xs ++ vs)) nr)
    refine k r (xs ++ vs) _ (k1.trans (Keep.of (S2.trans S5))) (hb2.same S5) upd_same (bag_ne (hb2.same S4) nr) (by rw [List.length_append]; omega) (by rw [List.length_append, l]; omega) fun y hy => ?_
    rcases List.mem_append.mp hy with z | z
    · exact (hx y z).same S5
    · exact ((ok y z).same (same_upd nv)).same (same_upd nr)
end
end K0
-- K6Ref
set_option maxRecDepth 100000
set_option maxHeartbeats 1000000
namespace K0
open PySem L2 FM He
theorem told_givesK {X : Cx} {K : PySem.W.Frag} (eK : X.K = K) (T : TT X.K X.mg) {q : Str} {g : Addr} {cdg : Value} (hr : Room 3 X.A) :
    LamX.GivesTo X ["_law_call", "e", "_law_kinds"] "_law_told" (defScope s__law_told) g cdg (defBody s__law_told) "_law_call" q (TTold K) := by
  subst eK
  exact told_gives T hr
def qLam (x : Str) (sc : Scope) : Str := (PyProof.Rows.envOfC x sc 0 0 .none).qual ++ "<lambda>"
theorem TK.ext {H H1 : Hp} (k : LamX.ExtN H H1) : TK H H1 := fun a xs h => k a _ h (fun _ => by simp)
abbrev OffTx (K : PySem.W.Frag) : Hp → V → Prop := fun H y => TextV K H y false
theorem off_w {K : PySem.W.Frag} {H : Hp} {y : V} (h : WordV K H y false) : TextV K H y false := by
  rcases h with ⟨z, rfl, h, e⟩ | ⟨h, _⟩
  · exact .inl ⟨z, rfl, h, by rw [e]; rfl⟩
  · exact .inr ⟨h, rfl⟩
/-- what told tells of a call with a pattern and a text -/
theorem tells_two {K : PySem.W.Frag} {R : Judge} {Hb : Hp} {σ : L2.St} {i j : Nat} {x y : V} {b c : Bool} {s : Str} (hx : σ[i]? = some (some x)) (hy : σ[j]? = some (some y)) (px : ∀ H1, LamX.ExtN Hb H1 → PatV K H1 x b) (py : ∀ H1, LamX.ExtN Hb H1 → TextV K H1 y c)
    (hs : s = if b = false then ("book" : Str) else if c = false then "text" else "returned") (hok : b = true → c = true → ∀ H1, LamX.ExtN Hb H1 → ∃ its whole z, PatAt K H1 x its whole ∧ its.length ≤ 60 ∧ y = .str z ∧ z.length ≤ 60) :
    Tells K Hb σ (fun E => tCall (spTwo K R) [] E (tCons (tVar i) (tCons (tVar j) tNil))) s := fun H1 Q e k => by
  refine ⟨_, hx, _, hy, x, y, b, c, rfl, px H1 e, py H1 e, fun hb H' S => ?_, fun hb hc H' S => ?_, fun hb hc => ?_⟩
  · subst hb
    rw [if_pos rfl] at hs
    subst hs
    exact told_err (x := "InvalidBook") (by decide) k H' S
  · subst hb hc
    rw [if_neg (fun h => by cases h), if_pos rfl] at hs
    subst hs
    exact told_err (x := "InvalidText") (by decide) k H' S
  · subst hb hc
    rw [if_neg (fun h => by cases h), if_neg (fun h => by cases h)] at hs
    subst hs
    obtain ⟨its, whole, z, h1, h2, h3, h4⟩ := hok rfl rfl H1 e
    exact ⟨its, whole, z, h1, h2, h3, h4, fun H' S => k H' S⟩
theorem five {H : Hp} {q1 q2 q3 q4 t : Addr} {o1 o2 o3 o4 o5 : HO} (n1 : H q1 = none) (n2 : upd H q1 o1 q2 = none) (n3 : upd (upd H q1 o1) q2 o2 q3 = none) (n4 : upd (upd (upd H q1 o1) q2 o2) q3 o3 q4 = none) (n5 : upd (upd (upd (upd H q1 o1) q2 o2) q3 o3) q4 o4 t = none) :
    ∃ G, G = upd (upd (upd (upd (upd H q1 o1) q2 o2) q3 o3) q4 o4) t o5 ∧ Same H G ∧ G q1 = some o1 ∧ G q2 = some o2 ∧ G q3 = some o3 ∧ G q4 = some o4 ∧ G t = some o5 := by
  have Sa : Same H _ := same_upd (o := o1) n1
  have Sb : Same (upd H q1 o1) _ := same_upd (o := o2) n2
  have Sc : Same (upd (upd H q1 o1) q2 o2) _ := same_upd (o := o3) n3
  have Sd : Same (upd (upd (upd H q1 o1) q2 o2) q3 o3) _ := same_upd (o := o4) n4
  have Se : Same (upd (upd (upd (upd H q1 o1) q2 o2) q3 o3) q4 o4) _ := same_upd (o := o5) n5
  exact ⟨_, rfl, (((Sa.trans Sb).trans Sc).trans Sd).trans Se, (((Sb.trans Sc).trans Sd).trans Se) _ _ upd_same, ((Sc.trans Sd).trans Se) _ _ upd_same, (Sd.trans Se) _ _ upd_same, Se _ _ upd_same, upd_same⟩
def spRef (K : PySem.W.Frag) (Ts : List (Addr × Str)) : List V → Hp → VK → Prop := fun vs H Q => ∃ (b p : Addr) (one : Str) (its : List (Str × Bool)) (whole : Bool), vs = [.ref b, .ref p, .str one] ∧ BagAt b H ∧ DrawnPat H p its whole ∧ Abc 10 one ∧ LamX.Tabs Ts H ∧
  ∀ H', KeepN b H H' → BagAt b H' → LamX.Tabs Ts H' → Q (.bl true) H'
section
variable {P : Program} {w : World} {K : PySem.W.Frag} {mg : Str → Option Value} {base : Heap}
theorem ok_law_refused_right {f c Tb : Addr} {fd : FuncData} {Ts : List (Addr × Str)} (F : FnP K "_law_refused_right" s__law_refused_right f fd) (T : TT K mg) (hc : fd.code = .ref c) (tab : LamX.TabB base mg c Tb)
    (hmT : (Tb, qLam "_law_refused_right" (defScope s__law_refused_right)) ∈ Ts) (huT : ∀ p ∈ Ts, p.1 = Tb → p.2 = qLam "_law_refused_right" (defScope s__law_refused_right)) : FnG P w K mg base 10 f fd ["_law_bag", "_law_pattern", "_law_one"] (spRef K Ts) := by
  have T0 : TP K mg := T.toTP
  obtain ⟨d__law_pick, F__law_pick⟩ := T.f__law_pick
  have G__law_pick := ok_law_pick (P := P) (w := w) (base := base) F__law_pick T0
  have b__law_pick : Binds K d__law_pick ["_law_bag", "_law_items"] [] := F__law_pick.bindsN fun _ _ _ _ _ _ us hl => match us, hl with | [_, _], _ => rfl
  obtain ⟨d__law_bad_patterns, F__law_bad_patterns⟩ := T.f__law_bad_patterns
  have G__law_bad_patterns := ok_law_bad_patterns (P := P) (w := w) (base := base) F__law_bad_patterns T0
  have b__law_bad_patterns : Binds K d__law_bad_patterns ["_law_bag", "_law_pattern"] [] := F__law_bad_patterns.bindsN fun _ _ _ _ _ _ us hl => match us, hl with | [_, _], _ => rfl
  obtain ⟨d_is_pattern, F_is_pattern⟩ := T.f_is_pattern
  have G_is_pattern := ok_is_pattern (P := P) (w := w) (base := base) F_is_pattern T0
  have b_is_pattern : Binds K d_is_pattern ["value"] [] := F_is_pattern.bindsN fun _ _ _ _ _ _ us hl => match us, hl with | [_], _ => rfl
  obtain ⟨d_fits, F_fits⟩ := T.f_fits
  have G_fits := ok_fits (P := P) (w := w) (base := base) F_fits T0
  have b_fits : Binds K d_fits ["pattern", "text"] [] := F_fits.bindsN fun _ _ _ _ _ _ us hl => match us, hl with | [_, _], _ => rfl
  obtain ⟨d_begins_with, F_begins_with⟩ := T.f_begins_with
  have G_begins_with := ok_begins_with (P := P) (w := w) (base := base) F_begins_with T0
  have b_begins_with : Binds K d_begins_with ["pattern", "text"] [] := F_begins_with.bindsN fun _ _ _ _ _ _ us hl => match us, hl with | [_, _], _ => rfl
  obtain ⟨d_ends_with, F_ends_with⟩ := T.f_ends_with
  have G_ends_with := ok_ends_with (P := P) (w := w) (base := base) F_ends_with T0
  have b_ends_with : Binds K d_ends_with ["pattern", "text"] [] := F_ends_with.bindsN fun _ _ _ _ _ _ us hl => match us, hl with | [_, _], _ => rfl
  obtain ⟨_, F__law_told⟩ := T.f__law_told
  have gTk := T.g__law_told
  have kTk := F__law_told.kp
  have bTk : Binds K _ ["_law_call"] [] := F__law_told.bindsN fun _ _ _ _ _ _ us hl => match us, hl with | [_], _ => rfl
  obtain ⟨oc, od, dV, kV, doc, pm, an, cdT, ct, osl, efd, lkT, hcT, _, _⟩ := id F__law_told.ex
  subst efd
  refine FnG.of F sc__law_refused_right (fun vs H Q h => ?_) (fun cdv A outer s H vs Q hcd hg hr h => ?_)
  · obtain ⟨b, p, one, its, whole, rfl, _⟩ := h
    rfl
  · obtain ⟨b, p, one, its, whole, rfl, hb, hp, ho, ht, k⟩ := h
    have hcode : cdv = .ref c := hcd.symm.trans hc
    subst hcode
    have nd := sc__law_refused_right.nd
    have hu64 := hr.units
    have hcode : (Value.ref c) = .ref c := rfl
    refine ⟨_, PSs.nox (C8.pss_cut (ps_set (i := 3) nd rfl (.inl rfl) (pe_call G__law_pick (hr.mono (by decide)) rfl T.g__law_pick F__law_pick.kp b__law_pick .nil pass0 (pa_cons (pv 0) (pa_cons (pe_call G__law_bad_patterns (hr.mono (by decide)) rfl T.g__law_bad_patterns F__law_bad_patterns.kp b__law_bad_patterns .nil pass0 (pa_cons (pv 0) (pa_cons (pv 1) pa_nil))) pa_nil))))
      (C8.pss_cut (ps_set (i := 4) nd rfl (.inl rfl) (pe_call G__law_pick (hr.mono (by decide)) rfl T.g__law_pick F__law_pick.kp b__law_pick .nil pass0 (pa_cons (pv 0) (pa_cons (pe_lst (pa_cons pe_non (pa_cons pe_int (pa_cons pe_str (pa_cons pe_str (pa_cons (pe_op op_repS pe_str pe_int) (pa_cons (pe_lst (pa_cons pe_str pa_nil)) (pa_cons (pe_tup (pa_cons pe_str pa_nil)) (pa_cons pe_str (pa_cons pe_dnewK (pa_cons pe_bl (pa_cons pe_str pa_nil)))))))))))) pa_nil))))
      (C8.pss_cut (ps_set (i := 5) nd rfl (.inl rfl) (pe_lst pa_nil))
      (C8.pss_cut (ps_for PassesOwn.never rfl (pi_tup (pe_tup (pa_cons (pe_tup (pa_cons (pv 3) (pa_cons (pv 2) pa_nil))) (pa_cons (pe_tup (pa_cons (pv 3) (pa_cons (pv 4) pa_nil))) (pa_cons (pe_tup (pa_cons (pv 1) (pa_cons (pv 4) pa_nil))) (pa_cons (pe_tup (pa_cons (pv 1) (pa_cons (pv 2) pa_nil))) pa_nil)))))) (pg_tup (by rfl) (pgs_cons (pg_name (i := 6) nd rfl (.inr rfl)) (pgs_cons (pg_name (i := 7) nd rfl (.inr rfl)) pgs_nil))) (C8.pss_cut (ps_expr (pe_bm PySem.F.plainAttrs_list PySem.F.slot_list_append PySem.F.type_list_append mt_append (pv 5) (pa_cons (LamX.pe_lamcall (k := 5) (by rfl) gTk kTk lkT hcT bTk sc__law_told rfl (.inl rfl) (told_givesK (K := K) rfl T (hr.mono (by decide))) tab hcode hmT huT (hr.mono (by decide)) (LamX.lamS_by (sc := defScope s__law_refused_right) (by decide +kernel)) (by rfl) (fun _ _ _ _ _ => rfl) (fun _ _ _ _ E _ _ hrl => (pe_call G_fits (hrl.mono (by decide)) rfl T.g_fits F_fits.kp b_fits .nil (passes_call (takes_of rfl rfl rfl rfl) (fun _ _ _ _ h => h)) (pa_cons (pv 6) (pa_cons (pv 7) pa_nil))))) pa_nil)))
      (C8.pss_cut (ps_expr (pe_bm PySem.F.plainAttrs_list PySem.F.slot_list_append PySem.F.type_list_append mt_append (pv 5) (pa_cons (LamX.pe_lamcall (k := 5) (by rfl) gTk kTk lkT hcT bTk sc__law_told rfl (.inl rfl) (told_givesK (K := K) rfl T (hr.mono (by decide))) tab hcode hmT huT (hr.mono (by decide)) (LamX.lamS_by (sc := defScope s__law_refused_right) (by decide +kernel)) (by rfl) (fun _ _ _ _ _ => rfl) (fun _ _ _ _ E _ _ hrl => (pe_call G_begins_with (hrl.mono (by decide)) rfl T.g_begins_with F_begins_with.kp b_begins_with .nil (passes_call (takes_of rfl rfl rfl rfl) (fun _ _ _ _ h => h)) (pa_cons (pv 6) (pa_cons (pv 7) pa_nil))))) pa_nil)))
      (pss_one (ps_expr (pe_bm PySem.F.plainAttrs_list PySem.F.slot_list_append PySem.F.type_list_append mt_append (pv 5) (pa_cons (LamX.pe_lamcall (k := 5) (by rfl) gTk kTk lkT hcT bTk sc__law_told rfl (.inl rfl) (told_givesK (K := K) rfl T (hr.mono (by decide))) tab hcode hmT huT (hr.mono (by decide)) (LamX.lamS_by (sc := defScope s__law_refused_right) (by decide +kernel)) (by rfl) (fun _ _ _ _ _ => rfl) (fun _ _ _ _ E _ _ hrl => (pe_call G_ends_with (hrl.mono (by decide)) rfl T.g_ends_with F_ends_with.kp b_ends_with .nil (passes_call (takes_of rfl rfl rfl rfl) (fun _ _ _ _ h => h)) (pa_cons (pv 6) (pa_cons (pv 7) pa_nil))))) pa_nil)))))))
      (C8.pss_cut (ps_if (PW.pt (pw_or (pt_cmpR (op_neS hu64) (pv 5) (pe_op op_cat (pe_op op_cat (pe_op op_rep (pe_lst (pa_cons pe_str pa_nil)) pe_int) (pe_op op_rep (pe_lst (pa_cons pe_str pa_nil)) pe_int)) (pe_op op_rep (pe_lst (pa_cons pe_str pa_nil)) pe_int)) (nomark _)) (pw_or1 (pt_cmpR op_notBl (pe_call G_is_pattern (hr.mono (by decide)) rfl T.g_is_pattern F_is_pattern.kp b_is_pattern .nil pass0 (pa_cons (pv 1) pa_nil)) pe_bl (nomark _))))) (pss_one (ps_ret pe_bl)) pss_nil)
      (pss_one (ps_ret (pe_cmpR (op_eqNilL hu64) (pe_lc (own := [("_law_value", 8)]) rfl nd (pi_list (pe_call G__law_bad_patterns (hr.mono (by decide)) rfl T.g__law_bad_patterns F__law_bad_patterns.kp b__law_bad_patterns .nil pass0 (pa_cons (pv 0) (pa_cons (pv 1) pa_nil)))) (blkOk_by (own := [("_law_value", 8)]) (N := ["_law_bag", "_law_pattern", "_law_one", "_law_odd", "_law_off", "_law_told_here", "_law_first", "_law_second", "_law_value"]) (sc := defScope s__law_refused_right) (by decide +kernel)) (fun _ _ _ _ _ => (pg_name (i := 8) nd rfl (.inl rfl))) (fun _ _ _ _ _ => pts_one (pt_cmpR op_notBl (pe_call G_is_pattern (hr.mono (by decide)) rfl T.g_is_pattern F_is_pattern.kp b_is_pattern .nil pass0 (pa_cons (pv 8) pa_nil)) pe_bl (nomark _))) (fun _ _ _ _ _ => (pv 8))) (pe_lst pa_nil) (nomark _))))))))), ?_⟩
    -- an odd pattern
    refine ⟨fun σ H1 => ∃ odd, σ = [some (.ref b), some (.ref p), some (.str one), some odd, none, none, none, none, none] ∧ Keep (J b) H H1 ∧ BagAt b H1 ∧ AL b (BadPat K) H1 odd, ?_, ?_⟩
    · refine ⟨_, rfl, _, rfl, _, rfl, b, p, its, whole, rfl, hb, hp, fun q xs H1 k1 b1 hq qb l0 l1 hx => ?_⟩
      exact pick_at (φ := BadPat K) b1 qb hq l0 (by omega) hx fun y H2 k2 b2 a2 => ⟨y, rfl, k1.trans k2, b2, a2⟩
    rintro σ H1 ⟨odd, rfl, k1, hb1, ho1⟩
    -- an odd text
    refine ⟨fun σ H2 => ∃ off, σ = [some (.ref b), some (.ref p), some (.str one), some odd, some off, none, none, none, none] ∧ Keep (J b) H H2 ∧ BagAt b H2 ∧ AL b (BadPat K) H2 odd ∧ AL b (OffTx K) H2 off, ?_, ?_⟩
    · refine pick_lst (φ := OffTx K) (j := 0) (c := 11) hb1 rfl ?_ (by decide) (by decide) fun y H2 k2 b2 a2 => ⟨y, rfl, k1.trans k2, b2, ho1.far (KeepN.keep k2), a2⟩
      exact (es_cons (el_c fun _ => off_w nst_non.word)
        (es_cons (el_c fun _ => off_w nst_int.word)
        (es_cons (el_c fun _ => off_w bad_str)
        (es_cons (el_c fun _ => off_w bad_str)
        (es_cons (fun H Q S k => ⟨"a", 61, rfl, rfl, by decide, by decide, k _ _ (Same.refl H) fun Hf _ => .inl ⟨repS "a" 61, rfl, by rw [repS_length, sizeLine_eq]; decide, by rw [repS_length]; decide +kernel⟩⟩)
        (es_cons (el_lst hb1 (elL_cons (el_c (φ := fun _ _ => True) fun _ => trivial) elL_nil) (by decide) fun H p xs e _ => off_w (nst_lst e).word)
        (es_cons (el_tup hb1 (elL_cons (el_c (φ := fun _ _ => True) fun _ => trivial) elL_nil) (by decide) fun H p xs e _ => off_w (bad_tup e))
        (es_cons (el_c fun _ => off_w bad_str)
        (es_cons (el_dnew hb1 fun H p e => off_w (nst_dK e).word)
        (es_cons (el_c fun _ => off_w nst_bl.word)
        (es_cons (el_c fun _ => off_w bad_str)
        es_nil)))))))))))
    clear ho1 hb1 k1 H1
    rintro σ H2 ⟨off, rfl, k2, hb2, hodd, hoff⟩
    refine ⟨fun σ H3 => ∃ pf, σ = [some (.ref b), some (.ref p), some (.str one), some odd, some off, some (.ref pf), none, none, none] ∧ H2 pf = none ∧ H3 = upd H2 pf (.lst []), ?_, ?_⟩
    · exact ⟨by show 0 ≤ sizeLine; rw [sizeLine_eq]; decide, fun pf npf => ⟨pf, rfl, npf, rfl⟩⟩
    rintro σ H3 ⟨pf, rfl, npf, rfl⟩
    let outs : List Str := ["book", "book", "text", "returned"]
    let tl : Nat → List Str := fun i => (outs.take i).flatMap fun s => [s, s, s]
    have pf0 : upd H2 pf (.lst []) pf = some (.lst []) := upd_same
    have S23 : Same H2 (upd H2 pf (.lst [])) := same_upd npf
    have tb2 : LamX.Tabs Ts H2 := tabs_keep ht hb k2
    have hp2 := hp.far (TK.keep hb k2)
    refine ⟨fun σ H4 => (∃ u v w, σ = [some (.ref b), some (.ref p), some (.str one), some odd, some off, some (.ref pf), u, v, w]) ∧ ∃ Hb, (∀ H1, LamX.ExtN Hb H1 → KeepN b H2 H1) ∧ BagAt b Hb ∧ Found Ts Hb pf H4 (tl 4), ?_, ?_⟩
    · have two2 : 2 ≤ sizeLine := by rw [sizeLine_eq]; decide
      refine ⟨_, rfl, _, rfl, two2, fun q1 n1 => ⟨_, rfl, _, rfl, two2, fun q2 n2 => ⟨_, rfl, _, rfl, two2, fun q3 n3 => ⟨_, rfl, _, rfl, two2, fun q4 n4 => ⟨by show 4 ≤ sizeLine; rw [sizeLine_eq]; decide, fun t nt => ?_⟩⟩⟩⟩⟩
      obtain ⟨H4, hH4, S34, e1, e2, e3, e4, et⟩ := five (o5 := .tup [.ref q1, .ref q2, .ref q3, .ref q4]) n1 n2 n3 n4 nt
      rw [← hH4]
      clear hH4 n1 n2 n3 n4 nt
      have nf : ∀ {a : Addr} {xs : List V}, H4 a = some (.tup xs) → a ≠ pf := fun h e => by
        rw [e, S34 _ _ pf0] at h
        cases h
      let Hb : Hp := fun a => if a = pf then none else H4 a
      have hbe : ∀ a, a ≠ pf → Hb a = H4 a := fun a n => if_neg n
      have F0 : Found Ts Hb pf H4 (tl 0) := ⟨if_pos rfl, fun a o e n => by
        by_cases z : a = pf
        · have : Hb a = none := if_pos z
          rw [this] at e
          cases e
        · rw [hbe a z] at e
          exact e, tb2.ext (S23.trans S34), S34 _ _ pf0⟩
      have kb : ∀ H1, LamX.ExtN Hb H1 → KeepN b H2 H1 := fun H1 e a o _ nt h => by
        have z : a ≠ pf := ne_of_none h npf
        exact e _ _ (by rw [hbe a z]; exact S34 _ _ (S23 _ _ h)) nt
      have hbb : BagAt b Hb := by
        obtain ⟨g, s, c, e⟩ := hb2
        exact ⟨g, s, c, by rw [hbe b (ne_of_none e npf)]; exact S34 _ _ (S23 _ _ e)⟩
      have hpat : ∀ H1, LamX.ExtN Hb H1 → DrawnPat H1 p its whole := fun H1 e => hp2.far (TK.keepN hb2 (kb H1 e))
      have txo : ∀ H1 : Hp, LamX.ExtN Hb H1 → TextV K H1 (.str one) true := fun _ _ => .inl ⟨one, rfl, ho.sz (by decide), by rw [ho.word, decide_eq_true (by have := ho.1; omega : one.length ≤ 60)]; rfl⟩
      have pok : ∀ H1, LamX.ExtN Hb H1 → ∃ its whole z, PatAt K H1 (.ref p) its whole ∧ its.length ≤ 60 ∧ V.str one = .str z ∧ z.length ≤ 60 := fun H1 e => ⟨its, whole, one, (hpat H1 e).at, by obtain ⟨_, _, _, _, _, h⟩ := hpat H1 e; omega, rfl, by have := ho.1; omega⟩
      have table : ∀ (i : Nat) (x : V), ([.ref q1, .ref q2, .ref q3, .ref q4] : List V)[i]? = some x → ∃ q x1 y1 bb cc s, x = .ref q ∧ H4 q = some (.tup [x1, y1]) ∧ (∀ H1, LamX.ExtN Hb H1 → PatV K H1 x1 bb) ∧ (∀ H1, LamX.ExtN Hb H1 → TextV K H1 y1 cc) ∧
          (s = if bb = false then ("book" : Str) else if cc = false then "text" else "returned") ∧ (bb = true → cc = true → ∀ H1, LamX.ExtN Hb H1 → ∃ its whole z, PatAt K H1 x1 its whole ∧ its.length ≤ 60 ∧ y1 = .str z ∧ z.length ≤ 60) ∧ outs[i]? = some s := fun i x hx => by
        match i, hx with
        | 0, hx => cases hx; exact ⟨q1, _, _, false, true, _, rfl, e1, fun H1 e => hodd H1 (kb H1 e), txo, rfl, fun h => (by cases h), rfl⟩
        | 1, hx => cases hx; exact ⟨q2, _, _, false, false, _, rfl, e2, fun H1 e => hodd H1 (kb H1 e), fun H1 e => hoff H1 (kb H1 e), rfl, fun h => (by cases h), rfl⟩
        | 2, hx => cases hx; exact ⟨q3, _, _, true, false, _, rfl, e3, fun H1 e => pat_true (hpat H1 e), fun H1 e => hoff H1 (kb H1 e), rfl, fun _ h => (by cases h), rfl⟩
        | 3, hx => cases hx; exact ⟨q4, _, _, true, true, _, rfl, e4, fun H1 e => pat_true (hpat H1 e), txo, rfl, fun _ _ => pok, rfl⟩
      refine ⟨t, rfl, ⟨_, SqT.of et⟩, ?_⟩
      have stay : ∀ {H' : Hp} {a : Addr} {xs : List V} {ss : List Str}, Found Ts Hb pf H' ss → H4 a = some (.tup xs) → H' a = some (.tup xs) := fun F h => F.ext _ _ (by rw [hbe _ (nf h)]; exact h) (fun _ => by simp)
      refine for_tup (K := K) (xs := [.ref q1, .ref q2, .ref q3, .ref q4]) (fun i σ H' => (∃ u v w, σ = [some (.ref b), some (.ref p), some (.str one), some odd, some off, some (.ref pf), u, v, w]) ∧ i ≤ 4 ∧ Found Ts Hb pf H' (tl i)) ⟨⟨_, _, _, rfl⟩, by decide, F0⟩ (fun i σ H' _ h => SqT.of (stay h.2.2 et)) ?_ (fun σ H' h => ⟨h.1, Hb, kb, hbb, h.2.2⟩)
      rintro i x σ H' hx ⟨⟨u, v, w', rfl⟩, hi4, FF⟩
      have lt : i < 4 := (List.getElem?_eq_some_iff.mp hx).1
      obtain ⟨q, x1, y1, bb, cc, s', rfl, eq, px, py, hs, hok, hout⟩ := table i x hx
      have e3l : tl (i + 1) = tl i ++ [s'] ++ [s'] ++ [s'] := by
        show (outs.take (i + 1)).flatMap _ = (outs.take i).flatMap _ ++ _ ++ _ ++ _
        rw [List.take_add_one, hout]
        simp
      have l9 : (tl i).length ≤ 9 := by
        have : ∀ j, j < 4 → (tl j).length ≤ 9 := by
          intro j hj
          match j, hj with
          | 0, _ => decide
          | 1, _ => decide
          | 2, _ => decide
          | 3, _ => decide
        exact this i lt
      refine ⟨q, _, rfl, SqT.of (stay FF eq), rfl, _, _, rfl, _, _, rfl, rfl, ?_⟩
      let σt : L2.St := [some (.ref b), some (.ref p), some (.str one), some odd, some off, some (.ref pf), some x1, some y1, w']
      refine ⟨fun σ H5 => σ = σt ∧ Found Ts Hb pf H5 (tl i ++ [s']), ?_, ?_⟩
      · exact found_app (i := 5) (s := s') rfl FF (by omega) (tells_two (i := 6) (j := 7) rfl rfl px py hs hok) fun H5 F5 => ⟨rfl, F5⟩
      rintro σ H5 ⟨rfl, F5⟩
      refine ⟨fun σ H6 => σ = σt ∧ Found Ts Hb pf H6 (tl i ++ [s'] ++ [s']), ?_, ?_⟩
      · exact found_app (i := 5) (s := s') rfl F5 (by rw [List.length_append]; show (tl i).length + 1 ≤ 20; omega) (tells_two (i := 6) (j := 7) rfl rfl px py hs hok) fun H6 F6 => ⟨rfl, F6⟩
      rintro σ H6 ⟨rfl, F6⟩
      exact found_app (i := 5) (s := s') rfl F6 (by rw [List.length_append, List.length_append]; show (tl i).length + 1 + 1 ≤ 20; omega) (tells_two (i := 6) (j := 7) rfl rfl px py hs hok) fun H7 F7 => ⟨⟨_, _, _, rfl⟩, lt, by rw [e3l]; exact F7⟩
    rintro σ H4 ⟨⟨u, v, w', rfl⟩, Hb, kb, hbb, FF⟩
    have bag : ∀ {H' : Hp} {ss : List Str}, Found Ts Hb pf H' ss → BagAt b H' := fun F => by
      obtain ⟨g, s, c, e⟩ := hbb
      exact ⟨g, s, c, F.ext _ _ e (fun _ => by simp)⟩
    have pat : ∀ {H' : Hp} {ss : List Str}, Found Ts Hb pf H' ss → DrawnPat H' p its whole := fun F => hp2.far (TK.keepN hb2 (kb _ F.ext))
    refine ⟨fun σ H5 => σ = [some (.ref b), some (.ref p), some (.str one), some odd, some off, some (.ref pf), u, v, w'] ∧ Found Ts Hb pf H5 (tl 4), ?_, ?_⟩
    · refine ⟨_, rfl, rep_mk (n := 6) (x := "book") (by decide) fun a1 H5 S5 h1 => rep_mk (n := 3) (x := "text") (by decide) fun a2 H6 S6 h2 => ?_⟩
      refine ⟨a1, a2, _, _, rfl, rfl, S6 _ _ h1, h2, by rw [sizeLine_eq]; show 6 + 3 ≤ _; omega, fun a3 n3 => ?_⟩
      have S7 := same_upd (o := .lst ((List.replicate 6 ("book" : Str)).map V.str ++ (List.replicate 3 ("text" : Str)).map V.str)) n3
      refine rep_mk (n := 3) (x := "returned") (by decide) fun a4 H8 S8 h4 => ?_
      refine ⟨a3, a4, _, _, rfl, rfl, S8 _ _ upd_same, h4, by rw [sizeLine_eq]; show 6 + 3 + 3 ≤ _; omega, fun a5 n5 => ?_⟩
      have S9 := same_upd (o := .lst ((List.replicate 6 ("book" : Str)).map V.str ++ (List.replicate 3 ("text" : Str)).map V.str ++ (List.replicate 3 ("returned" : Str)).map V.str)) n5
      have F9 := FF.same ((((S5.trans S6).trans S7).trans S8).trans S9)
      refine ⟨pf, a5, tl 4, ["book", "book", "book", "book", "book", "book", "text", "text", "text", "returned", "returned", "returned"], rfl, rfl, SqL.of F9.at_, SqL.of upd_same, ?_⟩
      have ed : decide (tl 4 = (["book", "book", "book", "book", "book", "book", "text", "text", "text", "returned", "returned", "returned"] : List Str)) = true := decide_eq_true rfl
      rw [ed]
      refine ⟨_, rfl, iteF ⟨_, rfl, _, true, rfl, pat_true (pat F9), fun H' S => ⟨true, true, rfl, rfl, _, rfl, iteF ⟨rfl, F9.same S⟩⟩⟩⟩
    clear FF
    rintro σ H5 ⟨rfl, FF⟩
    refine ⟨_, rfl, _, rfl, b, p, its, whole, rfl, bag FF, pat FF, fun q xs H6 k6 b6 hq qb l0 l1 hx => ?_⟩
    refine ⟨q, rfl, ⟨_, SqL.of hq⟩, fun D nD => ?_⟩
    have t6 := tabs_keep FF.tabs (bag FF) k6
    have kn : KeepN b H H6 := ((KeepN.keep k2).trans (kb _ FF.ext)).trans (KeepN.keep k6)
    refine lc_list (K := K) (a := q) (xs := xs) (fun i H' => Same H6 H' ∧ H' D = some (.lst [])) ⟨same_upd nD, upd_same⟩ (fun i H' _ h => SqL.of (h.1 _ _ hq)) ?_ ?_
    · rintro i x H' hx' ⟨S, hD⟩
      have hbad := ((hx x (List.mem_of_getElem? hx')).same S).here
      exact ⟨rfl, _, rfl, x, false, rfl, hbad, fun H7 S7 => ⟨false, false, rfl, rfl, _, rfl, iteF ⟨S.trans S7, S7 _ _ hD⟩⟩⟩
    · rintro H' ⟨S, hD⟩
      refine ⟨by show 0 ≤ sizeLine; rw [sizeLine_eq]; decide, fun r nr => ?_⟩
      have S7 := same_upd (o := .lst []) nr
      refine ⟨D, r, [], rfl, rfl, SqL.of (S7 _ _ hD), SqL.of upd_same, ?_⟩
      have S8 := S.trans S7
      exact k _ (kn.trans (KeepN.same S8)) (b6.same S8) (t6.ext S8)
end
end K0
-- K6Law
set_option maxRecDepth 100000
set_option maxHeartbeats 2000000
namespace K0
open PySem L2 FM He
/-- a pattern with good items -/
def GPat (H : Hp) (p : Addr) (its : List (Str × Bool)) (whole : Bool) : Prop := ∃ t vs, H p = some (.tup [.ref t, .bl whole]) ∧ H t = some (.tup vs) ∧ vs.length = its.length ∧ (∀ (i : Nat) (y : V) (it : Str × Bool), vs[i]? = some y → its[i]? = some it → ItemC H y it) ∧
  (∀ it ∈ its, isWord it.1 = true ∧ lets it.1 = true ∧ it.1.length < 64 ∧ it.1 ≠ "") ∧ its.length ≤ 3
theorem GPat.far {H H1 : Hp} {p : Addr} {its : List (Str × Bool)} {whole : Bool} (h : GPat H p its whole) (k : TK H H1) : GPat H1 p its whole :=
  let ⟨t, vs, h1, h2, h3, h4, h5, h6⟩ := h; ⟨t, vs, k _ _ h1, k _ _ h2, h3, fun i y it a c => let ⟨q, e, z⟩ := h4 i y it a c; ⟨q, e, k _ _ z⟩, h5, h6⟩
theorem GPat.same {H H1 : Hp} {p : Addr} {its : List (Str × Bool)} {whole : Bool} (h : GPat H p its whole) (S : Same H H1) : GPat H1 p its whole := h.far (TK.same S)
theorem GPat.at {K : PySem.W.Frag} {H : Hp} {p : Addr} {its : List (Str × Bool)} {whole : Bool} (h : GPat H p its whole) : PatAt K H (.ref p) its whole :=
  let ⟨t, vs, h1, h2, h3, h4, _, _⟩ := h; ⟨p, t, vs, rfl, SqT.of h1, SqT.of h2, h3, fun i y it a c => let ⟨q, e, z⟩ := h4 i y it a c; ⟨q, e, SqT.of z⟩⟩
theorem GPat.true {K : PySem.W.Frag} {H : Hp} {p : Addr} {its : List (Str × Bool)} {whole : Bool} (h : GPat H p its whole) : PatV K H (.ref p) true := by
  obtain ⟨t, vs, h1, h2, hl, hi, g, h3⟩ := h
  refine .inr (.inr ⟨p, _, _, rfl, SqT.of h1, .inr ⟨t, vs, rfl, SqT.of h2, by omega, .inr ⟨whole, rfl, .inr ⟨by omega, List.replicate vs.length Bool.true, List.length_replicate, fun i y c hy hc => ?_, ?_⟩⟩⟩⟩)
  · have lt := (List.getElem?_eq_some_iff.mp hy).1
    have ec : c = Bool.true := by
      obtain ⟨_, e⟩ := List.getElem?_eq_some_iff.mp hc
      rw [List.getElem_replicate] at e
      exact e.symm
    subst ec
    have hit : its[i]? = some its[i] := List.getElem?_eq_getElem (by omega)
    obtain ⟨q, rfl, hq⟩ := hi i y _ hy hit
    obtain ⟨l1, l2, l3, g1⟩ := g _ (List.getElem_mem (by omega : i < its.length))
    refine .inr (.inr ⟨q, _, _, rfl, SqT.of hq, .inr ⟨_, rfl, l1, by omega, .inr ⟨g1, l2, .inl ⟨_, rfl, ?_⟩⟩⟩⟩)
    unfold kindS
    cases (its[i]).2 <;> decide
  · rw [List.all_replicate]
    cases vs with
    | nil => rfl
    | cons a b => simp
theorem tx_ok {K : PySem.W.Frag} {H : Hp} {z : Str} (h : isWord z = true) (l : z.length ≤ 60) : TextV K H (.str z) true := .inl ⟨z, rfl, by rw [sizeLine_eq]; omega, by rw [h, decide_eq_true l]; rfl⟩
abbrev wideI : List (Str × Bool) := [("abcdefghijklmnopqrstuvwxyz", true), ("z", false)]
theorem w1 : begR wideI false (repS "a" 59 ++ "z").cps.toList = true := by decide +kernel
theorem w2 : begR wideI false (repS "a" 60).cps.toList = false := by decide +kernel
theorem w3 : endR wideI false ("zzz" : Str).cps.toList = true := by decide +kernel
theorem w4 : fitR wideI false (repS "z" 60).cps.toList = true := by decide +kernel
theorem w5 : endR wideI true ("az" : Str).cps.toList = true := by decide +kernel
theorem t1 : isWord (repS "a" 59 ++ "z") = true ∧ (repS "a" 59 ++ "z").length ≤ 60 := ⟨by decide +kernel, by decide +kernel⟩
theorem t2 : isWord (repS "a" 60) = true ∧ (repS "a" 60).length ≤ 60 := ⟨by decide +kernel, by decide +kernel⟩
theorem t4 : isWord (repS "z" 60) = true ∧ (repS "z" 60).length ≤ 60 := ⟨by decide +kernel, by decide +kernel⟩
theorem e1 (w : Bool) : fitR [] w ("" : Str).cps.toList = true := by cases w <;> decide +kernel
theorem e2 (w : Bool) : fitR [] w ("a" : Str).cps.toList = false := by cases w <;> decide +kernel
theorem e3 (w : Bool) : begR [] w ("a" : Str).cps.toList = !w := by cases w <;> decide +kernel
theorem e4 (w : Bool) : endR [] w ("ab" : Str).cps.toList = !w := by cases w <;> decide +kernel
abbrev outs (w : Bool) : List Bool := [true, false, !w, !w]
theorem two_get {x y v : V} {i : Nat} (h : ([x, y] : List V)[i]? = some v) : (i = 0 ∧ v = x) ∨ (i = 1 ∧ v = y) := by
  match i, h with
  | 0, h => cases h; exact .inl ⟨rfl, rfl⟩
  | 1, h => cases h; exact .inr ⟨rfl, rfl⟩
def spLaw (K : PySem.W.Frag) (Ts : List (Addr × Str)) : List V → Hp → VK → Prop := fun vs H Q => ∃ (a : Addr) (ns : List Int), vs = [.ref a] ∧ SqL K H a (ns.map V.int) ∧ (∀ p ∈ Ts, H p.1 = some (.tbl #[])) ∧ ∀ H', Q (.bl true) H'
section
variable {P : Program} {w : World} {K : PySem.W.Frag} {mg : Str → Option Value} {base : Heap}
theorem ok_law {f cR tR : Addr} {fd fdR : FuncData} {Ts : List (Addr × Str)} (F : FnP K "law" s_law f fd) (T : TT K mg) (hsm : ∃ o, base.get? sysModules = some o)
    (F__law_refused_right : FnP K "_law_refused_right" s__law_refused_right (ga K "_law_refused_right") fdR) (hcR : fdR.code = .ref cR) (tabR : LamX.TabB base mg cR tR)
    (eT : Ts = [(tR, qLam "_law_refused_right" (defScope s__law_refused_right))]) :
    FnG P w K mg base 34 f fd ["_law_script"] (spLaw K Ts) := by
  have hmR : (tR, qLam "_law_refused_right" (defScope s__law_refused_right)) ∈ Ts := by rw [eT]; exact List.mem_cons_self
  have huR : ∀ p ∈ Ts, p.1 = tR → p.2 = qLam "_law_refused_right" (defScope s__law_refused_right) := fun p hp _ => by
    rw [eT] at hp
    rw [List.mem_singleton.mp hp]
  have T0 : TP K mg := T.toTP
  have G__law_refused_right : FnG P w K mg base 10 _ _ _ _ := ok_law_refused_right F__law_refused_right T hcR tabR hmR huR
  obtain ⟨_, F__law_judged_right⟩ := T.f__law_judged_right
  have G__law_judged_right : FnG P w K mg base 32 _ _ _ _ := ok_law_judged_right F__law_judged_right T0 hsm
  obtain ⟨d__law_start, F__law_start⟩ := T.f__law_start
  have G__law_start := ok_law_start (P := P) (w := w) (base := base) F__law_start T0
  have b__law_start : Binds K d__law_start ["_law_script", "_law_at"] [] := F__law_start.bindsN fun _ _ _ _ _ _ us hl => match us, hl with | [_, _], _ => rfl
  obtain ⟨d_begins_with, F_begins_with⟩ := T.f_begins_with
  have G_begins_with := ok_begins_with (P := P) (w := w) (base := base) F_begins_with T0
  have b_begins_with : Binds K d_begins_with ["pattern", "text"] [] := F_begins_with.bindsN fun _ _ _ _ _ _ us hl => match us, hl with | [_, _], _ => rfl
  obtain ⟨d_ends_with, F_ends_with⟩ := T.f_ends_with
  have G_ends_with := ok_ends_with (P := P) (w := w) (base := base) F_ends_with T0
  have b_ends_with : Binds K d_ends_with ["pattern", "text"] [] := F_ends_with.bindsN fun _ _ _ _ _ _ us hl => match us, hl with | [_, _], _ => rfl
  obtain ⟨d__law_drawn_pattern, F__law_drawn_pattern⟩ := T.f__law_drawn_pattern
  have G__law_drawn_pattern := ok_law_drawn_pattern (P := P) (w := w) (base := base) F__law_drawn_pattern T0
  have b__law_drawn_pattern : Binds K d__law_drawn_pattern ["_law_bag", "_law_signs"] [] := F__law_drawn_pattern.bindsN fun _ _ _ _ _ _ us hl => match us, hl with | [_, _], _ => rfl
  obtain ⟨d__law_near_text, F__law_near_text⟩ := T.f__law_near_text
  have G__law_near_text := ok_law_near_text (P := P) (w := w) (base := base) F__law_near_text T0
  have b__law_near_text : Binds K d__law_near_text ["_law_bag", "_law_pattern"] [] := F__law_near_text.bindsN fun _ _ _ _ _ _ us hl => match us, hl with | [_, _], _ => rfl
  obtain ⟨d__law_pick, F__law_pick⟩ := T.f__law_pick
  have G__law_pick := ok_law_pick (P := P) (w := w) (base := base) F__law_pick T0
  have b__law_pick : Binds K d__law_pick ["_law_bag", "_law_items"] [] := F__law_pick.bindsN fun _ _ _ _ _ _ us hl => match us, hl with | [_, _], _ => rfl
  obtain ⟨d__law_drawn_word, F__law_drawn_word⟩ := T.f__law_drawn_word
  have G__law_drawn_word := ok_law_drawn_word (P := P) (w := w) (base := base) F__law_drawn_word T0
  have b__law_drawn_word : Binds K d__law_drawn_word ["_law_bag", "_law_signs", "_law_most"] [] := F__law_drawn_word.bindsN fun _ _ _ _ _ _ us hl => match us, hl with | [_, _, _], _ => rfl
  have b__law_refused_right : Binds K _ ["_law_bag", "_law_pattern", "_law_one"] [] := F__law_refused_right.bindsN fun _ _ _ _ _ _ us hl => match us, hl with | [_, _, _], _ => rfl
  obtain ⟨d_fits, F_fits⟩ := T.f_fits
  have G_fits := ok_fits (P := P) (w := w) (base := base) F_fits T0
  have b_fits : Binds K d_fits ["pattern", "text"] [] := F_fits.bindsN fun _ _ _ _ _ _ us hl => match us, hl with | [_, _], _ => rfl
  have b__law_judged_right : Binds K _ ["_law_pattern", "_law_one"] [] := F__law_judged_right.bindsN fun _ _ _ _ _ _ us hl => match us, hl with | [_, _], _ => rfl
  refine FnG.of F sc_law (fun vs H Q h => ?_) (fun cdv A outer s H vs Q hcd hg hr h => ?_)
  · obtain ⟨a, ns, rfl, _⟩ := h
    rfl
  · obtain ⟨a, ns, rfl, ha, hT, k⟩ := h
    have nd := sc_law.nd
    have hu64 := hr.units
    refine ⟨_, PSs.nox (C8.pss_cut (ps_for PassesOwn.never rfl (pi_range1 (by rfl) T.b_range (pa_cons (pe_callB (call_max2 rfl) (by rfl) T.b_max (by decide +kernel) (pa_cons pe_int (pa_cons (pe_callB (call_min2 rfl) (by rfl) T.b_min (by decide +kernel) (pa_cons pe_int (pa_cons (pe_callB call_len (by rfl) T.b_len (by decide +kernel) (pa_cons (pv 0) pa_nil)) pa_nil))) pa_nil))) pa_nil)) (pg_name (i := 1) nd rfl (.inl rfl)) (C8.pss_cut (ps_set (i := 2) nd rfl (.inl rfl) (pe_call G__law_start (hr.mono (by decide)) rfl T.g__law_start F__law_start.kp b__law_start .nil pass0 (pa_cons (pv 0) (pa_cons (pv 1) pa_nil))))
      (pss_one (ps_for PassesOwn.never rfl (pi_range1 (by rfl) T.b_range (pa_cons pe_int pa_nil)) (pg_name (i := 3) nd rfl (.inl rfl)) (C8.pss_cut (ps_set (i := 4) nd rfl (.inr rfl) (pe_call G__law_drawn_pattern (hr.mono (by decide)) rfl T.g__law_drawn_pattern F__law_drawn_pattern.kp b__law_drawn_pattern .nil pass0 (pa_cons (pv 2) (pa_cons (pe_call G__law_pick (hr.mono (by decide)) rfl T.g__law_pick F__law_pick.kp b__law_pick .nil pass0 (pa_cons (pv 2) (pa_cons (pe_lst (pa_cons pe_str (pa_cons pe_str (pa_cons pe_str (pa_cons pe_str pa_nil))))) pa_nil))) pa_nil))))
      (C8.pss_cut (ps_set (i := 5) nd rfl (.inl rfl) (pe_call G__law_near_text (hr.mono (by decide)) rfl T.g__law_near_text F__law_near_text.kp b__law_near_text .nil pass0 (pa_cons (pv 2) (pa_cons (pv 4) pa_nil))))
      (C8.pss_cut (ps_set (i := 6) nd rfl (.inl rfl) (pe_lst (pa_cons (pv 5) (pa_cons pe_str (pa_cons (pe_call G__law_near_text (hr.mono (by decide)) rfl T.g__law_near_text F__law_near_text.kp b__law_near_text .nil pass0 (pa_cons (pv 2) (pa_cons (pv 4) pa_nil))) (pa_cons (pe_call G__law_drawn_word (hr.mono (by decide)) rfl T.g__law_drawn_word F__law_drawn_word.kp b__law_drawn_word .nil pass0 (pa_cons (pv 2) (pa_cons pe_str (pa_cons pe_int pa_nil)))) pa_nil))))))
      (C8.pss_cut (ps_if (pt_cmpR (op_neNilL hu64) (pe_lc (own := [("_law_text", 7)]) rfl nd (pi_list (pv 6)) (blkOk_by (own := [("_law_text", 7)]) (N := ["_law_script", "_law_at", "_law_bag", "_law_turn", "_law_pattern", "_law_one", "_law_some", "_law_text", "_law_wide", "_law_told_here"]) (sc := defScope s_law) (by decide +kernel)) (fun _ _ _ _ _ => (pg_name (i := 7) nd rfl (.inl rfl))) (fun _ _ _ _ _ => pts_one (pt_not (pt_val (pe_callG G__law_judged_right hg (hr.mono (by decide)) rfl T.g__law_judged_right F__law_judged_right.kp b__law_judged_right (pa_cons (pv 4) (pa_cons (pv 7) pa_nil)))))) (fun _ _ _ _ _ => (pv 7))) (pe_lst pa_nil) (nomark _)) (pss_one (ps_ret pe_bl)) pss_nil)
      (pss_one (ps_if (pt_not (pt_val (pe_callG G__law_refused_right hg (hr.mono (by decide)) rfl T.g__law_refused_right F__law_refused_right.kp b__law_refused_right (pa_cons (pv 2) (pa_cons (pv 4) (pa_cons (pv 5) pa_nil)))))) (pss_one (ps_ret pe_bl)) pss_nil))))))))))
      (C8.pss_cut (ps_set (i := 8) nd rfl (.inl rfl) (pe_tup (pa_cons (pe_tup (pa_cons (pe_tup (pa_cons pe_str (pa_cons pe_str pa_nil))) (pa_cons (pe_tup (pa_cons pe_str (pa_cons pe_str pa_nil))) pa_nil))) (pa_cons pe_bl pa_nil))))
      (C8.pss_cut (ps_set (i := 9) nd rfl (.inl rfl) (pe_lst (pa_cons (pe_call G_begins_with (hr.mono (by decide)) rfl T.g_begins_with F_begins_with.kp b_begins_with .nil passN (pa_cons (pv 8) (pa_cons (pe_op op_add_str (pe_op op_repS pe_str pe_int) pe_str) pa_nil))) (pa_cons (pe_call G_begins_with (hr.mono (by decide)) rfl T.g_begins_with F_begins_with.kp b_begins_with .nil passN (pa_cons (pv 8) (pa_cons (pe_op op_repS pe_str pe_int) pa_nil))) (pa_cons (pe_call G_ends_with (hr.mono (by decide)) rfl T.g_ends_with F_ends_with.kp b_ends_with .nil passN (pa_cons (pv 8) (pa_cons pe_str pa_nil))) pa_nil)))))
      (C8.pss_cut (ps_if (PW.pt (pw_or (pt_cmpR (op_neD hu64) (pe_op op_cat (pv 9) (pe_lst (pa_cons (pe_call G_fits (hr.mono (by decide)) rfl T.g_fits F_fits.kp b_fits .nil passN (pa_cons (pv 8) (pa_cons (pe_op op_repS pe_str pe_int) pa_nil))) pa_nil))) (pe_lst (pa_cons pe_bl (pa_cons pe_bl (pa_cons pe_bl (pa_cons pe_bl pa_nil))))) (nomark _)) (pw_or1 (pt_cmpR op_notBl (pe_call G_ends_with (hr.mono (by decide)) rfl T.g_ends_with F_ends_with.kp b_ends_with .nil passN (pa_cons (pe_tup (pa_cons (pe_ix ix_seq (pv 8) pe_int (fun _ _ => rfl)) (pa_cons pe_bl pa_nil))) (pa_cons pe_str pa_nil))) pe_bl (nomark _))))) (pss_one (ps_ret pe_bl)) pss_nil)
      (C8.pss_cut (ps_set (i := 9) nd rfl (.inl rfl) (pe_lst pa_nil))
      (C8.pss_cut (ps_for PassesOwn.never rfl (pi_tup (pe_tup (pa_cons (pe_tup (pa_cons (pe_tup pa_nil) (pa_cons pe_bl pa_nil))) (pa_cons (pe_tup (pa_cons (pe_tup pa_nil) (pa_cons pe_bl pa_nil))) pa_nil)))) (pg_name (i := 4) nd rfl (.inr rfl)) (pss_one (ps_expr (pe_bm PySem.F.plainAttrs_list PySem.F.slot_list_append PySem.F.type_list_append mt_append (pv 9) (pa_cons (pe_lst (pa_cons (pe_call G_fits (hr.mono (by decide)) rfl T.g_fits F_fits.kp b_fits .nil passN (pa_cons (pv 4) (pa_cons pe_str pa_nil))) (pa_cons (pe_call G_fits (hr.mono (by decide)) rfl T.g_fits F_fits.kp b_fits .nil passN (pa_cons (pv 4) (pa_cons pe_str pa_nil))) (pa_cons (pe_call G_begins_with (hr.mono (by decide)) rfl T.g_begins_with F_begins_with.kp b_begins_with .nil passN (pa_cons (pv 4) (pa_cons pe_str pa_nil))) (pa_cons (pe_call G_ends_with (hr.mono (by decide)) rfl T.g_ends_with F_ends_with.kp b_ends_with .nil passN (pa_cons (pv 4) (pa_cons pe_str pa_nil))) pa_nil))))) pa_nil)))))
      (pss_one (ps_ret (pe_cmpR (op_eqD hu64) (pv 9) (pe_lst (pa_cons (pe_lst (pa_cons pe_bl (pa_cons pe_bl (pa_cons pe_bl (pa_cons pe_bl pa_nil))))) (pa_cons (pe_lst (pa_cons pe_bl (pa_cons pe_bl (pa_cons pe_bl (pa_cons pe_bl pa_nil))))) pa_nil))) (nomark _)))))))))), ?_⟩
    have tabs0 : LamX.Tabs Ts H := fun p hp => LamX.TabS.nil (hT p hp)
    have hnn : (ns.map V.int).length = ns.length := by simp
    refine ⟨fun σ H1 => (∃ u1 u2 u3 u4 u5 u6 u7 u8 u9, σ = [some (.ref a), u1, u2, u3, u4, u5, u6, u7, u8, u9]), ?_, ?_⟩
    · refine ⟨_, rfl, _, _, rfl, .inl ⟨_, ha, rfl⟩, _, _, rfl, _, _, rfl, _, rfl, ?_, ?_, ?_⟩
      · split <;> split <;> omega
      · rw [hnn]
        have : (ns.length : Int) < 2 ^ 62 ∨ ¬ (ns.length : Int) < 2 ^ 62 := Decidable.em _
        split <;> split <;> omega
      refine for_range (lo := 0) (fun i σ H' => (∃ u1 u2 u3 u4 u5 u6 u7 u8 u9, σ = [some (.ref a), u1, u2, u3, u4, u5, u6, u7, u8, u9]) ∧ LamX.Tabs Ts H' ∧ SqL K H' a (ns.map V.int)) ⟨⟨_, _, _, _, _, _, _, _, _, rfl⟩, tabs0, ha⟩ ?_ (fun σ H' h => h.1)
      rintro i σ H' hi ⟨⟨u1, u2, u3, u4, u5, u6, u7, u8, u9, rfl⟩, tb1, sq1⟩
      -- the bag
      refine ⟨fun σ H2 => ∃ b, σ = [some (.ref a), some (.int (i : Nat)), some (.ref b), u3, u4, u5, u6, u7, u8, u9] ∧ BagAt b H2 ∧ LamX.Tabs Ts H2 ∧ ∀ Hf, KeepN b H2 Hf → SqL K Hf a (ns.map V.int), ?_, ?_⟩
      · have e0 : (0 : Int) + (i : Int) = ((i : Nat) : Int) := Int.zero_add _
        rw [e0]
        exact ⟨_, rfl, _, rfl, a, ns, i, rfl, sq1, fun p g s c np => ⟨p, rfl, ⟨g, s, c, upd_same⟩, tb1.ext (same_upd np), fun Hf k => sql_far sq1 np k⟩⟩
      rintro σ H2 ⟨b, rfl, hb2, tb2, sq2⟩
      refine ⟨4, rfl, by decide, by decide, ?_⟩
      refine for_range (lo := 0) (n := 4) (fun j σ H3 => (∃ u3 u4 u5 u6 u7 u8 u9, σ = [some (.ref a), some (.int (i : Nat)), some (.ref b), u3, u4, u5, u6, u7, u8, u9]) ∧ BagAt b H3 ∧ LamX.Tabs Ts H3 ∧ KeepN b H2 H3) ⟨⟨_, _, _, _, _, _, _, rfl⟩, hb2, tb2, KeepN.refl⟩ ?_ (fun σ H3 ⟨⟨u3, u4, u5, u6, u7, u8, u9, e⟩, _, t3, k3⟩ => ⟨⟨_, _, _, _, _, _, _, _, _, e⟩, t3, sq2 _ k3⟩)
      clear u3 u4 u5 u6 u7 u8 u9 hb2 tb2
      rintro j σ H3 hj ⟨⟨u3, u4, u5, u6, u7, u8, u9, rfl⟩, hb3, tb3, k23⟩
      -- the pattern
      refine ⟨fun σ H4 => ∃ p its whole v, σ = [some (.ref a), some (.int (i : Nat)), some (.ref b), v, some (.ref p), u5, u6, u7, u8, u9] ∧ BagAt b H4 ∧ LamX.Tabs Ts H4 ∧ KeepN b H2 H4 ∧ DrawnPat H4 p its whole, ?_, ?_⟩
      · refine ⟨_, rfl, ?_⟩
        refine pick_lst (φ := fun _ y => ∃ z : Str, z ≠ "" ∧ z.cps.toList.Sublist abcz ∧ y = V.str z) (j := 2) (c := 4) hb3 rfl (es_cons (el_c fun _ => ⟨"a", by decide, by decide +kernel, rfl⟩) (es_cons (el_c fun _ => ⟨"ab", by decide, by decide +kernel, rfl⟩) (es_cons (el_c fun _ => ⟨"abc", by decide, by decide +kernel, rfl⟩) (es_cons (el_c fun _ => ⟨"abcz", by decide, by decide +kernel, rfl⟩) es_nil)))) (by decide) (by decide) fun y H4 k4 b4 a4 => ?_
        obtain ⟨z, z1, z2, rfl⟩ := a4.here
        refine ⟨b, z, rfl, b4, z1, z2, fun p its whole H5 k5 b5 hp => ?_⟩
        exact ⟨p, its, whole, _, rfl, b5, tabs_keep (tabs_keep tb3 hb3 k4) b4 k5, (k23.trans (KeepN.keep k4)).trans (KeepN.keep k5), hp⟩
      clear hb3 tb3 k23
      rintro σ H4 ⟨p, its, whole, v, rfl, hb4, tb4, k24, hp⟩
      -- a text
      refine ⟨fun σ H5 => ∃ one, σ = [some (.ref a), some (.int (i : Nat)), some (.ref b), v, some (.ref p), some (.str one), u6, u7, u8, u9] ∧ Abc 10 one ∧ BagAt b H5 ∧ LamX.Tabs Ts H5 ∧ KeepN b H2 H5 ∧ DrawnPat H5 p its whole, ?_, ?_⟩
      · exact ⟨_, rfl, _, rfl, b, p, its, whole, rfl, hb4, hp, fun z H5 k5 b5 hz => ⟨z, rfl, hz, b5, tabs_keep tb4 hb4 k5, k24.trans (KeepN.keep k5), hp.far (TK.keep hb4 k5)⟩⟩
      clear hb4 tb4 k24 hp
      rintro σ H5 ⟨one, rfl, h1, hb5, tb5, k25, hp⟩
      -- some texts
      refine ⟨fun σ H6 => ∃ (q : Addr) (zs : List Str), σ = [some (.ref a), some (.int (i : Nat)), some (.ref b), v, some (.ref p), some (.str one), some (.ref q), u7, u8, u9] ∧ H6 q = some (.lst (zs.map V.str)) ∧ (∀ z ∈ zs, Abc 20 z) ∧ BagAt b H6 ∧ LamX.Tabs Ts H6 ∧ KeepN b H2 H6 ∧ DrawnPat H6 p its whole, ?_, ?_⟩
      · refine ⟨_, rfl, _, rfl, _, rfl, b, p, its, whole, rfl, hb5, hp, fun z2 H6 k6 b6 h2 => ?_⟩
        refine ⟨_, rfl, b, "abc", 8, rfl, b6, by decide, by decide, by decide, fun z3 H7 k7 b7 o7 => ⟨by show 4 ≤ sizeLine; rw [sizeLine_eq]; decide, fun q nq => ?_⟩⟩
        have S := same_upd (o := .lst [V.str one, V.str "", V.str z2, V.str z3]) nq
        refine ⟨q, [one, "", z2, z3], rfl, upd_same, fun z hz => ?_, b7.same S, (tabs_keep (tabs_keep tb5 hb5 k6) b6 k7).ext S, ((k25.trans (KeepN.keep k6)).trans (KeepN.keep k7)).trans (KeepN.same S), ((hp.far (TK.keep hb5 k6)).far (TK.keep b6 k7)).far (TK.same S)⟩
        simp only [List.mem_cons, List.not_mem_nil, or_false] at hz
        rcases hz with rfl | rfl | rfl | rfl
        · exact h1.mono (by decide)
        · exact ⟨by decide, fun c h => (by cases h)⟩
        · exact h2.mono (by decide)
        · exact (Abc.over o7).mono (by decide)
      clear hb5 tb5 k25 hp
      rintro σ H6 ⟨q, zs, rfl, hq, hzs, hb6, tb6, k26, hp⟩
      -- judged
      refine ⟨fun σ H7 => σ = [some (.ref a), some (.int (i : Nat)), some (.ref b), v, some (.ref p), some (.str one), some (.ref q), u7, u8, u9] ∧ BagAt b H7 ∧ LamX.Tabs Ts H7 ∧ KeepN b H2 H7 ∧ DrawnPat H7 p its whole, ?_, ?_⟩
      · refine ⟨_, rfl, q, rfl, ⟨_, SqL.of hq⟩, fun D nD => ?_⟩
        refine lc_list (K := K) (a := q) (xs := zs.map V.str) (fun i H' => Same H6 H' ∧ H' D = some (.lst [])) ⟨same_upd nD, upd_same⟩ (fun i H' _ h => SqL.of (h.1 _ _ hq)) ?_ ?_
        · rintro j x H' hx' ⟨S, hD⟩
          obtain ⟨z, hz, rfl⟩ := List.mem_map.mp (List.mem_of_getElem? hx')
          have hz2 := hzs z hz
          refine ⟨rfl, _, rfl, _, rfl, p, its, whole, z, rfl, hp.far (TK.same S), hz2.word, hz2.1, fun H7 S7 => ⟨_, rfl, iteF ⟨S.trans S7, S7 _ _ hD⟩⟩⟩
        · rintro H' ⟨S, hD⟩
          refine ⟨by show 0 ≤ sizeLine; rw [sizeLine_eq]; decide, fun r nr => ?_⟩
          have S8 := S.trans (same_upd (o := .lst []) nr)
          refine ⟨D, r, [], rfl, rfl, SqL.of ((same_upd nr) _ _ hD), SqL.of upd_same, _, rfl, iteF ?_⟩
          exact ⟨rfl, hb6.same S8, tb6.ext S8, k26.trans (KeepN.same S8), hp.far (TK.same S8)⟩
      clear hb6 tb6 k26 hp hq
      rintro σ H7 ⟨rfl, hb7, tb7, k27, hp⟩
      exact ⟨_, rfl, _, rfl, _, rfl, b, p, one, its, whole, rfl, hb7, hp, h1, tb7, fun H8 k8 b8 t8 => ⟨_, rfl, iteF ⟨⟨_, _, _, _, _, _, _, rfl⟩, b8, t8, k27.trans k8⟩⟩⟩
    rintro σ H1 ⟨u1, u2, u3, u4, u5, u6, u7, u8, u9, rfl⟩
    have two2 : 2 ≤ sizeLine := by rw [sizeLine_eq]; decide
    refine ⟨fun σ H2 => ∃ W, σ = [some (.ref a), u1, u2, u3, u4, u5, u6, u7, some (.ref W), u9] ∧ GPat H2 W wideI false, ?_, ?_⟩
    · refine ⟨two2, fun i1 n1 => ⟨two2, fun i2 n2 => ⟨two2, fun I nI => ⟨two2, fun W nW => ?_⟩⟩⟩⟩
      have Sa : Same (upd H1 i1 (.tup [V.str "abcdefghijklmnopqrstuvwxyz", V.str "any"])) _ := same_upd (o := .tup [V.str "z", V.str "one"]) n2
      have Sb := same_upd (o := .tup [V.ref i1, V.ref i2]) nI
      have Sc := same_upd (o := .tup [V.ref I, V.bl false]) nW
      refine ⟨W, rfl, I, [V.ref i1, V.ref i2], upd_same, Sc _ _ upd_same, rfl, fun i y it hy hit => ?_, fun it hit => ?_, by decide⟩
      · match i, hy, hit with
        | 0, hy, hit => cases hy; cases hit; exact ⟨i1, rfl, (Sb.trans Sc) _ _ (Sa _ _ upd_same)⟩
        | 1, hy, hit => cases hy; cases hit; exact ⟨i2, rfl, (Sb.trans Sc) _ _ upd_same⟩
      · simp only [List.mem_cons, List.not_mem_nil, or_false] at hit
        rcases hit with rfl | rfl
        · exact ⟨by decide +kernel, by decide +kernel, by decide, by decide⟩
        · exact ⟨by decide +kernel, by decide +kernel, by decide, by decide⟩
    rintro σ H2 ⟨W, rfl, hW⟩
    refine ⟨fun σ H3 => ∃ q, σ = [some (.ref a), u1, u2, u3, u4, u5, u6, u7, some (.ref W), some (.ref q)] ∧ GPat H3 W wideI false ∧ H3 q = some (.lst [.bl true, .bl false, .bl true]), ?_, ?_⟩
    · refine ⟨_, rfl, "a", 59, rfl, rfl, by decide, by decide, _, _, rfl, rfl, by rw [repS_length, sizeLine_eq]; decide, ?_⟩
      refine ⟨_, _, true, true, rfl, hW.true, tx_ok t1.1 t1.2, fun e => (by cases e), fun _ e => (by cases e), fun _ _ => ⟨wideI, false, _, hW.at, by decide, rfl, t1.2, fun H3 S3 => ?_⟩⟩
      rw [w1]
      have hW3 := hW.same S3
      refine ⟨_, rfl, "a", 60, rfl, rfl, by decide, by decide, ?_⟩
      refine ⟨_, _, true, true, rfl, hW3.true, tx_ok t2.1 t2.2, fun e => (by cases e), fun _ e => (by cases e), fun _ _ => ⟨wideI, false, _, hW3.at, by decide, rfl, t2.2, fun H4 S4 => ?_⟩⟩
      rw [w2]
      have hW4 := hW3.same S4
      refine ⟨_, rfl, ?_⟩
      refine ⟨_, _, true, true, rfl, hW4.true, tx_ok (by decide +kernel) (by decide), fun e => (by cases e), fun _ e => (by cases e), fun _ _ => ⟨wideI, false, _, hW4.at, by decide, rfl, by decide, fun H5 S5 => ?_⟩⟩
      rw [w3]
      have hW5 := hW4.same S5
      exact ⟨by show 3 ≤ sizeLine; rw [sizeLine_eq]; decide, fun q nq => ⟨q, rfl, hW5.same (same_upd nq), upd_same⟩⟩
    clear hW
    rintro σ H3 ⟨q, rfl, hW, hq⟩
    refine ⟨fun σ H4 => σ = [some (.ref a), u1, u2, u3, u4, u5, u6, u7, some (.ref W), some (.ref q)], ?_, ?_⟩
    · refine ⟨_, rfl, _, rfl, "z", 60, rfl, rfl, by decide, by decide, ?_⟩
      refine ⟨_, _, true, true, rfl, hW.true, tx_ok t4.1 t4.2, fun e => (by cases e), fun _ e => (by cases e), fun _ _ => ⟨wideI, false, _, hW.at, by decide, rfl, t4.2, fun H4 S4 => ?_⟩⟩
      rw [w4]
      have hW4 := hW.same S4
      refine ⟨by show 1 ≤ sizeLine; rw [sizeLine_eq]; decide, fun q2 n2 => ?_⟩
      have S5 := same_upd (o := .lst [V.bl true]) n2
      refine ⟨q, q2, _, _, rfl, rfl, S5 _ _ (S4 _ _ hq), upd_same, by show 3 + 1 ≤ sizeLine; rw [sizeLine_eq]; decide, fun q3 n3 => ?_⟩
      have S6 := same_upd (o := .lst [V.bl true, V.bl false, V.bl true, V.bl true]) n3
      refine ⟨by show 4 ≤ sizeLine; rw [sizeLine_eq]; decide, fun q4 n4 => ?_⟩
      have S7 := same_upd (o := .lst [V.bl true, V.bl false, V.bl true, V.bl true]) n4
      have hW7 := ((hW4.same S5).same S6).same S7
      refine ne_bl (bs := [true, false, true, true]) (cs := [true, false, true, true]) (S7 _ _ upd_same) upd_same rfl ⟨_, rfl, iteF ?_⟩
      obtain ⟨I, vs, g1, g2, g3, g4, g5, g6⟩ := hW7
      have at0 : atI ([V.ref I, V.bl false] : List V) 0 = some (.ref I) := rfl
      refine ⟨_, rfl, .inr (.inl ⟨W, _, 0, _, rfl, rfl, SqT.of g1, at0, two2, fun W2 nW2 => ?_⟩)⟩
      have tk := TK.same (same_upd (o := .tup [V.ref I, V.bl true]) nW2)
      have hW8 : GPat _ W2 wideI true := ⟨I, vs, upd_same, tk _ _ g2, g3, fun i y it a c => (let ⟨q, e, z⟩ := g4 i y it a c; ⟨q, e, tk _ _ z⟩), g5, g6⟩
      refine ⟨_, _, true, true, rfl, hW8.true, tx_ok (by decide +kernel) (by decide), fun e => (by cases e), fun _ e => (by cases e), fun _ _ => ⟨wideI, true, _, hW8.at, by decide, rfl, by decide, fun H9 S9 => ?_⟩⟩
      rw [w5]
      exact ⟨true, true, rfl, rfl, _, rfl, iteF rfl⟩
    clear hW hq H3
    rintro σ H3 rfl
    refine ⟨fun σ H4 => ∃ pf, σ = [some (.ref a), u1, u2, u3, u4, u5, u6, u7, some (.ref W), some (.ref pf)] ∧ H4 pf = some (.lst []), ?_, ?_⟩
    · exact ⟨by show 0 ≤ sizeLine; rw [sizeLine_eq]; decide, fun pf npf => ⟨pf, rfl, upd_same⟩⟩
    rintro σ H4 ⟨pf, rfl, hpf⟩
    have z0 : 0 ≤ sizeLine := by rw [sizeLine_eq]; decide
    refine ⟨fun σ H5 => (∃ u, σ = [some (.ref a), u1, u2, u3, u, u5, u6, u7, some (.ref W), some (.ref pf)]) ∧ ∃ l1 l2, H5 pf = some (.lst [.ref l1, .ref l2]) ∧ H5 l1 = some (.lst ((outs false).map V.bl)) ∧ H5 l2 = some (.lst ((outs true).map V.bl)), ?_, ?_⟩
    · refine ⟨z0, fun a1 n1 => ⟨two2, fun a2 n2 => ⟨z0, fun a3 n3 => ⟨two2, fun a4 n4 => ⟨two2, fun t nt => ?_⟩⟩⟩⟩⟩
      obtain ⟨H5, hH5, S45, e1', e2', e3', e4', et⟩ := five (o5 := .tup [.ref a2, .ref a4]) n1 n2 n3 n4 nt
      rw [← hH5]
      clear hH5 n1 n2 n3 n4 nt
      have hpf5 := S45 _ _ hpf
      have gp : ∀ (w : Bool), ∃ p, (p = if w = true then a4 else a2) ∧ GPat H5 p [] w := fun w => by
        cases w with
        | false => exact ⟨a2, rfl, a1, [], e2', e1', rfl, fun i y it h => (nomatch h), fun _ h => (nomatch h), by decide⟩
        | true => exact ⟨a4, rfl, a3, [], e4', e3', rfl, fun i y it h => (nomatch h), fun _ h => (nomatch h), by decide⟩
      refine ⟨t, rfl, ⟨_, SqT.of et⟩, ?_⟩
      refine for_tup (K := K) (xs := [.ref a2, .ref a4]) (fun i σ H' => (∃ u, σ = [some (.ref a), u1, u2, u3, u, u5, u6, u7, some (.ref W), some (.ref pf)]) ∧ TK H5 H' ∧ ((i = 0 ∧ H' pf = some (.lst [])) ∨ (i = 1 ∧ ∃ l1, H' pf = some (.lst [.ref l1]) ∧ H' l1 = some (.lst ((outs false).map V.bl))) ∨
          (i = 2 ∧ ∃ l1 l2, H' pf = some (.lst [.ref l1, .ref l2]) ∧ H' l1 = some (.lst ((outs false).map V.bl)) ∧ H' l2 = some (.lst ((outs true).map V.bl))))) ⟨⟨_, rfl⟩, TK.refl, .inl ⟨rfl, hpf5⟩⟩ (fun i σ H' _ h => SqT.of (h.2.1 _ _ et)) ?_ ?_
      · rintro i x σ H' hx ⟨⟨u, rfl⟩, tk, hinv⟩
        have body : ∃ p w, x = .ref p ∧ GPat H' p [] w ∧ ((w = false ∧ i = 0) ∨ (w = true ∧ i = 1)) := by
          rcases two_get hx with ⟨rfl, rfl⟩ | ⟨rfl, rfl⟩
          · obtain ⟨p, e, g⟩ := gp false
            rw [if_neg Bool.false_ne_true] at e
            subst e
            exact ⟨_, false, rfl, g.far tk, .inl ⟨rfl, rfl⟩⟩
          · obtain ⟨p, e, g⟩ := gp true
            rw [if_pos rfl] at e
            subst e
            exact ⟨_, true, rfl, g.far tk, .inr ⟨rfl, rfl⟩⟩
        obtain ⟨p, wh, rfl, g, hw⟩ := body
        obtain ⟨xs, hxs, lxs⟩ : ∃ xs, H' pf = some (.lst xs) ∧ xs.length ≤ 2 := by
          rcases hinv with ⟨_, h⟩ | ⟨_, l, h, _⟩ | ⟨_, l, m, h, _⟩
          · exact ⟨_, h, by decide⟩
          · exact ⟨_, h, by show 1 ≤ 2; decide⟩
          · exact ⟨_, h, by show 2 ≤ 2; decide⟩
        refine ⟨_, rfl, .inl ⟨rfl, _, SqL.of hxs⟩, ?_⟩
        refine ⟨_, rfl, ?_⟩
        refine ⟨_, _, true, true, rfl, g.true, tx_ok (by decide +kernel) (by decide), fun e => (by cases e), fun _ e => (by cases e), fun _ _ => ⟨[], wh, _, g.at, by decide, rfl, by decide, fun H6 S6 => ?_⟩⟩
        rw [e1]
        have g6 := g.same S6
        refine ⟨_, rfl, ?_⟩
        refine ⟨_, _, true, true, rfl, g6.true, tx_ok (by decide +kernel) (by decide), fun e => (by cases e), fun _ e => (by cases e), fun _ _ => ⟨[], wh, _, g6.at, by decide, rfl, by decide, fun H7 S7 => ?_⟩⟩
        rw [e2]
        have g7 := g6.same S7
        refine ⟨_, rfl, ?_⟩
        refine ⟨_, _, true, true, rfl, g7.true, tx_ok (by decide +kernel) (by decide), fun e => (by cases e), fun _ e => (by cases e), fun _ _ => ⟨[], wh, _, g7.at, by decide, rfl, by decide, fun H8 S8 => ?_⟩⟩
        rw [e3]
        have g8 := g7.same S8
        refine ⟨_, rfl, ?_⟩
        refine ⟨_, _, true, true, rfl, g8.true, tx_ok (by decide +kernel) (by decide), fun e => (by cases e), fun _ e => (by cases e), fun _ _ => ⟨[], wh, _, g8.at, by decide, rfl, by decide, fun H9 S9 => ?_⟩⟩
        rw [e4]
        have S := ((S6.trans S7).trans S8).trans S9
        refine ⟨by show 4 ≤ sizeLine; rw [sizeLine_eq]; decide, fun l nl => ?_⟩
        have S10 := S.trans (same_upd (o := .lst [V.bl true, V.bl false, V.bl (!wh), V.bl (!wh)]) nl)
        have lpf : l ≠ pf := fun e => by
          rw [e, S _ _ hxs] at nl
          cases nl
        refine ⟨pf, xs, _, rfl, rfl, S10 _ _ hxs, by rw [sizeLine_eq]; omega, ?_⟩
        refine ⟨⟨_, rfl⟩, (tk.trans (TK.same S10)).trans (TK.put (S10 _ _ hxs)), ?_⟩
        have far : ∀ {m : Addr} {ys zs : List V}, m ≠ pf → H' m = some (.lst ys) → upd (upd H9 l (.lst [V.bl true, V.bl false, V.bl (!wh), V.bl (!wh)])) pf (.lst zs) m = some (.lst ys) := fun ne h => by
          rw [upd_ne ne]
          exact S10 _ _ h
        rcases hw with ⟨rfl, rfl⟩ | ⟨rfl, rfl⟩
        · rcases hinv with ⟨_, h⟩ | ⟨h, _⟩ | ⟨h, _⟩
          · rw [h] at hxs
            cases hxs
            exact .inr (.inl ⟨rfl, l, upd_same, by rw [upd_ne lpf]; exact upd_same⟩)
          · cases h
          · cases h
        · rcases hinv with ⟨h, _⟩ | ⟨_, l1, h, h'⟩ | ⟨h, _⟩
          · cases h
          · rw [h] at hxs
            cases hxs
            have l1pf : l1 ≠ pf := fun e => by
              rw [e, h] at h'
              cases h'
            exact .inr (.inr ⟨rfl, l1, l, upd_same, far l1pf h', by rw [upd_ne lpf]; exact upd_same⟩)
          · cases h
      · rintro σ H' ⟨⟨u, rfl⟩, tk, hinv⟩
        rcases hinv with ⟨h, _⟩ | ⟨h, _⟩ | ⟨_, h⟩
        · cases h
        · cases h
        · exact ⟨⟨_, rfl⟩, h⟩
    rintro σ H5 ⟨⟨u, rfl⟩, l1, l2, h0, h1, h2⟩
    have four4 : 4 ≤ sizeLine := by rw [sizeLine_eq]; decide
    refine ⟨_, rfl, four4, fun m1 n1 => ⟨four4, fun m2 n2 => ⟨two2, fun m3 n3 => ?_⟩⟩⟩
    have Sa := same_upd (o := .lst ((outs false).map V.bl)) n1
    have Sb := same_upd (o := .lst ((outs true).map V.bl)) n2
    have Sc := same_upd (o := .lst [V.ref m1, V.ref m2]) n3
    have S := (Sa.trans Sb).trans Sc
    refine ⟨.list [.list ((outs false).map PyData.bool), .list ((outs true).map PyData.bool)], .list [.list ((outs false).map PyData.bool), .list ((outs true).map PyData.bool)],
      .lst (SqL.of (S _ _ h0)) (.cons (dp_bl (S _ _ h1)) (.cons (dp_bl (S _ _ h2)) .nil)), .lst (SqL.of upd_same) (.cons (dp_bl ((Sb.trans Sc) _ _ upd_same)) (.cons (dp_bl (Sc _ _ upd_same)) .nil)), by decide +kernel, by decide +kernel, ?_⟩
    have ee : PyData.eqv (.list [.list ((outs false).map PyData.bool), .list ((outs true).map PyData.bool)]) (.list [.list ((outs false).map PyData.bool), .list ((outs true).map PyData.bool)]) = true := by decide +kernel
    rw [ee]
    exact k _
end
end K0
-- FmOx
set_option maxRecDepth 100000
set_option maxHeartbeats 4000000
/-! OxC and ExcC, found out by evaluation. -/
namespace FM
open PySem PySem.Spec PyProof.Rows L2
def oxShape (K : PySem.W.Frag) (C : Addr) (bm : List Value) (nI : String) : Bool :=
  match K.lookup C with
  | some ⟨.type "type", _, .cls cd, sl⟩ => (match sl.toList with
    | [_, _, _, _, some (.builtin n), _] => decide (n = nI) && (decide (cd.mro = .ref C :: bm) && (cd.hasDict && !cd.hasDel))
    | _ => false)
  | _ => false
def oxB (K : PySem.W.Frag) (C : Addr) (bm : List Value) (nI : String) : Bool :=
  oxShape K C bm nI && (decide (PySem.W.findIn K (.ref C) "__setattr__" = some (some (.builtin "object.__setattr__"))) &&
    (decide (PySem.W.findIn K (.ref C) "__getattribute__" = some (some (.builtin "BaseException.__getattribute__"))) &&
    (decide (PySem.W.findIn K (.ref C) "__getattr__" = some none) && (decide (PySem.W.subIn K (.ref C) (.type "BaseException") = some true) &&
    (decide (PySem.W.typeIn K (.ref C) = some (.type "type")) && (PySem.W.keepIn K (.ref C) && PySem.W.hasDictIn K C))))))
theorem oxB_ok {K : PySem.W.Frag} {C : Addr} {bm : List Value} {B nI iI : String} {bB : List Value} (F : ExcBaseFacts B nI iI bB) (c : PySem.FX.Chain B bm) (ho : bm.contains (.type "object") = true)
    (hp : ∀ (C : Addr) (self : Value), refuseLoop self "__setattr__" (.ref C :: bm) = pure ()) (h : oxB K C bm nI = true) : OxC K C := by
  unfold oxB at h
  simp only [Bool.and_eq_true, decide_eq_true_eq] at h
  obtain ⟨h0, h1, h2, h3, h4, h5, h6, h7⟩ := h
  refine ⟨⟨B, nI, iI, bB, bm, F, c, ho, hp C, ?_⟩, h1, h2, h3, h4, h5, h6, h7⟩
  unfold oxShape at h0
  split at h0
  · rename_i dd cd sl e
    split at h0
    · rename_i k0 k1 k2 k3 n k5 hs
      simp only [Bool.and_eq_true, decide_eq_true_eq, Bool.not_eq_true'] at h0
      obtain ⟨hn, hm, hd, hdel⟩ := h0
      subst hn
      obtain ⟨nm, bs, mro, ns, qn, hdct, sn, sub, ab, col, del⟩ := cd
      dsimp only at hm hd hdel
      subst hm hd hdel
      have e2 : sl = #[k0, k1, k2, k3, some (.builtin n), k5] := by
        obtain ⟨l⟩ := sl
        exact congrArg Array.mk hs
      subst e2
      exact ⟨nm, qn, ns, bs, sn, sub, ab, col, dd, k0, k1, k2, k3, k5, e⟩
    · cases h0
  · cases h0
def excB (K : PySem.W.Frag) (D : Addr) : Bool :=
  decide (PySem.W.findIn K (.ref D) "__getattribute__" = some (some (.builtin "BaseException.__getattribute__"))) && (decide (PySem.W.findIn K (.ref D) "__getattr__" = some none) &&
    (decide (PySem.W.subIn K (.ref D) (.type "BaseException") = some true) && (PySem.W.hasDictIn K D && (decide (PySem.W.findIn K (.ref D) "__class__" = some (some (.builtin "object.__class__"))) &&
    (decide (PySem.W.specialIn K (.builtin "object.__class__") "__get__" = some (some (.builtin "getset_descriptor.__get__"))) && (decide (PySem.W.takesIn K (.builtin "object.__class__") = some true) &&
    decide (PySem.W.mroIn K D (.type "object") = some true)))))))
theorem excB_ok {K : PySem.W.Frag} {D : Addr} (h : excB K D = true) : ExcC K D := by
  unfold excB at h
  simp only [Bool.and_eq_true, decide_eq_true_eq] at h
  obtain ⟨h1, h2, h3, h4, h5, h6, h7, h8⟩ := h
  exact ⟨h1, h2, h3, h4, h5, h6, h7, h8⟩
theorem goes_IndexError (C : Addr) (self : Value) : refuseLoop self "__setattr__" [.ref C, .type "IndexError", .type "LookupError", .type "Exception", .type "BaseException", .type "object"] = pure () := by kernel_rfl
theorem goes_KeyError (C : Addr) (self : Value) : refuseLoop self "__setattr__" [.ref C, .type "KeyError", .type "LookupError", .type "Exception", .type "BaseException", .type "object"] = pure () := by kernel_rfl
theorem goes_OverflowError (C : Addr) (self : Value) : refuseLoop self "__setattr__" [.ref C, .type "OverflowError", .type "ArithmeticError", .type "Exception", .type "BaseException", .type "object"] = pure () := by kernel_rfl
theorem goes_ArithmeticError (C : Addr) (self : Value) : refuseLoop self "__setattr__" [.ref C, .type "ArithmeticError", .type "Exception", .type "BaseException", .type "object"] = pure () := by kernel_rfl
theorem goes_RuntimeError (C : Addr) (self : Value) : refuseLoop self "__setattr__" [.ref C, .type "RuntimeError", .type "Exception", .type "BaseException", .type "object"] = pure () := by kernel_rfl
theorem goes_LookupError (C : Addr) (self : Value) : refuseLoop self "__setattr__" [.ref C, .type "LookupError", .type "Exception", .type "BaseException", .type "object"] = pure () := by kernel_rfl
end FM
-- FmHook
set_option maxRecDepth 100000
set_option maxHeartbeats 2000000
/-! A Hook over a part of the heap that is gathered by names: few objects, quick to look up. -/
namespace FM
open PySem PySem.Spec PyProof.Rows L2 He
def nsAd (g : Addr → Option Obj) (a : Addr) : List Addr := match g a with
  | some ⟨_, _, .cls cd, _⟩ => [cd.ns]
  | _ => []
def cdAd (g : Addr → Option Obj) (a : Addr) : List Addr := match g a with
  | some ⟨_, _, .func fd, _⟩ => (match fd.code with
    | .ref c => [c]
    | _ => [])
  | _ => []
/-- the globals xs, their namespaces and code objects, the inits of the classes ms and their code objects -/
def gath (xs ms : List Str) (g : Addr → Option Obj) : List Addr :=
  (fun as => (fun ns => (fun is => mainGlobals :: (as ++ (ns ++ (is ++ (as ++ is).flatMap (cdAd g))))) (ms.map fun x => ma (frG g (mainGlobals :: (as ++ ns))) (ga (frG g [mainGlobals]) x) "__init__"))
    (as.flatMap (nsAd g))) (xs.map fun x => ga (frG g [mainGlobals]) x)
section
variable (xs ms : List Str) (fa : List Fa) (fn : List DefD) (tf : List Defn) (ex : PySem.W.Frag → Bool)
def obsN (g : Addr → Option Obj) : AlX := (fun K => (obsT fa fn [] K, ex K && tabsB g tf K)) (frT g (gath xs ms g))
variable {xs ms fa fn tf ex}
theorem says_of {w : World} {h : Heap} (e : obsN xs ms fa fn tf ex h.get? = valX fn [] w) : SaysX fa fn [] tf ex w h (frT h.get? (gath xs ms h.get?)) := by
  let K := frT h.get? (gath xs ms h.get?)
  have e1 : obsT fa fn [] K = valT fn [] w := congrArg Prod.fst e
  have e2 : (ex K && tabsB h.get? tf K) = true := congrArg Prod.snd e
  obtain ⟨h1, h2⟩ := ba e2
  have all : ∀ p ∈ tf, PySem.W.codeHdIn K (cT K p).1 (cT K p).2 = true ∧ ∃ o, h.get? (cT K p).2 = some o ∧ emptyTab o = true := fun p hp => by
    obtain ⟨z1, z2⟩ := ba (List.all_eq_true.mp h2 p hp)
    cases q : h.get? (cT K p).2 with
    | none => rw [q] at z2; cases z2
    | some o => rw [q] at z2; exact ⟨z1, o, rfl, z2⟩
  constructor
  · exact e1
  · exact h1
  · exact fun p hp => (all p hp).1
  · intro p hp
    obtain ⟨_, o, q, z⟩ := all p hp
    exact frT_none q z
  · intro p hp
    obtain ⟨_, o, q, z⟩ := all p hp
    rw [q, emptyTab_eq z]
variable (xs ms fa fn tf ex)
def hookN : PySem.W.Hook where
  α := AlX
  obs := fun s => obsN xs ms fa fn tf ex s.heap.get?
  val := fun w => valX fn [] w
  says := fun w h => ∃ K : PySem.W.Frag, K.In h ∧ SaysX fa fn [] tf ex w h K
  of := fun _ _ e => ⟨_, frT_in, says_of e⟩
  keeps := fun _ _ _ h k => by
    obtain ⟨K, i, c⟩ := h
    exact ⟨K, i.keeps k, c.t, c.more, c.hd, c.out, fun p hp => k _ _ (c.empty p hp)⟩
variable {xs ms fa fn tf ex}
theorem obsN_eq {g : Addr → Option Obj} {s : Shared} (h : ∀ a, g a = s.heap.get? a) : obsN xs ms fa fn tf ex g = (hookN xs ms fa fn tf ex).obs s := by
  have e : g = s.heap.get? := funext h
  rw [e]
  rfl
end
end FM
-- K6Head
set_option maxRecDepth 100000
set_option maxHeartbeats 0
namespace K0H
open PySem PySem.Spec PyProof.Rows L2 FM He K0
def d_is_tuple_of : DefD := ⟨("is_tuple_of", none), "is_tuple_of", "is_tuple_of", defArgs s_is_tuple_of, defBody s_is_tuple_of, defScope s_is_tuple_of, [], []⟩
def d_is_word : DefD := ⟨("is_word", none), "is_word", "is_word", defArgs s_is_word, defBody s_is_word, defScope s_is_word, [], []⟩
def d_is_text : DefD := ⟨("is_text", none), "is_text", "is_text", defArgs s_is_text, defBody s_is_text, defScope s_is_text, [], []⟩
def d_is_pattern : DefD := ⟨("is_pattern", none), "is_pattern", "is_pattern", defArgs s_is_pattern, defBody s_is_pattern, defScope s_is_pattern, [], []⟩
def d_fits : DefD := ⟨("fits", none), "fits", "fits", defArgs s_fits, defBody s_fits, defScope s_fits, [], []⟩
def d_begins_with : DefD := ⟨("begins_with", none), "begins_with", "begins_with", defArgs s_begins_with, defBody s_begins_with, defScope s_begins_with, [], []⟩
def d_ends_with : DefD := ⟨("ends_with", none), "ends_with", "ends_with", defArgs s_ends_with, defBody s_ends_with, defScope s_ends_with, [], []⟩
def d_turned_round : DefD := ⟨("turned_round", none), "turned_round", "turned_round", defArgs s_turned_round, defBody s_turned_round, defScope s_turned_round, [], []⟩
def d_trace_of : DefD := ⟨("trace_of", none), "trace_of", "trace_of", defArgs s_trace_of, defBody s_trace_of, defScope s_trace_of, [], []⟩
def d_first_trace : DefD := ⟨("first_trace", none), "first_trace", "first_trace", defArgs s_first_trace, defBody s_first_trace, defScope s_first_trace, [], []⟩
def d_next_trace : DefD := ⟨("next_trace", none), "next_trace", "next_trace", defArgs s_next_trace, defBody s_next_trace, defScope s_next_trace, [], []⟩
def d_is_matched : DefD := ⟨("is_matched", none), "is_matched", "is_matched", defArgs s_is_matched, defBody s_is_matched, defScope s_is_matched, [], []⟩
def d__check : DefD := ⟨("_check", none), "_check", "_check", defArgs s__check, defBody s__check, defScope s__check, [], []⟩
def d__is_item : DefD := ⟨("_is_item", none), "_is_item", "_is_item", defArgs s__is_item, defBody s__is_item, defScope s__is_item, [], []⟩
def d__law_start : DefD := ⟨("_law_start", none), "_law_start", "_law_start", defArgs sStart, defBody sStart, defScope sStart, [], []⟩
def d__law_throw : DefD := ⟨("_law_throw", none), "_law_throw", "_law_throw", defArgs sThrow, defBody sThrow, defScope sThrow, [], []⟩
def d__law_pick : DefD := ⟨("_law_pick", none), "_law_pick", "_law_pick", defArgs sPick, defBody sPick, defScope sPick, [], []⟩
def d__law_drawn_word : DefD := ⟨("_law_drawn_word", none), "_law_drawn_word", "_law_drawn_word", defArgs s__law_drawn_word, defBody s__law_drawn_word, defScope s__law_drawn_word, [], []⟩
def d__law_drawn_items : DefD := ⟨("_law_drawn_items", none), "_law_drawn_items", "_law_drawn_items", defArgs s__law_drawn_items, defBody s__law_drawn_items, defScope s__law_drawn_items, [], []⟩
def d__law_drawn_pattern : DefD := ⟨("_law_drawn_pattern", none), "_law_drawn_pattern", "_law_drawn_pattern", defArgs s__law_drawn_pattern, defBody s__law_drawn_pattern, defScope s__law_drawn_pattern, [], []⟩
def d__law_fits_in : DefD := ⟨("_law_fits_in", none), "_law_fits_in", "_law_fits_in", defArgs s__law_fits_in, defBody s__law_fits_in, defScope s__law_fits_in, [], []⟩
def d__law_begins_in : DefD := ⟨("_law_begins_in", none), "_law_begins_in", "_law_begins_in", defArgs s__law_begins_in, defBody s__law_begins_in, defScope s__law_begins_in, [], []⟩
def d__law_ends_in : DefD := ⟨("_law_ends_in", none), "_law_ends_in", "_law_ends_in", defArgs s__law_ends_in, defBody s__law_ends_in, defScope s__law_ends_in, [], []⟩
def d__law_told : DefD := ⟨("_law_told", none), "_law_told", "_law_told", defArgs s__law_told, defBody s__law_told, defScope s__law_told, [], []⟩
def d__law_near_text : DefD := ⟨("_law_near_text", none), "_law_near_text", "_law_near_text", defArgs s__law_near_text, defBody s__law_near_text, defScope s__law_near_text, [], []⟩
def d__law_judged_right : DefD := ⟨("_law_judged_right", none), "_law_judged_right", "_law_judged_right", defArgs s__law_judged_right, defBody s__law_judged_right, defScope s__law_judged_right, [], []⟩
def d__law_bad_patterns : DefD := ⟨("_law_bad_patterns", none), "_law_bad_patterns", "_law_bad_patterns", defArgs s__law_bad_patterns, defBody s__law_bad_patterns, defScope s__law_bad_patterns, [], []⟩
def d__law_refused_right : DefD := ⟨("_law_refused_right", none), "_law_refused_right", "_law_refused_right", defArgs s__law_refused_right, defBody s__law_refused_right, defScope s__law_refused_right, [], []⟩
def d_law : DefD := ⟨("law", none), "law", "law", defArgs s_law, defBody s_law, defScope s_law, [], []⟩
def fn0 : List DefD := [d_is_tuple_of, d_is_word, d_is_text, d_is_pattern, d_fits, d_begins_with, d_ends_with, d_turned_round, d_trace_of, d_first_trace, d_next_trace, d_is_matched, d__check, d__is_item, d__law_start, d__law_throw, d__law_pick, d__law_drawn_word, d__law_drawn_items, d__law_drawn_pattern, d__law_fits_in, d__law_begins_in, d__law_ends_in, d__law_told, d__law_near_text, d__law_judged_right, d__law_bad_patterns, d__law_refused_right, d_law]
def fn : List DefD := fn0
def fa0 : List Fa := [.free "isinstance", .free "range", .free "str", .free "tuple", .free "len", .free "all", .free "bool", .free "repr", .free "set", .free "sorted", .free "list", .free "enumerate", .free "int", .free "abs", .free "max", .free "min", .glo "MarkError", .glo "InvalidText", .glo "InvalidBook", .glo "_KINDS", .glo "is_tuple_of", .glo "is_word", .glo "is_text", .glo "is_pattern", .glo "fits", .glo "begins_with", .glo "ends_with", .glo "turned_round", .glo "trace_of", .glo "first_trace"]
def fa1 : List Fa := [.glo "next_trace", .glo "is_matched", .glo "_check", .glo "_is_item", .glo "_law_start", .glo "_law_throw", .glo "_law_pick", .glo "_law_drawn_word", .glo "_law_drawn_items", .glo "_law_drawn_pattern", .glo "_law_fits_in", .glo "_law_begins_in", .glo "_law_ends_in", .glo "_law_told", .glo "_law_near_text", .glo "_law_judged_right", .glo "_law_bad_patterns", .glo "_law_refused_right", .glo "law", .str "_ALPHABET" "abcdefghijklmnopqrstuvwxyz", .int "_MOST_ITEMS" 3, .int "MAX_TEXT" 60]
def fa : List Fa := fa0 ++ fa1
def tf : List Defn := [("_law_refused_right", none)]
def exA (K : PySem.W.Frag) : Bool := mark9.all fun x => excB K (ga K x)
def exK (K : PySem.W.Frag) : Bool := two.all fun x => two.all fun y => decide (PySem.W.kitOne K (.ref (ga K x)) (.ref (ga K y)) = some (decide (x = y)))
def exV (K : PySem.W.Frag) : Bool := mark9.all fun x => PySem.W.excIn K (ga K x) veBase "ValueError.__new__" && (PySem.W.keepIn K (.ref (ga K x)) && (decide (PySem.W.typeIn K (.ref (ga K x)) = some (.type "type")) && decide (PySem.W.subIn K (.ref (ga K x)) (.type "BaseException") = some true)))
def exO (K : PySem.W.Frag) : Bool := two.all fun x => decide (PySem.W.exmOne K (.ref (ga K x)) (.ref (ga K "MarkError")) = some true)
def isKinds (o : Obj) : Bool := decide (o.cls = .type "tuple") && (match o.data with | .seq its _ => (decide (its.size ≤ 2) && (match its.toList with | [.str a _, .str b _] => decide (a = "one") && decide (b = "any") | _ => false)) | _ => false)
def exT (K : PySem.W.Frag) : Bool := match K.lookup (ga K "_KINDS") with | some o => isKinds o | none => false
def exD (K : PySem.W.Frag) : Bool := decide ((tf.map fun p => (cT K p).2).Nodup)
def ex (K : PySem.W.Frag) : Bool := exA K && (exK K && (exV K && (exO K && (exT K && exD K))))
abbrev R : PySem.W.OpenRow := PySem.W.OpenLaw.row PySem.Challenge.rw_fewmarks_k60_patterns
abbrev qv : Program := PySem.W.view R.prog [40]
def names0 : List PySem.Str := [(PySem.Str.ofString "is_tuple_of"), (PySem.Str.ofString "MarkError"), (PySem.Str.ofString "InvalidText"), (PySem.Str.ofString "InvalidBook"), (PySem.Str.ofString "MAX_TEXT"), (PySem.Str.ofString "_ALPHABET"), (PySem.Str.ofString "is_word"), (PySem.Str.ofString "is_text"), (PySem.Str.ofString "_MOST_ITEMS"), (PySem.Str.ofString "_KINDS"), (PySem.Str.ofString "is_pattern"), (PySem.Str.ofString "fits"), (PySem.Str.ofString "begins_with"), (PySem.Str.ofString "ends_with"), (PySem.Str.ofString "turned_round"), (PySem.Str.ofString "trace_of"), (PySem.Str.ofString "first_trace"), (PySem.Str.ofString "next_trace"), (PySem.Str.ofString "is_matched"), (PySem.Str.ofString "_check"), (PySem.Str.ofString "_is_item"), (PySem.Str.ofString "_law_start"), (PySem.Str.ofString "_law_throw"), (PySem.Str.ofString "_law_pick"), (PySem.Str.ofString "_law_drawn_word"), (PySem.Str.ofString "_law_drawn_items"), (PySem.Str.ofString "_law_drawn_pattern"), (PySem.Str.ofString "_law_fits_in"), (PySem.Str.ofString "_law_begins_in"), (PySem.Str.ofString "_law_ends_in")]
def names1 : List PySem.Str := [(PySem.Str.ofString "_law_told"), (PySem.Str.ofString "_law_near_text"), (PySem.Str.ofString "_law_judged_right"), (PySem.Str.ofString "_law_bad_patterns"), (PySem.Str.ofString "_law_refused_right")]
def names : List PySem.Str := names0 ++ names1
def xs0 : List PySem.Str := [(PySem.Str.ofString "MarkError"), (PySem.Str.ofString "InvalidText"), (PySem.Str.ofString "InvalidBook"), (PySem.Str.ofString "_KINDS"), (PySem.Str.ofString "is_tuple_of"), (PySem.Str.ofString "is_word"), (PySem.Str.ofString "is_text"), (PySem.Str.ofString "is_pattern"), (PySem.Str.ofString "fits"), (PySem.Str.ofString "begins_with"), (PySem.Str.ofString "ends_with"), (PySem.Str.ofString "turned_round"), (PySem.Str.ofString "trace_of"), (PySem.Str.ofString "first_trace"), (PySem.Str.ofString "next_trace"), (PySem.Str.ofString "is_matched"), (PySem.Str.ofString "_check"), (PySem.Str.ofString "_is_item"), (PySem.Str.ofString "_law_start"), (PySem.Str.ofString "_law_throw"), (PySem.Str.ofString "_law_pick"), (PySem.Str.ofString "_law_drawn_word"), (PySem.Str.ofString "_law_drawn_items"), (PySem.Str.ofString "_law_drawn_pattern"), (PySem.Str.ofString "_law_fits_in"), (PySem.Str.ofString "_law_begins_in"), (PySem.Str.ofString "_law_ends_in"), (PySem.Str.ofString "_law_told"), (PySem.Str.ofString "_law_near_text"), (PySem.Str.ofString "_law_judged_right")]
def xs1 : List PySem.Str := [(PySem.Str.ofString "_law_bad_patterns"), (PySem.Str.ofString "_law_refused_right"), (PySem.Str.ofString "law")]
def xs : List PySem.Str := xs0 ++ xs1
def ms : List PySem.Str := []
abbrev hk : PySem.W.Hook := hookN xs ms fa fn tf ex
def ob (s : PySem.W.SharedT) : AlX := obsN xs ms fa fn tf ex (HandSHeadRun.getT s)
theorem ob_eq (s : PySem.W.SharedT) : ob s = hk.obs s.abs := obsN_eq (HandSHeadRun.getT_eq s)
theorem run (w : World) : HandSHeadRun.RunEq R qv hk ob 9000 names w := by
  intro os
  kernel_rfl
end K0H
-- K6Facts
set_option maxRecDepth 100000
set_option maxHeartbeats 4000000
namespace K0H
open PySem PySem.Spec PyProof.Rows L2 FM He K0
theorem all2 {α : Type} {l : List α} {f : α → Bool} (h : l.all f = true) : ∀ x ∈ l, f x = true := fun x hx => List.all_eq_true.mp h x hx
theorem kinds_of {o : Obj} (h : isKinds o = true) : ∃ its n, o.cls = .type "tuple" ∧ o.data = .seq its n ∧ its.size ≤ sizeLine ∧ Vals [.str "one", .str "any"] its.toList := by
  unfold isKinds at h
  rw [Bool.and_eq_true] at h
  obtain ⟨h1, h2⟩ := h
  split at h2
  · rename_i its n e
    rw [Bool.and_eq_true] at h2
    obtain ⟨h3, h4⟩ := h2
    have h3' := of_decide_eq_true h3
    refine ⟨its, n, of_decide_eq_true h1, e, by rw [sizeLine_eq]; omega, ?_⟩
    split at h4
    · rename_i a ta b tb el
      rw [Bool.and_eq_true] at h4
      obtain ⟨ha, hb⟩ := h4
      have ha' := of_decide_eq_true ha
      have hb' := of_decide_eq_true hb
      subst ha'
      subst hb'
      rw [el]
      exact .cons ⟨_, rfl⟩ (.cons ⟨_, rfl⟩ .nil)
    · cases h4
  · cases h2
theorem facts {w : World} {K : PySem.W.Frag} {h : Heap} {mg : Str → Option Value} (X : K.In h) (G : h.Ns mainGlobals mg) (c : SaysX fa fn [] tf ex w h K) : TT K mg := by
  have d := c.t.d
  have m := c.more
  unfold ex at m
  simp only [Bool.and_eq_true] at m
  obtain ⟨mA, mK, mV, mO, mT, mD⟩ := m
  have gl : ∀ {x : Str} (i : Nat), fa[i]? = some (.glo x) → mg x = some (.ref (ga K x)) := fun i e => glo_ok X G (d.fact i e)
  have fr : ∀ {x : Str} (i : Nat), fa[i]? = some (.free x) → mg x = none := fun i e => free_ok X G (d.fact i e)
  have v9 : ∀ x ∈ mark9, PySem.W.excIn K (ga K x) veBase "ValueError.__new__" = true ∧ PySem.W.keepIn K (.ref (ga K x)) = true ∧ PySem.W.typeIn K (.ref (ga K x)) = some (.type "type") ∧ PySem.W.subIn K (.ref (ga K x)) (.type "BaseException") = some true := fun x hx => by
    have z := all2 mV x hx
    simp only [Bool.and_eq_true, decide_eq_true_eq] at z
    exact z
  have o9 : ∀ x ∈ two, PySem.W.exmOne K (.ref (ga K x)) (.ref (ga K "MarkError")) = some true := fun x hx => of_decide_eq_true (all2 mO x hx)
  have kinds : ∀ H, SqT K H (ga K "_KINDS") [.str "one", .str "any"] := fun H => by
    unfold exT at mT
    cases eo : K.lookup (ga K "_KINDS") with
    | none =>
      rw [eo] at mT
      cases mT
    | some o =>
      rw [eo] at mT
      obtain ⟨its, n, x1, x2, x3, x4⟩ := kinds_of mT
      exact .inr ⟨o, its, n, eo, x1, x2, x3, x4⟩
  exact {
    b_isinstance := fr 0 rfl
    b_range := fr 1 rfl
    b_str := fr 2 rfl
    b_tuple := fr 3 rfl
    b_len := fr 4 rfl
    b_all := fr 5 rfl
    b_bool := fr 6 rfl
    b_repr := fr 7 rfl
    b_set := fr 8 rfl
    b_sorted := fr 9 rfl
    b_list := fr 10 rfl
    b_enumerate := fr 11 rfl
    b_int := fr 12 rfl
    b_abs := fr 13 rfl
    b_max := fr 14 rfl
    b_min := fr 15 rfl
    g_MarkError := gl 16 rfl
    g_InvalidText := gl 17 rfl
    g_InvalidBook := gl 18 rfl
    g_is_tuple_of := gl 20 rfl
    g_is_word := gl 21 rfl
    g_is_text := gl 22 rfl
    g_is_pattern := gl 23 rfl
    g_fits := gl 24 rfl
    g_begins_with := gl 25 rfl
    g_ends_with := gl 26 rfl
    g_turned_round := gl 27 rfl
    g_trace_of := gl 28 rfl
    g_first_trace := gl 29 rfl
    g_next_trace := gl 30 rfl
    g_is_matched := gl 31 rfl
    g__check := gl 32 rfl
    g__is_item := gl 33 rfl
    g__law_start := gl 34 rfl
    g__law_throw := gl 35 rfl
    g__law_pick := gl 36 rfl
    g__law_drawn_word := gl 37 rfl
    g__law_drawn_items := gl 38 rfl
    g__law_drawn_pattern := gl 39 rfl
    g__law_fits_in := gl 40 rfl
    g__law_begins_in := gl 41 rfl
    g__law_ends_in := gl 42 rfl
    g__law_told := gl 43 rfl
    g__law_near_text := gl 44 rfl
    g__law_judged_right := gl 45 rfl
    g__law_bad_patterns := gl 46 rfl
    g__law_refused_right := gl 47 rfl
    exc := fun x hx => excB_ok (all2 mA x hx)
    kit := fun x hx y hy => of_decide_eq_true (all2 (all2 mK x hx) y hy)
    exI := fun x hx => ⟨(v9 x hx).1, (v9 x hx).2.1⟩
    tyE := fun x hx => (v9 x hx).2.2.1
    subE := fun x hx => (v9 x hx).2.2.2
    exmE := o9
    c__ALPHABET := by
      obtain ⟨t, e⟩ := str_ok X G (d.fact 49 (f := .str "_ALPHABET" "abcdefghijklmnopqrstuvwxyz") rfl)
      exact ⟨_, e, ⟨t, rfl⟩⟩
    c__MOST_ITEMS := by
      obtain ⟨t, e⟩ := int_ok X G (d.fact 50 (f := .int "_MOST_ITEMS" 3) rfl)
      exact ⟨_, e, ⟨t, rfl⟩⟩
    g__KINDS := gl 19 rfl
    c__KINDS := kinds
    c_MAX_TEXT := by
      obtain ⟨t, e⟩ := int_ok X G (d.fact 51 (f := .int "MAX_TEXT" 60) rfl)
      exact ⟨_, e, ⟨t, rfl⟩⟩
    f_is_tuple_of := d.def_ 0 (d := d_is_tuple_of) rfl
    f_is_word := d.def_ 1 (d := d_is_word) rfl
    f_is_text := d.def_ 2 (d := d_is_text) rfl
    f_is_pattern := d.def_ 3 (d := d_is_pattern) rfl
    f_fits := d.def_ 4 (d := d_fits) rfl
    f_begins_with := d.def_ 5 (d := d_begins_with) rfl
    f_ends_with := d.def_ 6 (d := d_ends_with) rfl
    f_turned_round := d.def_ 7 (d := d_turned_round) rfl
    f_trace_of := d.def_ 8 (d := d_trace_of) rfl
    f_first_trace := d.def_ 9 (d := d_first_trace) rfl
    f_next_trace := d.def_ 10 (d := d_next_trace) rfl
    f_is_matched := d.def_ 11 (d := d_is_matched) rfl
    f__check := d.def_ 12 (d := d__check) rfl
    f__is_item := d.def_ 13 (d := d__is_item) rfl
    f__law_start := d.def_ 14 (d := d__law_start) rfl
    f__law_throw := d.def_ 15 (d := d__law_throw) rfl
    f__law_pick := d.def_ 16 (d := d__law_pick) rfl
    f__law_drawn_word := d.def_ 17 (d := d__law_drawn_word) rfl
    f__law_drawn_items := d.def_ 18 (d := d__law_drawn_items) rfl
    f__law_drawn_pattern := d.def_ 19 (d := d__law_drawn_pattern) rfl
    f__law_fits_in := d.def_ 20 (d := d__law_fits_in) rfl
    f__law_begins_in := d.def_ 21 (d := d__law_begins_in) rfl
    f__law_ends_in := d.def_ 22 (d := d__law_ends_in) rfl
    f__law_told := d.def_ 23 (d := d__law_told) rfl
    f__law_near_text := d.def_ 24 (d := d__law_near_text) rfl
    f__law_judged_right := d.def_ 25 (d := d__law_judged_right) rfl
    f__law_bad_patterns := d.def_ 26 (d := d__law_bad_patterns) rfl
    f__law_refused_right := d.def_ 27 (d := d__law_refused_right) rfl
  }
/-- a def with a code table: what is known of it -/
theorem tab_of {w : World} {K : PySem.W.Frag} {h : Heap} {x : Str} {a : Addr} {fd : FuncData} {st : Stmt} (X : K.In h) (c : SaysX fa fn [] tf ex w h K) (F : FnP K x st a fd) (ea : a = ga K x) (mem : (x, (none : Option Str)) ∈ tf) :
    fd.code = .ref (cT K (x, none)).1 ∧ h.get? (cT K (x, none)).2 = some { cls := .none, data := .fields #[] } ∧ K.lookup (cT K (x, none)).2 = none ∧ PySem.W.CodeHd h (cT K (x, none)).1 (cT K (x, none)).2 := by
  obtain ⟨oc, od, dV, kV, doc, pm, an, cdv, ct, osl, efd, lk, hcd, _, _⟩ := id F.ex
  obtain ⟨cc, ec⟩ := codeIn_ref hcd
  have hco : fd.code = .ref cc := by
    rw [efd]
    exact ec
  subst ea
  have e1 : codeOf K (x, none) = cc := codeOf_eq lk hco
  refine ⟨?_, c.empty _ mem, c.out _ mem, PySem.W.codeHd_of_K X (c.hd _ mem)⟩
  unfold cT
  rw [e1]
  exact hco
def pT (K : PySem.W.Frag) (x : Str) : Addr × Addr := cT K (x, none)
def cts (K : PySem.W.Frag) : List (Addr × Addr) := [pT K "_law_refused_right"]
def tss (K : PySem.W.Frag) : List (Addr × Str) := [((pT K "_law_refused_right").2, qLam "_law_refused_right" (defScope s__law_refused_right))]
theorem gives {w : World} {K : PySem.W.Frag} {h : Heap} {mg : Str → Option Value} {f : Addr} (P : Program) (X : K.In h) (G : h.Ns mainGlobals mg) (hf : mg ("law" : Str) = some (.ref f)) (c : SaysX fa fn [] tf ex w h K) :
    ∃ (fd : FuncData), (∀ p ∈ cts K, h.get? p.2 = some { cls := .none, data := .fields #[] }) ∧ (∀ p ∈ cts K, K.lookup p.2 = none) ∧ (∀ p ∈ cts K, PySem.W.CodeHd h p.1 p.2) ∧ (∀ (s : Shared) (u : Value), BindsTo s fd ⟨[u], []⟩ [("_law_script", u)]) ∧
      ∀ base : Heap, K.In base → base.Ns mainGlobals mg → (∀ p ∈ cts K, LamX.TabB base mg p.1 p.2) → (∃ o, base.get? sysModules = some o) → FnG P w K mg base 34 f fd ["_law_script"] (spLaw K (tss K)) := by
  have d := c.t.d
  have T := facts X G c
  obtain ⟨fd, F⟩ : ∃ fd, FnP K "law" s_law (ga K "law") fd := d.def_ 28 (d := d_law) rfl
  obtain ⟨fdR, FR⟩ := T.f__law_refused_right
  have e := hf.symm.trans (glo_ok X G (d.fact 48 (f := .glo "law") rfl))
  cases e
  have t0 := tab_of X c FR rfl (List.mem_cons_self : (("_law_refused_right" : Str), (none : Option Str)) ∈ tf)
  have one : ∀ {φ : Addr × Addr → Prop}, φ (pT K "_law_refused_right") → ∀ p ∈ cts K, φ p := fun {φ} y p hp => by
    rw [List.mem_singleton.mp hp]
    exact y
  refine ⟨fd, one t0.2.1, one t0.2.2.1, one t0.2.2.2, fun s u => FunD.bindsA (ps := ["_law_script"]) F (fun _ _ _ _ _ _ us hl => match us, hl with | [_], _ => rfl) s [u] rfl, ?_⟩
  intro base _ _ tab sm
  exact ok_law F T sm FR t0.1 (tab _ List.mem_cons_self) rfl
end K0H
-- K6End
open PySem PySem.W PySem.Calls PyProof.Rows
set_option maxRecDepth 100000 in
set_option maxHeartbeats 0 in
theorem PySem.Challenge.cw_fewmarks_k60_patterns_holds : PySem.Challenge.rw_fewmarks_k60_patterns.Holds := by
  w_on; o_law
  refine HandSHeadRun.head_any (r := OpenLaw.row PySem.Challenge.rw_fewmarks_k60_patterns) (q := K0H.qv) (H := K0H.hk) (ob := K0H.ob) (M := 9000) (loose := K0H.names) (d := HandSHeadRun.topDef (OpenLaw.row PySem.Challenge.rw_fewmarks_k60_patterns).prog 40) (kwd := []) K0H.ob_eq
    (by kernel_rfl) (fun s => by kernel_rfl) K0H.run (by kernel_rfl) (by kernel_rfl) (by kernel_rfl) (by rfl)
    (by first | assumption | decide +kernel) (by decide +kernel) ⟨rfl, rfl, rfl, rfl, rfl, by decide +kernel⟩ ?hw ?hc
  case hw => w_witness2
  case hc =>
    refine FM.walk_N (l := PySem.Challenge.rw_fewmarks_k60_patterns) (n := 63) (k := 34) (x := "_law_script") rfl (by decide) (by kernel_rfl) ⟨rfl, by decide, by decide⟩ (by decide +kernel) ?F
    intro w mg fa h Y G hmg0
    obtain ⟨K, KX, c⟩ := Y
    have hmg : mg ("law" : PySem.Str) = some (.ref fa) := by
      have e : (HandSHeadRun.topDef (OpenLaw.row PySem.Challenge.rw_fewmarks_k60_patterns).prog 40).name = ("law" : PySem.Str) := by kernel_rfl
      rw [← e]
      exact hmg0
    obtain ⟨fd, h1, h2, h3, h4, h5⟩ := K0H.gives (PySem.Challenge.rw_fewmarks_k60_patterns).prog KX G hmg c
    refine ⟨K, K0H.cts K, fd, K0.spLaw K (K0H.tss K), KX, h1, h2, h3, h4, fun H a ns hl hT hS => ⟨a, ns, rfl, hS, fun p hp => ?_, fun _ => rfl⟩, h5⟩
    rw [List.mem_singleton.mp hp]
    exact hT _ List.mem_cons_self
