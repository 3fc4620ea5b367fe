import PyProof.Rows.All
import Wide.All
import OpenK.AllK
import Wide.FinOn
import HandS.ForMost
import HandS.Exc
import HandS.ExcOwn
import HandS.ExcInit
import HandS.ExcValue
import HandS.Defaults
import HandS.IsInst
import KE.KExcInit
import HandS.Wide
import HandS.Codes
import HandS.ExcField
import HandS.ExcIs
import KE.KExcIs
import HandS.HeadHook1
import HandS.HeadHook2
import HandS.WordsExc
import HandS.HotCalls
import HandS.Lambda
import HandS.Zip
import KE.GoesNew
import HandS.StrMore
import HandS.Dict
import KE.KDictDisplayH
import PyProof.ReprRoads
import PyProof.ReprLen
import HandS.TupMul
import HandS.HeadWalk
import HandS.EndTab
import HandS.LawCells
import HandS.Head0
import HandS.Head1
import HandS.Head2
import HandS.HeadHook4
import PyProof.ExcBaseAll.IndexError
import PyProof.ExcBaseAll.OverflowError
import PyProof.ExcBaseAll.ArithmeticError
import PyProof.ExcBaseAll.RuntimeError
import PyProof.ExcBaseAll.LookupError
import HandS.HeadEnd
import PySem.Challenge.RW_fewmarks_k00_errors
set_option Elab.async false
set_option linter.all false
-- FmExc
set_option maxRecDepth 100000
set_option maxHeartbeats 4000000
/-! KeyError, which the library leaves out, and own exceptions over any built-in base, as values. -/
namespace PySem
namespace F
theorem fm_pass_KeyError (self : Value) : refuseLoop self "__setattr__"
    [.type "KeyError", .type "LookupError", .type "Exception", .type "BaseException", .type "object"] = pure () := by kernel_rfl
end F
namespace FX
open Builtin Builtin.ObjectAttr PySem.Calls PyProof.Rows HandSPX
section
variable {M : Model} {prog : Program} {w : World} {A : Around} {E : Value → Shared → Prop} {R : Result → Shared → Prop}
  {h : Heap} {gn : Array GenState} {dr : Drawn} {tk : Nat} {os : OsState}
variable {nm qn : Str} {C N : Addr} {bs bm bB : List Value} {hd : Bool} {sn : List Str} {sb : List Value} {ab : Bool}
  {col : Option Bool} {dd : Option Addr} {k0 k1 k2 k3 k5 : Option Value} {B nI iI : String}
/-- what is asked of the class's chain: the maker's class is in it, AttributeError and NameError are not -/
structure Chain (B : String) (bm : List Value) : Prop where
  hasB : bm.contains (.type B) = true
  noA : bm.contains (.type "AttributeError") = false
  noN : bm.contains (.type "NameError") = false
theorem Chain.cB (c : Chain B bm) : (Value.ref C :: bm).contains (.type B) = true := by
  rw [List.contains_cons, c.hasB, Bool.or_true]
theorem Chain.cA (c : Chain B bm) : (Value.ref C :: bm).contains (.type "AttributeError") = false := by
  rw [List.contains_cons, c.noA]; rfl
theorem Chain.cN (c : Chain B bm) : (Value.ref C :: bm).contains (.type "NameError") = false := by
  rw [List.contains_cons, c.noN]; rfl
theorem chk_new (F : ExcBaseFacts B nI iI bB) (c : Chain B bm) {us : List Value} {Q : Unit → Shared → Prop}
    (hC : h.get? C = some (excClassObj nm qn C N bs bm hd sn sb ab col dd k0 k1 k2 k3 k5 nI))
    (hq : Q () ⟨h, gn, dr, tk, os⟩) : wpAny M A (checkBuiltinCall nI ⟨.ref C :: us, []⟩) Q E ⟨h, gn, dr, tk, os⟩ := by
  have z1 : (Value.ref C :: bm).contains (.type B) = true := c.cB
  have z2 := F.noStar
  simp only [checkBuiltinCall, F.newSplit, F.newRow, F.newKind]
  repeat (first
    | refine wpAny_loadPart_at hC ?_
    | (refine wpAny_isSubtype_exc hC ?_; rw [z1])
    | refine wpAny_staticBase_exc hC ?_
    | refine wpAny_madeBy_exc hC ?_
    | simp only [bne_self_eq_false, if_false, Bool.false_eq_true]
    | wp_step)
  exact hq
theorem run_new (F : ExcBaseFacts B nI iI bB) (c : Chain B bm) {us : List Value}
    (hC : h.get? C = some (excClassObj nm qn C N bs bm hd sn sb ab col dd k0 k1 k2 k3 k5 nI)) (hz : us.length ≤ sizeLine)
    (hq : R (.ok (.ret (.ref (h.objs.size + 1)))) ⟨(h.push (W.kdv_tup us)).push (excO C h.objs.size), gn, dr, tk, os⟩) :
    codeAny (model prog w) A (.builtin nI ⟨.ref C :: us, []⟩) R ⟨h, gn, dr, tk, os⟩ := by
  have z0 := F.ends
  have z1 : (Value.ref C :: bm).contains (.type B) = true := c.cB
  have z2 : (Value.ref C :: bm).contains (.type "AttributeError") = false := c.cA
  have z3 : (Value.ref C :: bm).contains (.type "NameError") = false := c.cN
  refine codeAny_builtinAt F.entry ?_
  (unfold Builtin.«BaseException.__new__»; refine wpAt_bind ?_)
  (show wpAt _ _ _ (stack >>= _) _ _ _; refine wpAt_bind (wpAt_stack fun p below => wpAt_of_wpAny ?_))
  (wp_walk; refine wpAt_of_wpAny ?_; rw [F.owner])
  repeat (first
    | with_reducible refine wpAny_madeHere_exc F.canon hC ?_
    | with_reducible refine wpAny_loadPart_at hC ?_
    | (with_reducible refine wpAny_isSubtype_exc hC ?_; first | rw [z1] | rw [z2] | rw [z3])
    | wp_step)
  (show R _ _; rw [Heap.size_push]; exact hq)
theorem run_tcall (F : ExcBaseFacts B nI iI bB) (c : Chain B bm) {us : List Value} {fI : Addr} {Q : Fin → Shared → Prop}
    (hC : h.get? C = some (excClassObj nm qn C N bs bm hd sn sb ab col dd k0 k1 k2 k3 k5 nI)) (hz : us.length ≤ sizeLine)
    (hi : W.Looks (model prog w) h (typeLookup (.ref C) "__init__") (some (.ref fI)))
    (hb : ∀ self, W.Looks (model prog w) h (bindSpecial (.ref fI) self) (.ref fI, [self]))
    (hq : codeAny (model prog w) A (.call (.ref fI) ⟨.ref (h.objs.size + 1) :: us, []⟩)
      (fun r s' => match r with
        | .ok (.ret v) => v = .none ∧ Q (.done (.ret (.ref (h.objs.size + 1)))) s'
        | .ok _ => False
        | .error e => E e s') ⟨(h.push (W.kdv_tup us)).push (excO C h.objs.size), gn, dr, tk, os⟩) :
    wpAny (model prog w) A (Builtin.«type.__call__» ⟨.ref C :: us, []⟩) Q E ⟨h, gn, dr, tk, os⟩ := by
  repeat (first
    | with_reducible refine wpAny_loadPart_at hC ?_
    | with_reducible refine wpAny_madeBy_exc hC ?_
    | wp_step)
  refine codeAny_call_builtin_code (Code.quiet_builtin _ F.quiet) (chk_new F c hC (run_new F c hC hz ?_))
  show wpAny _ _ _ _ _ _
  have kp : ∀ b o, h.get? b = some o → ((h.push (W.kdv_tup us)).push (excO C h.objs.size)).get? b = some o :=
    fun b o e => Heap.get?_push_of_some _ (Heap.get?_push_of_some _ e)
  have hC1 := kp _ _ hC
  have hx : ((h.push (W.kdv_tup us)).push (excO C h.objs.size)).get? (h.objs.size + 1) = some (excO C h.objs.size) := by
    heap_get
  have hcc : (Value.ref C :: bm).contains (.ref C) = true := by simp
  have i1 := hi.keeps kp
  have b1 := (hb (.ref (h.objs.size + 1))).keeps kp
  unfold isInstance
  repeat (first
    | with_reducible refine wpAny_loadPart_at hx ?_
    | (with_reducible refine wpAny_isSubtype_exc hC1 ?_; rw [hcc])
    | wp_step)
  (show wpAny _ _ (typeLookup (.ref C) _) _ _ _; refine i1.at (wpAny_holding (wpAny_bind (b1.at ?_))))
  refine wpAny_bind (wpAny_call (codeAny_mono hq fun r s' y => ?_))
  cases r with
  | error e => exact y
  | ok fl =>
    cases fl with
    | ret v =>
      obtain ⟨rfl, y⟩ := y
      first | exact wpAny_pure (wpAny_pure y) | (wp_walk; exact y)
    | next => exact y.elim
    | brk => exact y.elim
    | cont => exact y.elim
theorem run_call (F : ExcBaseFacts B nI iI bB) (c : Chain B bm) {us : List Value} {fI : Addr}
    (hC : h.get? C = some (excClassObj nm qn C N bs bm hd sn sb ab col dd k0 k1 k2 k3 k5 nI)) (hz : us.length ≤ sizeLine)
    (hi : W.Looks (model prog w) h (typeLookup (.ref C) "__init__") (some (.ref fI)))
    (hb : ∀ self, W.Looks (model prog w) h (bindSpecial (.ref fI) self) (.ref fI, [self]))
    (hq : codeAny (model prog w) (A.under (.builtin "type.__call__" ⟨.ref C :: us, []⟩)) (.call (.ref fI) ⟨.ref (h.objs.size + 1) :: us, []⟩)
      (W.InitBack (h.objs.size + 1) R) ⟨(h.push (W.kdv_tup us)).push (excO C h.objs.size), gn, dr, tk, os⟩) :
    codeAny (model prog w) A (.call (.ref C) ⟨us, []⟩) R ⟨h, gn, dr, tk, os⟩ := by
  have f1 := tc_lookup
  have f2 := tc_bind (.ref C)
  have ty : (⟨h, gn, dr, tk, os⟩ : Shared).TypeIs (.ref C) "type" := ⟨_, hC, rfl⟩
  refine codeAny_of_tree ?_
  show wpAny _ _ (callAny (.ref C) _) _ _ _
  repeat (any_goals (first | assumption | with_reducible refine wpAny_loadPart_at hC ?_ | wp_step))
  refine ⟨rfl, codeAny_call_builtin_at (Code.quiet_builtin _ (by decide +kernel)) entry_typeCall
    (wpAny_check_type_call_sub hC (run_tcall F c hC hz hi hb (codeAny_mono hq fun r s' y => ?_)))⟩
  rcases r with e | (v | _ | _ | _)
  all_goals exact y
/-- self.f = v on a fresh exception, whatever its base is -/
theorem osaG {K : W.Frag} {f : Str} {t1 : Tok} {v : Value} {x : Addr} {fv : Array Value} {cd : ClassData} (X : K.In h)
    (hx : h.get? x = some { cls := .ref C, data := .fields fv }) (hcd : W.clsIn K C = some cd) (ne : cd.mro.isEmpty = false)
    (ho : cd.mro.contains (.type "object") = true) (hp : refuseLoop (.ref x) "__setattr__" cd.mro = pure ()) (hh : cd.hasDict = true)
    (ha : W.findIn K (.ref C) f = some none)
    (hq : ∀ h' t' dx, (∀ b o, b ≠ x → h.get? b = some o → h'.get? b = some o) → h.objs.size ≤ dx → dx ≠ x →
      h'.get? x = some { cls := .ref C, dict := some dx, data := .fields fv } →
      h'.Ns1 dx (fun y => if y = f then some v else none) → R (.ok (.ret .none)) ⟨h', gn, dr, t', os⟩) :
    codeAny (model prog w) A (.call (.builtin "object.__setattr__") ⟨[.ref x, .str f t1, v], []⟩) R ⟨h, gn, dr, tk, os⟩ := by
  have I : W.InstAt h x { cls := .ref C, data := .fields fv } C none := ⟨hx, rfl, rfl, trivial⟩
  have hxs : x ≠ h.objs.size := Nat.ne_of_lt (Heap.lt_size hx)
  have sub : W.Looks (model prog w) h (isInstance (.ref x) (.type "object")) true :=
    I.type.andThen (W.looks_mroIn X (by unfold W.mroIn; rw [hcd, Option.bind_some, if_neg (by rw [ne]; decide), ho]))
  refine codeAny_call_builtin F.store_object.slot.plain F.store_object.entry
    (@W.check_slot (model prog w) _ _ ⟨h, gn, dr, tk, os⟩ "object.__setattr__" "object" "__setattr__" (.ref x) [.str f t1, v] [] _
      F.store_object.kind F.store_object.split sub (F.store_object.args (.ref x) (.str f t1) v) ?_)
  have m1 : W.Looks (model prog w) h (mroOf (.ref C)) cd.mro := (W.looks_clsIn X hcd).andThen .now
  have m2 : W.Looks (model prog w) h (storeTaker? none) none := .now
  have m3 : W.Looks (model prog w) h (classData C) cd := W.looks_clsIn X hcd
  (rw [W.osa_eq, refuse_eq]; refine wpAny_bind (wpAny_bind (I.type.at (wpAny_bind (m1.at ?_)))); rw [hp])
  refine wpAny_pure (wpAny_bind (I.type.at (wpAny_bind ((W.looks_findIn X ha).at (wpAny_bind (m2.at ?_))))))
  show wpAny _ _ (storeInOwnDict (.ref x) (.ref C) (.str f t1) f v false) _ _ _
  obtain ⟨nm', bs', mro', ns', qn', hd', sn', sb', ab', col', dl'⟩ := cd
  (dsimp only at hh; subst hh; unfold storeInOwnDict ownDictForStores)
  repeat (first
    | with_reducible refine store_in_new ?_ ?_
    | with_reducible refine wpAny_loadPart_at hx ?_
    | with_reducible refine m3.at ?_
    | wp_step)
  · exact ⟨_, #[], _, (Heap.get?_update_ne _ _ _ _ hxs.symm).trans (Heap.get?_push_at rfl rfl), rfl,
      fun e he => absurd he (by simp), fun _ => rfl⟩
  · intro h' t' hn sm
    have hx1 : (h.push { cls := .type "dict", data := .dict #[] }).get? x = some { cls := .ref C, data := .fields fv } :=
      Heap.get?_push_of_some _ hx
    refine hq h' t' h.objs.size (fun b o hb e => ?_) (Nat.le_refl _) hxs.symm ?_ hn
    · exact (sm.2 b (Nat.ne_of_lt (Heap.lt_size e))).trans
        ((Heap.get?_update_ne _ _ _ _ hb).trans (Heap.get?_push_of_some _ e))
    · exact (sm.2 x hxs).trans (Heap.get?_update_self _ hx1 rfl)
end
end FX
end PySem
-- FmBase
set_option maxRecDepth 100000
set_option maxHeartbeats 4000000
namespace FM
open PySem PySem.Spec PyProof.Rows L2
section
variable {X : Cx}
/-- int(n), int(b) -/
def rIntIB : List V → Hp → VK → Prop := fun xs H Q => (∃ i, xs = [.int i] ∧ Q (.int i) H) ∨ (∃ b : Bool, xs = [.bl b] ∧ Q (.int (if b then 1 else 0)) H)
theorem call_intIB : CallR X (.type "int") rIntIB := by
  intro pins s σ H xs us Q I r h
  rcases h with ⟨i, rfl, q⟩ | ⟨b, rfl, q⟩
  · obtain ⟨u1, rfl, r1⟩ := vals1 r
    obtain ⟨t, rfl⟩ := r1
    exact call_int_int ⟨.int i, H, I, ⟨t, rfl⟩, q⟩
  · obtain ⟨u1, rfl, r1⟩ := vals1 r
    cases r1
    exact call_int_bool ⟨.int (if b then 1 else 0), H, I.tok _, ⟨_, rfl⟩, q⟩
/-- a ** b, told by bits -/
def CPowW (i j : Int) : Prop := 0 ≤ j ∧ (Builtin.Int.intBits i : Int) * j ≤ 2 ^ 27
theorem op_powW : OpR X (binaryOp .Pow) (rI CPowW fun i j => .int (i ^ j.toNat)) := opI fun _ _ _ _ _ _ _ hc q => pow_int hc.1 hc.2 q
end
end FM
-- FmExc2
set_option maxRecDepth 100000
set_option maxHeartbeats 4000000
namespace FM
open PySem PySem.Spec PyProof.Rows L2
/-- what the written part says of an own exception class whose __init__ stores fields -/
structure OxC (K : PySem.W.Frag) (C : Addr) : Prop where
  cls : ∃ (B nI iI : String) (bB bm : List Value), ExcBaseFacts B nI iI bB ∧ PySem.FX.Chain B bm ∧
    bm.contains (.type "object") = true ∧ (∀ self, refuseLoop self "__setattr__" (.ref C :: bm) = pure ()) ∧
    ∃ nm q N bs sn sb ab col dd k0 k1 k2 k3 k5, K.lookup C = some (excClassObj nm q C N bs bm true sn sb ab col dd k0 k1 k2 k3 k5 nI)
  sa : PySem.W.findIn K (.ref C) "__setattr__" = some (some (.builtin "object.__setattr__"))
  ga : PySem.W.findIn K (.ref C) "__getattribute__" = some (some (.builtin "BaseException.__getattribute__"))
  gg : PySem.W.findIn K (.ref C) "__getattr__" = some none
  exC : PySem.W.subIn K (.ref C) (.type "BaseException") = some true
  tyC : PySem.W.typeIn K (.ref C) = some (.type "type")
  kC : PySem.W.keepIn K (.ref C) = true
  hdC : PySem.W.hasDictIn K C = true
section
variable {X : Cx} {pins : List (Addr × Obj)} {σ : L2.St} {H : Hp} {s : Shared} {a C dx : Addr} {f : Str} {y : V} {u : Value} {fs : List (Str × V)}
  {Q : Unit → Shared → Prop} {E : Value → Shared → Prop} {A : Around}
/-- the first field of a fresh exception is stored -/
theorem st_new (T : OxC X.K C) (I : Inv X pins σ H s) (e : H a = some (exo a C none))
    (hno : PySem.W.findIn X.K (.ref C) f = some none) (ry : RelV y u)
    (h : ∀ dx s', H dx = none → dx ≠ a → Inv X pins σ (upd (upd H dx (exd dx [(f, y)])) a (exo a C (some dx))) s' → Q () s') :
    wpAny (model X.prog X.w) A (setAttr (.ref a) f u) Q E s := by
  obtain ⟨B, nI, iI, bB, bm, F, ch, ho, hp, nm, q, N, bs, sn, sb, ab, col, dd, k0, k1, k2, k3, k5, hC⟩ := T.cls
  have hcl : ∃ cd, PySem.W.clsIn X.K C = some cd ∧ cd.mro = .ref C :: bm ∧ cd.hasDict = true := by
    refine ⟨_, by unfold PySem.W.clsIn; rw [hC], rfl, rfl⟩
  obtain ⟨cd, hcd, hm, hh⟩ := hcl
  obtain ⟨t1, hx0⟩ := exo_at I.hok e
  obtain ⟨hh0, g, d, t, os⟩ := s
  refine PySem.W.set_plain I.kIn (od := none) ⟨hx0, rfl, rfl, trivial⟩ T.sa ?_
  refine PySem.FX.osaG I.kIn hx0 hcd (by rw [hm]; rfl) (by rw [hm, List.contains_cons, ho, Bool.or_true]) (by rw [hm]; exact hp _) hh hno
    (fun h' t' dx kp dn dne hx hn => ?_)
  have nD : H dx = none := I.hok.fresh dn
  have lt : ∀ {b : Addr} {o : Obj}, hh0.get? b = some o → b ≠ dx := fun q =>
    Nat.ne_of_lt (Nat.lt_of_lt_of_le (Heap.lt_size q) dn)
  have nA : ∀ {b : Addr}, H b = none → b ≠ a := fun {b} n z => by
    rw [z, e] at n
    cases n
  have U : Un X.fs [] H (upd (upd H dx (exd dx [(f, y)])) a (exo a C (some dx))) hh0 h' :=
    { keep := fun b o q n _ _ => kp b o (nA n) q
      slot := fun b o q n _ _ => ⟨_, kp b o (nA n) q⟩
      free := fun b o q n _ => by
        rw [upd_ne (nA n), upd_ne (lt q)]
        exact n
      there := fun b o q _ => by
        by_cases hb : b = a
        · subst hb
          exact ⟨_, hx⟩
        · exact ⟨_, kp b o hb q⟩
      tups := fun b xs q => by
        rw [upd_ne (at_ne e q exo_tup), upd_ne (ne_of_none q nD)]
        exact q
      frzs := fun b o v q => by
        rw [upd_ne (at_ne e q exo_frz), upd_ne (ne_of_none q nD)]
        exact q
      tbls := fun b ps q => ⟨#[], by
        rw [upd_ne (at_ne e q exo_tbl), upd_ne (ne_of_none q nD), q]
        simp⟩ }
  refine h dx _ nD dne (I.un (t' := t') U fun b o q => ?_)
  by_cases hb : b = a
  · subst hb
    cases upd_same.symm.trans q
    exact exo_ok hx
  rw [upd_ne hb] at q
  by_cases hd : b = dx
  · subst hd
    cases upd_same.symm.trans q
    exact exd_ok hn (relO_put (fs := []) ry fun g => True.intro)
  rw [upd_ne hd] at q
  refine (I.hok b o q).stay (fun c v hc z => kp c v ?_ z) (fun c hc => ?_) (fun c xs hc => ?_)
  · rcases hc with hc | hc
    · exact fun w => hb (hc ▸ w)
    · exact at_ne e hc exo_own
  · rw [upd_ne (at_ne e hc exo_own), upd_ne (ne_of_none hc nD)]
    exact hc
  · rw [upd_ne (at_ne e hc exo_tup), upd_ne (ne_of_none hc nD)]
    exact hc
end
/-- self.f = e in such an __init__ -/
def tOsx (K : PySem.W.Frag) (f : Str) (to te : TE) : TS := fun D σ H => te σ H fun y H1 => to σ H1 fun x H2 => ∃ a C : Addr,
  x = .ref a ∧ OxC K C ∧ PySem.W.findIn K (.ref C) f = some none ∧ H2 a = some (exo a C none) ∧
  ∀ dx, H2 dx = none → dx ≠ a → D.nx σ (upd (upd H2 dx (exd dx [(f, y)])) a (exo a C (some dx)))
section
variable {X : Cx} {o e : Expr} {es : List Expr} {to te : TE} {ta : TA} {f : Str} {p p' p1 p2 pos : Pos}
theorem ps_osx (ho : PE X o to) (he : PE X e te) (hs : swapsWith e (some (.Attribute o f p')) pos.line X.env = pure false := by rfl) :
    PS X (.Assign [.Attribute o f p'] e pos) (tOsx X.K f to te) := by
  refine ⟨fun pins s σ H D I h => plainObj_wpAny_Assign_Attribute (thn (he.run pins s σ H _ I h) ?_) hs⟩
  rintro v s1 ⟨y, H1, I1, r1, q1⟩
  refine thn (ho.run pins s1 σ H1 _ I1 q1) ?_
  rintro u s2 ⟨x, H2, I2, r2, a, C, rfl, T, hno, ea, q⟩
  cases r2
  exact st_new T I2 ea hno r1 fun dx s' n ne J => ⟨σ, _, J, q dx n ne⟩
/-- an __init__(self, f) that stores its argument -/
def spInit1 (C : Addr) (f : Str) : Sp := fun vs H Q _ => ∃ (a : Addr) (v : V), vs = [.ref a, v] ∧ H a = some (exo a C none) ∧
  ∀ d, H d = none → d ≠ a → Q .non (upd (upd H d (exd d [(f, v)])) a (exo a C (some d)))
/-- C(e) held as a value -/
def tOxv (C : Addr) (f : Str) (te : TE) : TE := fun σ H Q => te σ H fun v H1 => ∀ a d, H1 a = none → H1 d = none → d ≠ a →
  Q (.ref a) (upd (upd H1 d (exd d [(f, v)])) a (exo a C (some d)))
theorem pe_oxv {x : Str} {C fI : Addr} {k : Nat} {fd : FuncData} {ps : List Str} (T : OxC X.K C)
    (iC : PySem.W.findIn X.K (.ref C) "__init__" = some (some (.ref fI))) (tI : PySem.W.typeIn X.K (.ref fI) = some (.type "function"))
    (F1 : FnOk X.prog X.w X.K X.mg X.base CX0 k fI fd ps (spInit1 C f)) (hr : Room (k + 1) X.A) (hb : Binds X.K fd ps [])
    (hg : Gl X x) (hm : X.mg x = some (.ref C)) (he : PE X e te) (hdb : (x == ("__debug__" : Str)) = false := by decide)
    (hs : starEach [e] X.env = (false, eval e X.env) :: starEach [] X.env := by rfl) :
    PE X (.Call (.Name x p) [e] [] pos) (tOxv C f te) := by
  refine ⟨fun pins s σ H Q I h => ?_⟩
  obtain ⟨B, nI, iI, bB, bm, F, ch, ho, hp, nm, q, N, bs, sn, sb, ab, col, dd, k0, k1, k2, k3, k5, hC⟩ := T.cls
  refine wpAny_Call_Name_kw (ld_glob I hg hm ?_ hdb)
  refine PySem.W.callWith_K (h₀ := X.base) I.ok.mod.kin T.kC ?_ hs (by rfl)
  rw [hs]
  show wpAny _ _ (spliced ((false, eval e X.env) :: backTo pos (starEach [] X.env))) _ _ s
  refine Calls.spliced_cons (thn (he.run pins s σ H _ I h) ?_)
  rintro u s1 ⟨v, H1, I1, r1, q1⟩
  refine Calls.spliced_nil ⟨I1.kIn, ?_⟩
  show wpAny _ _ (call (.ref C) [u]) _ _ _
  obtain ⟨hp1, g, dr, tk, os⟩ := s1
  have lt1 : hp1.objs.size ≤ hp1.objs.size + 1 := Nat.le_succ _
  have n1 : H1 (hp1.objs.size + 1) = none := I1.hok.fresh lt1
  have kp : ∀ b o, hp1.get? b = some o →
      ((hp1.push (PySem.W.kdv_tup [u])).push (PySem.HandSPX.excO C hp1.objs.size)).get? b = some o :=
    fun b o z => Heap.get?_push_of_some _ (Heap.get?_push_of_some _ z)
  have hx : ((hp1.push (PySem.W.kdv_tup [u])).push (PySem.HandSPX.excO C hp1.objs.size)).get? (hp1.objs.size + 1)
      = some (PySem.HandSPX.excO C hp1.objs.size) := by heap_get
  have I2 : Inv X pins σ (upd H1 (hp1.objs.size + 1) (exo (hp1.objs.size + 1) C none))
      ⟨(hp1.push (PySem.W.kdv_tup [u])).push (PySem.HandSPX.excO C hp1.objs.size), g, dr, tk, os⟩ :=
    I1.laid (t' := tk) kp lt1 (exo_ok hx)
  have r2 : Vals [V.ref (hp1.objs.size + 1), v] [Value.ref (hp1.objs.size + 1), u] := .cons rfl (.cons r1 .nil)
  have hq : spInit1 C f [V.ref (hp1.objs.size + 1), v] (upd H1 (hp1.objs.size + 1) (exo (hp1.objs.size + 1) C none))
      (fun w' H' => w' = .non ∧ Q (.ref (hp1.objs.size + 1)) H') (fun _ _ _ => False) := by
    refine ⟨_, v, rfl, upd_same, fun d nd ne => ⟨rfl, ?_⟩⟩
    rw [upd_ne ne] at nd
    have z := q1 (hp1.objs.size + 1) d n1 nd ne
    have e1 : upd (upd (upd H1 (hp1.objs.size + 1) (exo (hp1.objs.size + 1) C none)) d (exd d [(f, v)])) (hp1.objs.size + 1)
        (exo (hp1.objs.size + 1) C (some d)) = upd (upd H1 d (exd d [(f, v)])) (hp1.objs.size + 1) (exo (hp1.objs.size + 1) C (some d)) := by
      funext b
      by_cases hb : b = hp1.objs.size + 1
      · rw [hb, upd_same, upd_same]
      · rw [upd_ne hb, upd_ne hb]
        by_cases hd : b = d
        · rw [hd, upd_same, upd_same]
        · rw [upd_ne hd, upd_ne hd, upd_ne hb]
    rw [e1]
    exact z
  have hl : ([Value.ref (hp1.objs.size + 1), u] : List Value).length = ps.length := by
    have z := F1.len _ _ _ _ hq
    exact z
  refine wpAny_call (PySem.FX.run_call F ch (I1.kIn _ _ hC) (by show 1 ≤ sizeLine; decide) (PySem.W.looks_findIn I1.kIn iC)
    (fun self => PySem.W.bind_fn I1.kIn self tI) (codeAny_mono (F1.run _ X.stack _ _ ⟨[Value.ref (hp1.objs.size + 1), u], []⟩
      [Value.ref (hp1.objs.size + 1), u] _ _ (fun _ _ _ => False) (hr.make C [u] []) (I2.env0.make C [u] [])
      (by simpa using hb _ [Value.ref (hp1.objs.size + 1), u] I2.kIn (by simpa using hl)) r2 hq) fun r s' hq' => ?_))
  cases r with
  | error er => exact False.elim hq'
  | ok fl =>
    cases fl with
    | ret w' =>
      obtain ⟨z, H', J, rz, ez, q2⟩ := I2.after hq'
      subst ez
      exact ⟨rz, V.ref (hp1.objs.size + 1), H', J, rfl, q2⟩
    | next => exact False.elim hq'
    | brk => exact False.elim hq'
    | cont => exact False.elim hq'
end
end FM
-- FmExc3
set_option maxRecDepth 100000
set_option maxHeartbeats 4000000
namespace FM
open PySem PySem.Spec PyProof.Rows L2
/-- at a stands an exception of the class at D, as a value -/
def ExA (H : Hp) (a D : Addr) : Prop := H a = some (ExO (.ref D) a) ∨ ∃ d fs, H a = some (exo a D (some d)) ∧ H d = some (exd d fs)
/-- a is the exception that is handled, without a dict -/
def PinD (pn : List (Addr × Obj)) (a D : Addr) : Prop := ∃ oe : Obj, (a, oe) ∈ pn ∧ Zc (.ref D) none oe ∧ ∃ vs, oe.data = .fields vs
theorem inst_pin {X : Cx} {pins : List (Addr × Obj)} {σ : L2.St} {H : Hp} {s : Shared} {a D : Addr} (I : Inv X pins σ H s) (h : PinD X.pn a D) :
    ∃ (oe : Obj) (od : Option Obj), PySem.W.InstAt s.heap a oe D od := by
  obtain ⟨oe, hp, hz, vs, hd⟩ := h
  obtain ⟨hg, _⟩ := I.pin (a, oe) (List.mem_append.mpr (.inl hp))
  refine ⟨oe, none, hg, hz.1, ?_, by rw [hz.2]; trivial⟩
  unfold PySem.W.notCls
  rw [hd]
theorem inst_exa {X : Cx} {pins : List (Addr × Obj)} {σ : L2.St} {H : Hp} {s : Shared} {a D : Addr} (I : Inv X pins σ H s) (h : ExA H a D) :
    ∃ (oe : Obj) (od : Option Obj), PySem.W.InstAt s.heap a oe D od := by
  rcases h with h | ⟨d, fs, h, hd⟩
  · obtain ⟨⟨oe, vs, ho, hz, hdt, _⟩, _, _⟩ := I.hok a _ h
    refine ⟨oe, none, ho, hz.1, ?_, by rw [hz.2]; trivial⟩
    unfold PySem.W.notCls
    rw [hdt]
  · obtain ⟨t, ho⟩ := exo_at I.hok h
    obtain ⟨mA, ⟨o, es, ep, e1, _⟩, _⟩ := exd_at I.hok hd
    exact ⟨_, some o, ho, rfl, rfl, e1⟩
/-- isinstance(e, c) of an exception -/
def rIsX (K : PySem.W.Frag) (pn : List (Addr × Obj)) : List V → Hp → VK → Prop := fun xs H Q => ∃ (a D : Addr) (c : V) (cv : Value) (b : Bool), xs = [.ref a, c] ∧ ClsV c cv ∧
  (ExA H a D ∨ PinD pn a D) ∧ ExcC K D ∧ PySem.W.kitOne K (.ref D) cv = some b ∧ Q (.bl b) H
theorem call_isX {X : Cx} : CallR X (.builtin "isinstance") (rIsX X.K X.pn) := by
  intro pins s σ H xs us Q I r h
  obtain ⟨a, D, c, cv, b, rfl, k, hx, C, e, q⟩ := h
  obtain ⟨u1, u2, rfl, r1, r2⟩ := vals2 r
  have e2 := k.eq r2
  subst e2
  cases r1
  obtain ⟨oe, od, J⟩ : ∃ (oe : Obj) (od : Option Obj), PySem.W.InstAt s.heap a oe D od := hx.elim (inst_exa I) (inst_pin I)
  have hcl : (PySem.W.clsIn X.K D).isSome = true := by
    obtain ⟨cd, hc, _⟩ := PySem.W.any_some C.hd
    rw [hc]
    rfl
  exact PySem.W.kia_one (PySem.W.kitx_exc hcl C.hg C.hk C.hs C.ha C.hn C.ht C.hm) I.kIn J e (fun z => nomatch z)
    fun tk => ⟨.bl b, H, I.tok tk, rfl, q⟩
/-- e.f of an exception held as a value -/
def tXv (K : PySem.W.Frag) (f : Str) (te : TE) : TE := fun σ H Q => te σ H fun x H1 => ∃ (a C d : Addr) (fs : List (Str × V)) (v : V), x = .ref a ∧
  H1 a = some (exo a C (some d)) ∧ H1 d = some (exd d fs) ∧ XfC K C ∧ PySem.W.findIn K (.ref C) f = some none ∧ fs.lookup f = some v ∧ Q v H1
theorem pe_xv {X : Cx} {e : Expr} {te : TE} {pos : Pos} {n : Str} (he : PE X e te) (hb : attributeBase e n X.env (eval e X.env) = eval e X.env := by rfl) :
    PE X (.Attribute e n pos) (tXv X.K n te) := by
  refine ⟨fun pins s σ H Q I h => attr_of hb (thn (he.run pins s σ H _ I h) ?_)⟩
  rintro u s1 ⟨x, H1, I1, rx, a, C, d, fs, v, rfl, ha, hd, T, hno, l, q⟩
  cases rx
  obtain ⟨t, ho⟩ := exo_at I1.hok ha
  obtain ⟨mA, hns, hr⟩ := exd_at I1.hok hd
  obtain ⟨od, hod, hl⟩ := lookIn_ns hns
  obtain ⟨u, hu, ru⟩ := RelO.some_of (v := v) (o := mA n) (by rw [← l]; exact hr n)
  have J : PySem.W.InstAt s1.heap a _ C (some od) := ⟨ho, rfl, rfl, hod⟩
  exact HandSPX.exc_get I1.kIn J T.ga T.gg T.exC (PySem.W.findObj_own T.hdC hno rfl (by rw [hl, hu])) (handed_of ru)
    ⟨v, H1, I1.tok _, ru, q⟩
end FM
-- K0Flags
set_option maxRecDepth 100000
set_option maxHeartbeats 4000000
namespace K0
open PySem L2 FM He
def top (i : Nat) : Stmt := PySem.Challenge.pw_fewmarks_k00_errors.main.body.getD i (.Pass ⟨0, 0, 0, 0⟩)
abbrev FnP (K : PySem.W.Frag) (x : Str) (st : Stmt) (f : Addr) (fd : FuncData) : Prop := FunD K x x (defArgs st) (defBody st) (defScope st) [] [] f fd
/-- the fourteen classes, as the law asks for them; MarkError -/
def ex14 : List Str := ["InvalidText", "InvalidRewriter", "InvalidMachine", "InvalidBook", "InvalidOperation", "InvalidEdit", "ParseError", "InvalidCommand", "InvalidNumber", "UnknownName", "TooMany", "NotSingle", "NeedsMarks", "NothingToUndo"]
def ex15 : List Str := "MarkError" :: ex14
/-- which of MarkError, ValueError, IndexError, KeyError, OverflowError, LookupError, ArithmeticError, RuntimeError an error of the class is -/
def basesOf (x : Str) : List Bool :=
  if x = "InvalidNumber" then [false, false, true, false, false, true, false, false]
  else if x = "UnknownName" then [false, false, false, true, false, true, false, false]
  else if x = "TooMany" then [false, false, false, false, true, false, true, false]
  else if x = "NotSingle" then [false, false, false, false, false, false, true, false]
  else if x = "NeedsMarks" then [false, false, false, false, false, false, false, true]
  else if x = "NothingToUndo" then [false, false, false, false, false, true, false, false]
  else [true, true, false, false, false, false, false, false]
def flagsOf (x : Str) : List Bool := ex14.map fun y => decide (x = y)
def baseTys : List String := ["ValueError", "IndexError", "KeyError", "OverflowError", "LookupError", "ArithmeticError", "RuntimeError"]
structure TX (K : PySem.W.Frag) (mg : Str → Option Value) : Prop where
  b_isinstance : mg "isinstance" = none
  b_range : mg "range" = none
  b_ValueError : mg "ValueError" = none
  b_IndexError : mg "IndexError" = none
  b_KeyError : mg "KeyError" = none
  b_OverflowError : mg "OverflowError" = none
  b_LookupError : mg "LookupError" = none
  b_ArithmeticError : mg "ArithmeticError" = none
  b_RuntimeError : mg "RuntimeError" = none
  g_MarkError : mg "MarkError" = some (.ref (ga K "MarkError"))
  g_InvalidText : mg "InvalidText" = some (.ref (ga K "InvalidText"))
  g_InvalidRewriter : mg "InvalidRewriter" = some (.ref (ga K "InvalidRewriter"))
  g_InvalidMachine : mg "InvalidMachine" = some (.ref (ga K "InvalidMachine"))
  g_InvalidBook : mg "InvalidBook" = some (.ref (ga K "InvalidBook"))
  g_InvalidOperation : mg "InvalidOperation" = some (.ref (ga K "InvalidOperation"))
  g_InvalidEdit : mg "InvalidEdit" = some (.ref (ga K "InvalidEdit"))
  g_ParseError : mg "ParseError" = some (.ref (ga K "ParseError"))
  g_InvalidCommand : mg "InvalidCommand" = some (.ref (ga K "InvalidCommand"))
  g_InvalidNumber : mg "InvalidNumber" = some (.ref (ga K "InvalidNumber"))
  g_UnknownName : mg "UnknownName" = some (.ref (ga K "UnknownName"))
  g_TooMany : mg "TooMany" = some (.ref (ga K "TooMany"))
  g_NotSingle : mg "NotSingle" = some (.ref (ga K "NotSingle"))
  g_NeedsMarks : mg "NeedsMarks" = some (.ref (ga K "NeedsMarks"))
  g_NothingToUndo : mg "NothingToUndo" = some (.ref (ga K "NothingToUndo"))
  exc : ∀ x ∈ ex15, ExcC K (ga K x)
  kit : ∀ x ∈ ex15, ∀ y ∈ ex14, PySem.W.kitOne K (.ref (ga K x)) (.ref (ga K y)) = some (decide (x = y))
  kitM : ∀ x ∈ ex15, PySem.W.kitOne K (.ref (ga K x)) (.ref (ga K "MarkError")) = some ((basesOf x).getD 0 false)
  kitB : ∀ x ∈ ex15, ∀ i < 7, PySem.W.kitOne K (.ref (ga K x)) (.type (baseTys.getD i "")) = some ((basesOf x).getD (i + 1) false)
abbrev s__law_flags : Stmt := top 102
theorem sc__law_flags : FnScope ["_law_one", "_law_found"] ["_law_one"] (defScope s__law_flags) := ⟨rfl, rfl, rfl, by decide +kernel, rfl, by decide +kernel, by decide +kernel⟩
abbrev s__law_bases : Stmt := top 103
theorem sc__law_bases : FnScope ["_law_one", "_law_found"] ["_law_one"] (defScope s__law_bases) := ⟨rfl, rfl, rfl, by decide +kernel, rfl, by decide +kernel, by decide +kernel⟩
abbrev s__law_only : Stmt := top 104
theorem sc__law_only : FnScope ["_law_spots", "_law_total", "_law_at"] ["_law_spots", "_law_total"] (defScope s__law_only) := ⟨rfl, rfl, rfl, by decide +kernel, rfl, by decide +kernel, by decide +kernel⟩
/-- what answers with a list of truths and leaves everything as it was -/
def Ans (H : Hp) (Q : VK) (bs : List Bool) : Prop := ∀ H' p, Same H H' → H p = none → H' p = some (.lst (bs.map V.bl)) → Q (.ref p) H'
def spFlags (K : PySem.W.Frag) : Sp := fun vs H Q _ => ∃ (a : Addr) (x : Str), vs = [.ref a] ∧ x ∈ ex15 ∧ ExA H a (ga K x) ∧ Ans H Q (flagsOf x)
def spBases (K : PySem.W.Frag) : Sp := fun vs H Q _ => ∃ (a : Addr) (x : Str), vs = [.ref a] ∧ x ∈ ex15 ∧ ExA H a (ga K x) ∧ Ans H Q (basesOf x)
theorem exA_upd {H : Hp} {a D p : Addr} {o : HO} (h : ExA H a D) (n : H p = none) : ExA (upd H p o) a D := by
  rcases h with h | ⟨d, fs, h1, h2⟩
  · exact .inl (by rw [upd_ne (ne_of_none h n)]; exact h)
  · exact .inr ⟨d, fs, by rw [upd_ne (ne_of_none h1 n)]; exact h1, by rw [upd_ne (ne_of_none h2 n)]; exact h2⟩
theorem exA_same {H H' : Hp} {a D : Addr} (h : ExA H a D) (S : Same H H') : ExA H' a D := by
  rcases h with h | ⟨d, fs, h1, h2⟩
  · exact .inl (S _ _ h)
  · exact .inr ⟨d, fs, S _ _ h1, S _ _ h2⟩
theorem bases_eight (x : Str) : basesOf x = [(basesOf x).getD 0 false, (basesOf x).getD 1 false, (basesOf x).getD 2 false, (basesOf x).getD 3 false, (basesOf x).getD 4 false, (basesOf x).getD 5 false, (basesOf x).getD 6 false, (basesOf x).getD 7 false] := by
  unfold basesOf
  repeat (split; rfl)
  rfl
theorem same_upd {H : Hp} {p : Addr} {o : HO} (n : H p = none) : Same H (upd H p o) := fun b u h => by
  rw [upd_ne (ne_of_none h n)]
  exact h
section
variable {P : Program} {w : World} {K : PySem.W.Frag} {mg : Str → Option Value} {base : Heap}
theorem ok_flags {f : Addr} {fd : FuncData} (F : FnP K "_law_flags" s__law_flags f fd) (T : TX K mg) : FnOk P w K mg base CX0 1 f fd ["_law_one"] (spFlags K) := by
  refine F.ok sc__law_flags (fun vs H Q E h => ?_) (fun cdv A outer s H vs Q E hr h => ?_)
  · obtain ⟨a, x, rfl, _⟩ := h
    rfl
  · obtain ⟨a, x, rfl, hx, he, k⟩ := h
    have nd := sc__law_flags.nd
    refine ⟨_, PSs.nox (pss_cons (ps_set (i := 1) nd rfl (.inl rfl) (pe_lst (pa_cons (pe_callB call_isX (by rfl) T.b_isinstance (by decide +kernel) (pa_cons (pv 0) (pa_cons (C8.pe_gc (v := .ref _) (by rfl) ⟨_, T.g_InvalidText, rfl⟩) pa_nil))) (pa_cons (pe_callB call_isX (by rfl) T.b_isinstance (by decide +kernel) (pa_cons (pv 0) (pa_cons (C8.pe_gc (v := .ref _) (by rfl) ⟨_, T.g_InvalidRewriter, rfl⟩) pa_nil))) (pa_cons (pe_callB call_isX (by rfl) T.b_isinstance (by decide +kernel) (pa_cons (pv 0) (pa_cons (C8.pe_gc (v := .ref _) (by rfl) ⟨_, T.g_InvalidMachine, rfl⟩) pa_nil))) pa_nil)))))
      (pss_cons (ps_set (i := 1) nd rfl (.inl rfl) (pe_op op_cat (pv 1) (pe_lst (pa_cons (pe_callB call_isX (by rfl) T.b_isinstance (by decide +kernel) (pa_cons (pv 0) (pa_cons (C8.pe_gc (v := .ref _) (by rfl) ⟨_, T.g_InvalidBook, rfl⟩) pa_nil))) (pa_cons (pe_callB call_isX (by rfl) T.b_isinstance (by decide +kernel) (pa_cons (pv 0) (pa_cons (C8.pe_gc (v := .ref _) (by rfl) ⟨_, T.g_InvalidOperation, rfl⟩) pa_nil))) (pa_cons (pe_callB call_isX (by rfl) T.b_isinstance (by decide +kernel) (pa_cons (pv 0) (pa_cons (C8.pe_gc (v := .ref _) (by rfl) ⟨_, T.g_InvalidEdit, rfl⟩) pa_nil))) pa_nil))))))
      (pss_cons (ps_set (i := 1) nd rfl (.inl rfl) (pe_op op_cat (pv 1) (pe_lst (pa_cons (pe_callB call_isX (by rfl) T.b_isinstance (by decide +kernel) (pa_cons (pv 0) (pa_cons (C8.pe_gc (v := .ref _) (by rfl) ⟨_, T.g_ParseError, rfl⟩) pa_nil))) (pa_cons (pe_callB call_isX (by rfl) T.b_isinstance (by decide +kernel) (pa_cons (pv 0) (pa_cons (C8.pe_gc (v := .ref _) (by rfl) ⟨_, T.g_InvalidCommand, rfl⟩) pa_nil))) (pa_cons (pe_callB call_isX (by rfl) T.b_isinstance (by decide +kernel) (pa_cons (pv 0) (pa_cons (C8.pe_gc (v := .ref _) (by rfl) ⟨_, T.g_InvalidNumber, rfl⟩) pa_nil))) pa_nil))))))
      (pss_cons (ps_set (i := 1) nd rfl (.inl rfl) (pe_op op_cat (pv 1) (pe_lst (pa_cons (pe_callB call_isX (by rfl) T.b_isinstance (by decide +kernel) (pa_cons (pv 0) (pa_cons (C8.pe_gc (v := .ref _) (by rfl) ⟨_, T.g_UnknownName, rfl⟩) pa_nil))) (pa_cons (pe_callB call_isX (by rfl) T.b_isinstance (by decide +kernel) (pa_cons (pv 0) (pa_cons (C8.pe_gc (v := .ref _) (by rfl) ⟨_, T.g_TooMany, rfl⟩) pa_nil))) (pa_cons (pe_callB call_isX (by rfl) T.b_isinstance (by decide +kernel) (pa_cons (pv 0) (pa_cons (C8.pe_gc (v := .ref _) (by rfl) ⟨_, T.g_NotSingle, rfl⟩) pa_nil))) pa_nil))))))
      (pss_one (ps_ret (pe_op op_cat (pv 1) (pe_lst (pa_cons (pe_callB call_isX (by rfl) T.b_isinstance (by decide +kernel) (pa_cons (pv 0) (pa_cons (C8.pe_gc (v := .ref _) (by rfl) ⟨_, T.g_NeedsMarks, rfl⟩) pa_nil))) (pa_cons (pe_callB call_isX (by rfl) T.b_isinstance (by decide +kernel) (pa_cons (pv 0) (pa_cons (C8.pe_gc (v := .ref _) (by rfl) ⟨_, T.g_NothingToUndo, rfl⟩) pa_nil))) pa_nil)))))))))), ?_⟩
    have c := T.exc x hx
    refine ⟨_, rfl, a, _, _, _, _, rfl, ClsV.own _, .inl (exA_same he (Same.refl H)), c, T.kit x hx "InvalidText" (by decide), _, rfl, a, _, _, _, _, rfl, ClsV.own _, .inl (exA_same he (Same.refl H)), c, T.kit x hx "InvalidRewriter" (by decide), _, rfl, a, _, _, _, _, rfl, ClsV.own _, .inl (exA_same he (Same.refl H)), c, T.kit x hx "InvalidMachine" (by decide), by show 3 ≤ sizeLine; decide, fun p1 n1 => ?_⟩
    refine ⟨_, rfl, _, rfl, a, _, _, _, _, rfl, ClsV.own _, .inl (exA_same he (same_upd n1)), c, T.kit x hx "InvalidBook" (by decide), _, rfl, a, _, _, _, _, rfl, ClsV.own _, .inl (exA_same he (same_upd n1)), c, T.kit x hx "InvalidOperation" (by decide), _, rfl, a, _, _, _, _, rfl, ClsV.own _, .inl (exA_same he (same_upd n1)), c, T.kit x hx "InvalidEdit" (by decide), by show 3 ≤ sizeLine; decide, fun q1 m1 => ?_⟩
    refine ⟨p1, q1, _, _, rfl, rfl, by rw [upd_ne (ne_of_none upd_same m1)]; exact upd_same, upd_same, by show 3 + 3 ≤ sizeLine; decide, fun p2 n2 => ?_⟩
    refine ⟨_, rfl, _, rfl, a, _, _, _, _, rfl, ClsV.own _, .inl (exA_same he (Same.trans (Same.trans (same_upd n1) (same_upd m1)) (same_upd n2))), c, T.kit x hx "ParseError" (by decide), _, rfl, a, _, _, _, _, rfl, ClsV.own _, .inl (exA_same he (Same.trans (Same.trans (same_upd n1) (same_upd m1)) (same_upd n2))), c, T.kit x hx "InvalidCommand" (by decide), _, rfl, a, _, _, _, _, rfl, ClsV.own _, .inl (exA_same he (Same.trans (Same.trans (same_upd n1) (same_upd m1)) (same_upd n2))), c, T.kit x hx "InvalidNumber" (by decide), by show 3 ≤ sizeLine; decide, fun q2 m2 => ?_⟩
    refine ⟨p2, q2, _, _, rfl, rfl, by rw [upd_ne (ne_of_none upd_same m2)]; exact upd_same, upd_same, by show 6 + 3 ≤ sizeLine; decide, fun p3 n3 => ?_⟩
    refine ⟨_, rfl, _, rfl, a, _, _, _, _, rfl, ClsV.own _, .inl (exA_same he (Same.trans (Same.trans (Same.trans (Same.trans (same_upd n1) (same_upd m1)) (same_upd n2)) (same_upd m2)) (same_upd n3))), c, T.kit x hx "UnknownName" (by decide), _, rfl, a, _, _, _, _, rfl, ClsV.own _, .inl (exA_same he (Same.trans (Same.trans (Same.trans (Same.trans (same_upd n1) (same_upd m1)) (same_upd n2)) (same_upd m2)) (same_upd n3))), c, T.kit x hx "TooMany" (by decide), _, rfl, a, _, _, _, _, rfl, ClsV.own _, .inl (exA_same he (Same.trans (Same.trans (Same.trans (Same.trans (same_upd n1) (same_upd m1)) (same_upd n2)) (same_upd m2)) (same_upd n3))), c, T.kit x hx "NotSingle" (by decide), by show 3 ≤ sizeLine; decide, fun q3 m3 => ?_⟩
    refine ⟨p3, q3, _, _, rfl, rfl, by rw [upd_ne (ne_of_none upd_same m3)]; exact upd_same, upd_same, by show 9 + 3 ≤ sizeLine; decide, fun p4 n4 => ?_⟩
    refine ⟨_, rfl, _, rfl, a, _, _, _, _, rfl, ClsV.own _, .inl (exA_same he (Same.trans (Same.trans (Same.trans (Same.trans (Same.trans (Same.trans (same_upd n1) (same_upd m1)) (same_upd n2)) (same_upd m2)) (same_upd n3)) (same_upd m3)) (same_upd n4))), c, T.kit x hx "NeedsMarks" (by decide), _, rfl, a, _, _, _, _, rfl, ClsV.own _, .inl (exA_same he (Same.trans (Same.trans (Same.trans (Same.trans (Same.trans (Same.trans (same_upd n1) (same_upd m1)) (same_upd n2)) (same_upd m2)) (same_upd n3)) (same_upd m3)) (same_upd n4))), c, T.kit x hx "NothingToUndo" (by decide), by show 2 ≤ sizeLine; decide, fun q4 m4 => ?_⟩
    refine ⟨p4, q4, _, _, rfl, rfl, by rw [upd_ne (ne_of_none upd_same m4)]; exact upd_same, upd_same, by show 12 + 2 ≤ sizeLine; decide, fun p5 n5 => ?_⟩
    exact k _ p5 (Same.trans (Same.trans (Same.trans (Same.trans (Same.trans (Same.trans (Same.trans (Same.trans (same_upd n1) (same_upd m1)) (same_upd n2)) (same_upd m2)) (same_upd n3)) (same_upd m3)) (same_upd n4)) (same_upd m4)) (same_upd n5)) (Same.free (Same.trans (Same.trans (Same.trans (Same.trans (Same.trans (Same.trans (Same.trans (same_upd n1) (same_upd m1)) (same_upd n2)) (same_upd m2)) (same_upd n3)) (same_upd m3)) (same_upd n4)) (same_upd m4)) n5) upd_same
theorem ok_bases {f : Addr} {fd : FuncData} (F : FnP K "_law_bases" s__law_bases f fd) (T : TX K mg) : FnOk P w K mg base CX0 1 f fd ["_law_one"] (spBases K) := by
  refine F.ok sc__law_bases (fun vs H Q E h => ?_) (fun cdv A outer s H vs Q E hr h => ?_)
  · obtain ⟨a, x, rfl, _⟩ := h
    rfl
  · obtain ⟨a, x, rfl, hx, he, k⟩ := h
    have nd := sc__law_bases.nd
    refine ⟨_, PSs.nox (pss_cons (ps_set (i := 1) nd rfl (.inl rfl) (pe_lst (pa_cons (pe_callB call_isX (by rfl) T.b_isinstance (by decide +kernel) (pa_cons (pv 0) (pa_cons (C8.pe_gc (v := .ref _) (by rfl) ⟨_, T.g_MarkError, rfl⟩) pa_nil))) (pa_cons (pe_callB call_isX (by rfl) T.b_isinstance (by decide +kernel) (pa_cons (pv 0) (pa_cons (pe_bltn (v := .ty "ValueError") (by rfl) T.b_ValueError (by decide +kernel) rfl) pa_nil))) (pa_cons (pe_callB call_isX (by rfl) T.b_isinstance (by decide +kernel) (pa_cons (pv 0) (pa_cons (pe_bltn (v := .ty "IndexError") (by rfl) T.b_IndexError (by decide +kernel) rfl) pa_nil))) pa_nil)))))
      (pss_cons (ps_set (i := 1) nd rfl (.inl rfl) (pe_op op_cat (pv 1) (pe_lst (pa_cons (pe_callB call_isX (by rfl) T.b_isinstance (by decide +kernel) (pa_cons (pv 0) (pa_cons (pe_bltn (v := .ty "KeyError") (by rfl) T.b_KeyError (by decide +kernel) rfl) pa_nil))) (pa_cons (pe_callB call_isX (by rfl) T.b_isinstance (by decide +kernel) (pa_cons (pv 0) (pa_cons (pe_bltn (v := .ty "OverflowError") (by rfl) T.b_OverflowError (by decide +kernel) rfl) pa_nil))) (pa_cons (pe_callB call_isX (by rfl) T.b_isinstance (by decide +kernel) (pa_cons (pv 0) (pa_cons (pe_bltn (v := .ty "LookupError") (by rfl) T.b_LookupError (by decide +kernel) rfl) pa_nil))) pa_nil))))))
      (pss_one (ps_ret (pe_op op_cat (pv 1) (pe_lst (pa_cons (pe_callB call_isX (by rfl) T.b_isinstance (by decide +kernel) (pa_cons (pv 0) (pa_cons (pe_bltn (v := .ty "ArithmeticError") (by rfl) T.b_ArithmeticError (by decide +kernel) rfl) pa_nil))) (pa_cons (pe_callB call_isX (by rfl) T.b_isinstance (by decide +kernel) (pa_cons (pv 0) (pa_cons (pe_bltn (v := .ty "RuntimeError") (by rfl) T.b_RuntimeError (by decide +kernel) rfl) pa_nil))) pa_nil)))))))), ?_⟩
    have c := T.exc x hx
    refine ⟨_, rfl, a, _, _, _, _, rfl, ClsV.own _, .inl (exA_same he (Same.refl H)), c, T.kitM x hx, _, rfl, a, _, _, _, _, rfl, ClsV.ty _, .inl (exA_same he (Same.refl H)), c, T.kitB x hx 0 (by decide), _, rfl, a, _, _, _, _, rfl, ClsV.ty _, .inl (exA_same he (Same.refl H)), c, T.kitB x hx 1 (by decide), by show 3 ≤ sizeLine; decide, fun p1 n1 => ?_⟩
    refine ⟨_, rfl, _, rfl, a, _, _, _, _, rfl, ClsV.ty _, .inl (exA_same he (same_upd n1)), c, T.kitB x hx 2 (by decide), _, rfl, a, _, _, _, _, rfl, ClsV.ty _, .inl (exA_same he (same_upd n1)), c, T.kitB x hx 3 (by decide), _, rfl, a, _, _, _, _, rfl, ClsV.ty _, .inl (exA_same he (same_upd n1)), c, T.kitB x hx 4 (by decide), by show 3 ≤ sizeLine; decide, fun q1 m1 => ?_⟩
    refine ⟨p1, q1, _, _, rfl, rfl, by rw [upd_ne (ne_of_none upd_same m1)]; exact upd_same, upd_same, by show 3 + 3 ≤ sizeLine; decide, fun p2 n2 => ?_⟩
    refine ⟨_, rfl, _, rfl, a, _, _, _, _, rfl, ClsV.ty _, .inl (exA_same he (Same.trans (Same.trans (same_upd n1) (same_upd m1)) (same_upd n2))), c, T.kitB x hx 5 (by decide), _, rfl, a, _, _, _, _, rfl, ClsV.ty _, .inl (exA_same he (Same.trans (Same.trans (same_upd n1) (same_upd m1)) (same_upd n2))), c, T.kitB x hx 6 (by decide), by show 2 ≤ sizeLine; decide, fun q2 m2 => ?_⟩
    refine ⟨p2, q2, _, _, rfl, rfl, by rw [upd_ne (ne_of_none upd_same m2)]; exact upd_same, upd_same, by show 6 + 2 ≤ sizeLine; decide, fun p3 n3 => ?_⟩
    refine k _ p3 (Same.trans (Same.trans (Same.trans (Same.trans (same_upd n1) (same_upd m1)) (same_upd n2)) (same_upd m2)) (same_upd n3)) (Same.free (Same.trans (Same.trans (Same.trans (same_upd n1) (same_upd m1)) (same_upd n2)) (same_upd m2)) n3) ?_
    rw [upd_same, bases_eight x]
    rfl
def onlyOf (is : List Int) (n : Nat) : List Bool := (List.range n).map fun (i : Nat) => inV (.int (i : Int)) (is.map V.int)
def spOnly (K : PySem.W.Frag) : Sp := fun vs H Q _ => ∃ (t : Addr) (is : List Int) (n : Nat), vs = [.ref t, .int n] ∧ SqT K H t (is.map V.int) ∧ n ≤ 1000 ∧ Ans H Q (onlyOf is n)
theorem sqT_same {H H' : Hp} {a : Addr} {xs : List V} (e : Same H H') (h : SqT K H a xs) : SqT K H' a xs := by
  rcases h with (h | ⟨o, h⟩) | h
  · exact .inl (.inl (e _ _ h))
  · exact .inl (.inr ⟨o, e _ _ h⟩)
  · exact .inr h
theorem ok_only {f : Addr} {fd : FuncData} (F : FnP K "_law_only" s__law_only f fd) (T : TX K mg) : FnOk P w K mg base CX0 1 f fd ["_law_spots", "_law_total"] (spOnly K) := by
  refine F.ok sc__law_only (fun vs H Q E h => ?_) (fun cdv A outer s H vs Q E hr h => ?_)
  · obtain ⟨t, is, n, rfl, _⟩ := h
    rfl
  · obtain ⟨t, is, n, rfl, ht, hn, k⟩ := h
    have nd := sc__law_only.nd
    refine ⟨_, PSs.nox (pss_one (ps_ret (pe_lc (own := [("_law_at", 2)]) rfl nd (pi_range1 (by rfl) T.b_range (pa_cons (pv 1) pa_nil)) (blkOk_by (own := [("_law_at", 2)]) (N := ["_law_spots", "_law_total", "_law_at"]) (sc := defScope s__law_only) (by decide +kernel)) (fun _ _ _ _ _ => (pg_name (i := 2) nd rfl (.inl rfl))) (fun _ _ _ _ _ => pts_nil) (fun _ _ _ _ _ => (pe_cmpR (op_in_seq : OpR _ _ (rIn K false)) (pv 2) (pv 0) (by rfl)))))), ?_⟩
    refine ⟨_, rfl, n, rfl, by omega, by omega, fun D nD => ?_⟩
    have e0 : ((n : Int)).toNat = n := Int.toNat_natCast n
    rw [e0]
    refine lc_range (lo := 0) (n := n) (fun i H' => Same H H' ∧ H' D = some (.lst ((onlyOf is i).map V.bl))) ⟨same_upd nD, upd_same⟩ (fun i H' hi ⟨S, hD⟩ => ?_) (fun H' ⟨S, hD⟩ => k H' D S nD hD)
    refine ⟨rfl, _, rfl, _, rfl, t, _, rfl, .inr (sqT_same S ht), rfl, by simp [flatV], ?_⟩
    refine ⟨_, hD, ?_, fun b o hb => ?_, ?_⟩
    · rw [List.length_map]
      unfold onlyOf
      rw [List.length_map, List.length_range]
      have : sizeLine = 16777216 := sizeLine_eq
      omega
    · rw [upd_ne (ne_of_none hb nD)]
      exact S _ _ hb
    · rw [upd_same]
      unfold onlyOf
      rw [List.range_succ, List.map_append, List.map_append]
      simp
end
end K0
-- K0Errs
set_option maxRecDepth 100000
set_option maxHeartbeats 4000000
namespace K0
open PySem L2 FM He
def mark9 : List Str := ["MarkError", "InvalidText", "InvalidRewriter", "InvalidMachine", "InvalidBook", "InvalidOperation", "InvalidEdit", "ParseError", "InvalidCommand"]
abbrev FnQ (K : PySem.W.Frag) (q : Str) (st : Stmt) (f : Addr) (fd : FuncData) : Prop := FunD K "__init__" q (defArgs st) (defBody st) (defScope st) [] [] f fd
/-- the classes without and with an __init__ -/
structure TE (K : PySem.W.Frag) (mg : Str → Option Value) : Prop extends TX K mg where
  exI : ∀ x ∈ mark9, PySem.W.excIn K (ga K x) veBase "ValueError.__new__" = true ∧ PySem.W.keepIn K (.ref (ga K x)) = true
  ox_InvalidNumber : OxC K (ga K "InvalidNumber")
  no_InvalidNumber : PySem.W.findIn K (.ref (ga K "InvalidNumber")) "value" = some none
  in_InvalidNumber : PySem.W.findIn K (.ref (ga K "InvalidNumber")) "__init__" = some (some (.ref (ma K (ga K "InvalidNumber") "__init__")))
  ty_InvalidNumber : PySem.W.typeIn K (.ref (ma K (ga K "InvalidNumber") "__init__")) = some (.type "function")
  fn_InvalidNumber : ∃ fd, FnQ K "InvalidNumber.__init__" (inClass (top 11) 0) (ma K (ga K "InvalidNumber") "__init__") fd
  ox_UnknownName : OxC K (ga K "UnknownName")
  no_UnknownName : PySem.W.findIn K (.ref (ga K "UnknownName")) "name" = some none
  in_UnknownName : PySem.W.findIn K (.ref (ga K "UnknownName")) "__init__" = some (some (.ref (ma K (ga K "UnknownName") "__init__")))
  ty_UnknownName : PySem.W.typeIn K (.ref (ma K (ga K "UnknownName") "__init__")) = some (.type "function")
  fn_UnknownName : ∃ fd, FnQ K "UnknownName.__init__" (inClass (top 12) 0) (ma K (ga K "UnknownName") "__init__") fd
  ox_TooMany : OxC K (ga K "TooMany")
  no_TooMany : PySem.W.findIn K (.ref (ga K "TooMany")) "limit" = some none
  in_TooMany : PySem.W.findIn K (.ref (ga K "TooMany")) "__init__" = some (some (.ref (ma K (ga K "TooMany") "__init__")))
  ty_TooMany : PySem.W.typeIn K (.ref (ma K (ga K "TooMany") "__init__")) = some (.type "function")
  fn_TooMany : ∃ fd, FnQ K "TooMany.__init__" (inClass (top 13) 0) (ma K (ga K "TooMany") "__init__") fd
  ox_NotSingle : OxC K (ga K "NotSingle")
  no_NotSingle : PySem.W.findIn K (.ref (ga K "NotSingle")) "paper" = some none
  in_NotSingle : PySem.W.findIn K (.ref (ga K "NotSingle")) "__init__" = some (some (.ref (ma K (ga K "NotSingle") "__init__")))
  ty_NotSingle : PySem.W.typeIn K (.ref (ma K (ga K "NotSingle") "__init__")) = some (.type "function")
  fn_NotSingle : ∃ fd, FnQ K "NotSingle.__init__" (inClass (top 14) 0) (ma K (ga K "NotSingle") "__init__") fd
  ox_NeedsMarks : OxC K (ga K "NeedsMarks")
  no_NeedsMarks : PySem.W.findIn K (.ref (ga K "NeedsMarks")) "fork" = some none
  in_NeedsMarks : PySem.W.findIn K (.ref (ga K "NeedsMarks")) "__init__" = some (some (.ref (ma K (ga K "NeedsMarks") "__init__")))
  ty_NeedsMarks : PySem.W.typeIn K (.ref (ma K (ga K "NeedsMarks") "__init__")) = some (.type "function")
  fn_NeedsMarks : ∃ fd, FnQ K "NeedsMarks.__init__" (inClass (top 15) 0) (ma K (ga K "NeedsMarks") "__init__") fd
  ox_NothingToUndo : OxC K (ga K "NothingToUndo")
  no_NothingToUndo : PySem.W.findIn K (.ref (ga K "NothingToUndo")) "many" = some none
  in_NothingToUndo : PySem.W.findIn K (.ref (ga K "NothingToUndo")) "__init__" = some (some (.ref (ma K (ga K "NothingToUndo") "__init__")))
  ty_NothingToUndo : PySem.W.typeIn K (.ref (ma K (ga K "NothingToUndo") "__init__")) = some (.type "function")
  fn_NothingToUndo : ∃ fd, FnQ K "NothingToUndo.__init__" (inClass (top 16) 0) (ma K (ga K "NothingToUndo") "__init__") fd
section
variable {P : Program} {w : World} {K : PySem.W.Frag} {mg : Str → Option Value} {base : Heap}
abbrev s_InvalidNumber : Stmt := inClass (top 11) 0
theorem sc_InvalidNumber : FnScope ["self", "value"] ["self", "value"] (defScope s_InvalidNumber) := ⟨rfl, rfl, rfl, by decide +kernel, rfl, by decide +kernel, by decide +kernel⟩
theorem ok_InvalidNumber {f : Addr} {fd : FuncData} (F : FnQ K "InvalidNumber.__init__" s_InvalidNumber f fd) (T : TE K mg) : FnOk P w K mg base CX0 1 f fd ["self", "value"] (spInit1 (ga K "InvalidNumber") "value") := by
  refine F.ok sc_InvalidNumber (fun vs H Q E h => ?_) (fun cdv A outer s H vs Q E hr h => ?_)
  · obtain ⟨a, v, rfl, _⟩ := h
    rfl
  · obtain ⟨a, v, rfl, ha, k⟩ := h
    refine ⟨_, PSs.nox (pss_one (ps_osx (pv 0) (pv 1))), ?_⟩
    exact ⟨_, rfl, _, rfl, a, _, rfl, T.ox_InvalidNumber, T.no_InvalidNumber, ha, fun dx n ne => k dx n ne⟩
theorem mk_InvalidNumber {X : Cx} (T : TE X.K X.mg) (hr : Room 2 X.A) (hg : Gl X "InvalidNumber") {e : Expr} {te : L2.TE} {p pos : Pos} (he : PE X e te)
    (hs : starEach [e] X.env = (false, eval e X.env) :: starEach [] X.env := by rfl) :
    PE X (.Call (.Name "InvalidNumber" p) [e] [] pos) (tOxv (ga X.K "InvalidNumber") "value" te) := by
  obtain ⟨fd, F⟩ := T.fn_InvalidNumber
  have b : Binds X.K fd ["self", "value"] [] := F.bindsN fun _ _ _ _ _ _ us hl => match us, hl with | [_, _], _ => rfl
  exact pe_oxv T.ox_InvalidNumber T.in_InvalidNumber T.ty_InvalidNumber (ok_InvalidNumber F T) hr b hg T.g_InvalidNumber he (by decide) hs
abbrev s_UnknownName : Stmt := inClass (top 12) 0
theorem sc_UnknownName : FnScope ["self", "name"] ["self", "name"] (defScope s_UnknownName) := ⟨rfl, rfl, rfl, by decide +kernel, rfl, by decide +kernel, by decide +kernel⟩
theorem ok_UnknownName {f : Addr} {fd : FuncData} (F : FnQ K "UnknownName.__init__" s_UnknownName f fd) (T : TE K mg) : FnOk P w K mg base CX0 1 f fd ["self", "name"] (spInit1 (ga K "UnknownName") "name") := by
  refine F.ok sc_UnknownName (fun vs H Q E h => ?_) (fun cdv A outer s H vs Q E hr h => ?_)
  · obtain ⟨a, v, rfl, _⟩ := h
    rfl
  · obtain ⟨a, v, rfl, ha, k⟩ := h
    refine ⟨_, PSs.nox (pss_one (ps_osx (pv 0) (pv 1))), ?_⟩
    exact ⟨_, rfl, _, rfl, a, _, rfl, T.ox_UnknownName, T.no_UnknownName, ha, fun dx n ne => k dx n ne⟩
theorem mk_UnknownName {X : Cx} (T : TE X.K X.mg) (hr : Room 2 X.A) (hg : Gl X "UnknownName") {e : Expr} {te : L2.TE} {p pos : Pos} (he : PE X e te)
    (hs : starEach [e] X.env = (false, eval e X.env) :: starEach [] X.env := by rfl) :
    PE X (.Call (.Name "UnknownName" p) [e] [] pos) (tOxv (ga X.K "UnknownName") "name" te) := by
  obtain ⟨fd, F⟩ := T.fn_UnknownName
  have b : Binds X.K fd ["self", "name"] [] := F.bindsN fun _ _ _ _ _ _ us hl => match us, hl with | [_, _], _ => rfl
  exact pe_oxv T.ox_UnknownName T.in_UnknownName T.ty_UnknownName (ok_UnknownName F T) hr b hg T.g_UnknownName he (by decide) hs
abbrev s_TooMany : Stmt := inClass (top 13) 0
theorem sc_TooMany : FnScope ["self", "limit"] ["self", "limit"] (defScope s_TooMany) := ⟨rfl, rfl, rfl, by decide +kernel, rfl, by decide +kernel, by decide +kernel⟩
theorem ok_TooMany {f : Addr} {fd : FuncData} (F : FnQ K "TooMany.__init__" s_TooMany f fd) (T : TE K mg) : FnOk P w K mg base CX0 1 f fd ["self", "limit"] (spInit1 (ga K "TooMany") "limit") := by
  refine F.ok sc_TooMany (fun vs H Q E h => ?_) (fun cdv A outer s H vs Q E hr h => ?_)
  · obtain ⟨a, v, rfl, _⟩ := h
    rfl
  · obtain ⟨a, v, rfl, ha, k⟩ := h
    refine ⟨_, PSs.nox (pss_one (ps_osx (pv 0) (pv 1))), ?_⟩
    exact ⟨_, rfl, _, rfl, a, _, rfl, T.ox_TooMany, T.no_TooMany, ha, fun dx n ne => k dx n ne⟩
theorem mk_TooMany {X : Cx} (T : TE X.K X.mg) (hr : Room 2 X.A) (hg : Gl X "TooMany") {e : Expr} {te : L2.TE} {p pos : Pos} (he : PE X e te)
    (hs : starEach [e] X.env = (false, eval e X.env) :: starEach [] X.env := by rfl) :
    PE X (.Call (.Name "TooMany" p) [e] [] pos) (tOxv (ga X.K "TooMany") "limit" te) := by
  obtain ⟨fd, F⟩ := T.fn_TooMany
  have b : Binds X.K fd ["self", "limit"] [] := F.bindsN fun _ _ _ _ _ _ us hl => match us, hl with | [_, _], _ => rfl
  exact pe_oxv T.ox_TooMany T.in_TooMany T.ty_TooMany (ok_TooMany F T) hr b hg T.g_TooMany he (by decide) hs
abbrev s_NotSingle : Stmt := inClass (top 14) 0
theorem sc_NotSingle : FnScope ["self", "paper"] ["self", "paper"] (defScope s_NotSingle) := ⟨rfl, rfl, rfl, by decide +kernel, rfl, by decide +kernel, by decide +kernel⟩
theorem ok_NotSingle {f : Addr} {fd : FuncData} (F : FnQ K "NotSingle.__init__" s_NotSingle f fd) (T : TE K mg) : FnOk P w K mg base CX0 1 f fd ["self", "paper"] (spInit1 (ga K "NotSingle") "paper") := by
  refine F.ok sc_NotSingle (fun vs H Q E h => ?_) (fun cdv A outer s H vs Q E hr h => ?_)
  · obtain ⟨a, v, rfl, _⟩ := h
    rfl
  · obtain ⟨a, v, rfl, ha, k⟩ := h
    refine ⟨_, PSs.nox (pss_one (ps_osx (pv 0) (pv 1))), ?_⟩
    exact ⟨_, rfl, _, rfl, a, _, rfl, T.ox_NotSingle, T.no_NotSingle, ha, fun dx n ne => k dx n ne⟩
theorem mk_NotSingle {X : Cx} (T : TE X.K X.mg) (hr : Room 2 X.A) (hg : Gl X "NotSingle") {e : Expr} {te : L2.TE} {p pos : Pos} (he : PE X e te)
    (hs : starEach [e] X.env = (false, eval e X.env) :: starEach [] X.env := by rfl) :
    PE X (.Call (.Name "NotSingle" p) [e] [] pos) (tOxv (ga X.K "NotSingle") "paper" te) := by
  obtain ⟨fd, F⟩ := T.fn_NotSingle
  have b : Binds X.K fd ["self", "paper"] [] := F.bindsN fun _ _ _ _ _ _ us hl => match us, hl with | [_, _], _ => rfl
  exact pe_oxv T.ox_NotSingle T.in_NotSingle T.ty_NotSingle (ok_NotSingle F T) hr b hg T.g_NotSingle he (by decide) hs
abbrev s_NeedsMarks : Stmt := inClass (top 15) 0
theorem sc_NeedsMarks : FnScope ["self", "fork"] ["self", "fork"] (defScope s_NeedsMarks) := ⟨rfl, rfl, rfl, by decide +kernel, rfl, by decide +kernel, by decide +kernel⟩
theorem ok_NeedsMarks {f : Addr} {fd : FuncData} (F : FnQ K "NeedsMarks.__init__" s_NeedsMarks f fd) (T : TE K mg) : FnOk P w K mg base CX0 1 f fd ["self", "fork"] (spInit1 (ga K "NeedsMarks") "fork") := by
  refine F.ok sc_NeedsMarks (fun vs H Q E h => ?_) (fun cdv A outer s H vs Q E hr h => ?_)
  · obtain ⟨a, v, rfl, _⟩ := h
    rfl
  · obtain ⟨a, v, rfl, ha, k⟩ := h
    refine ⟨_, PSs.nox (pss_one (ps_osx (pv 0) (pv 1))), ?_⟩
    exact ⟨_, rfl, _, rfl, a, _, rfl, T.ox_NeedsMarks, T.no_NeedsMarks, ha, fun dx n ne => k dx n ne⟩
theorem mk_NeedsMarks {X : Cx} (T : TE X.K X.mg) (hr : Room 2 X.A) (hg : Gl X "NeedsMarks") {e : Expr} {te : L2.TE} {p pos : Pos} (he : PE X e te)
    (hs : starEach [e] X.env = (false, eval e X.env) :: starEach [] X.env := by rfl) :
    PE X (.Call (.Name "NeedsMarks" p) [e] [] pos) (tOxv (ga X.K "NeedsMarks") "fork" te) := by
  obtain ⟨fd, F⟩ := T.fn_NeedsMarks
  have b : Binds X.K fd ["self", "fork"] [] := F.bindsN fun _ _ _ _ _ _ us hl => match us, hl with | [_, _], _ => rfl
  exact pe_oxv T.ox_NeedsMarks T.in_NeedsMarks T.ty_NeedsMarks (ok_NeedsMarks F T) hr b hg T.g_NeedsMarks he (by decide) hs
abbrev s_NothingToUndo : Stmt := inClass (top 16) 0
theorem sc_NothingToUndo : FnScope ["self", "many"] ["self", "many"] (defScope s_NothingToUndo) := ⟨rfl, rfl, rfl, by decide +kernel, rfl, by decide +kernel, by decide +kernel⟩
theorem ok_NothingToUndo {f : Addr} {fd : FuncData} (F : FnQ K "NothingToUndo.__init__" s_NothingToUndo f fd) (T : TE K mg) : FnOk P w K mg base CX0 1 f fd ["self", "many"] (spInit1 (ga K "NothingToUndo") "many") := by
  refine F.ok sc_NothingToUndo (fun vs H Q E h => ?_) (fun cdv A outer s H vs Q E hr h => ?_)
  · obtain ⟨a, v, rfl, _⟩ := h
    rfl
  · obtain ⟨a, v, rfl, ha, k⟩ := h
    refine ⟨_, PSs.nox (pss_one (ps_osx (pv 0) (pv 1))), ?_⟩
    exact ⟨_, rfl, _, rfl, a, _, rfl, T.ox_NothingToUndo, T.no_NothingToUndo, ha, fun dx n ne => k dx n ne⟩
theorem mk_NothingToUndo {X : Cx} (T : TE X.K X.mg) (hr : Room 2 X.A) (hg : Gl X "NothingToUndo") {e : Expr} {te : L2.TE} {p pos : Pos} (he : PE X e te)
    (hs : starEach [e] X.env = (false, eval e X.env) :: starEach [] X.env := by rfl) :
    PE X (.Call (.Name "NothingToUndo" p) [e] [] pos) (tOxv (ga X.K "NothingToUndo") "many" te) := by
  obtain ⟨fd, F⟩ := T.fn_NothingToUndo
  have b : Binds X.K fd ["self", "many"] [] := F.bindsN fun _ _ _ _ _ _ us hl => match us, hl with | [_, _], _ => rfl
  exact pe_oxv T.ox_NothingToUndo T.in_NothingToUndo T.ty_NothingToUndo (ok_NothingToUndo F T) hr b hg T.g_NothingToUndo he (by decide) hs
end
end K0
-- K0Msg
set_option maxRecDepth 100000
set_option maxHeartbeats 4000000
namespace FM
open PySem L2
/-! lists of truths compared -/
theorem dpAll_bl {K : PySem.W.Frag} {H : Hp} : ∀ bs : List Bool, DpAll K H (bs.map V.bl) (bs.map PyData.bool)
  | [] => .nil
  | b :: r => .cons (.bl b) (dpAll_bl r)
theorem dp_bl {K : PySem.W.Frag} {H : Hp} {p : Addr} {bs : List Bool} (h : H p = some (.lst (bs.map V.bl))) : Dp K H (.ref p) (.list (bs.map PyData.bool)) := .lst (SqL.of h) (dpAll_bl bs)
theorem canAll_bl : ∀ bs : List Bool, PyData.canLayAll0 (bs.map PyData.bool) = true
  | [] => rfl
  | _ :: r => canAll_bl r
theorem depthAll_bl : ∀ bs : List Bool, PyData.depthAll (bs.map PyData.bool) ≤ 1
  | [] => by simp [PyData.depthAll]
  | _ :: r => by
    have := depthAll_bl r
    simp only [List.map_cons, PyData.depthAll, PyData.depth]
    omega
theorem shaped_bl (bs : List Bool) : SeqAt.shaped (.list (bs.map PyData.bool)) = true := by
  unfold SeqAt.shaped
  rw [Bool.and_eq_true]
  refine ⟨canAll_bl bs, decide_eq_true ?_⟩
  have := depthAll_bl bs
  simp only [PyData.depth]
  omega
/-- != of two lists of the same truths -/
theorem ne_bl {K : PySem.W.Frag} {H : Hp} {p q : Addr} {bs cs : List Bool} {Q : VK} (h1 : H p = some (.lst (bs.map V.bl))) (h2 : H q = some (.lst (cs.map V.bl))) (e : bs = cs) (k : Q (.bl false) H) : rNeD K (.ref p) (.ref q) H Q := by
  subst e
  refine ⟨_, _, dp_bl h1, dp_bl h2, shaped_bl bs, shaped_bl bs, ?_⟩
  rw [SeqAt.eqv_refl _ (SeqAt.canLay_of_shaped (shaped_bl bs))]
  exact k
/-- a for over enumerate(a list) -/
theorem for_enum {K : PySem.W.Frag} {a : Addr} {xs : List V} {g : TG} {tb : TS} {D : Ends} {σ : L2.St} {H : Hp} (Pv : Nat → L2.St → Hp → Prop) (h0 : Pv 0 σ H) (hl : ∀ i σ H, Pv i σ H → SqL K H a xs)
    (hs : ∀ i x σ H T, xs[i]? = some x → Pv i σ H → H T = none → g (.ref T) σ (upd H T (.tup [.int (i : Nat), x])) fun σ2 H2 => tb { D with nx := Pv (i + 1), ct := Pv (i + 1), bk := D.nx } σ2 H2)
    (hd : ∀ σ H, Pv xs.length σ H → D.nx σ H) :
    ∃ W : Nat → Nat → L2.St → Hp → Prop, (∃ m, W 0 m σ H) ∧ ∀ i m σ H, W i m σ H →
      ((Ite K a).stop i H ∧ D.nx σ H) ∨ ((Ite K a).go i H ∧ ∃ N : L2.St → Hp → Prop, (∀ σ' H', N σ' H' → ∃ m', m' < m ∧ W (i + 1) m' σ' H') ∧
        ∀ x H', (Ite K a).yld i H x H' → g x σ H' fun σ2 H2 => tb { D with nx := N, ct := N, bk := D.nx } σ2 H2) := by
  refine ⟨fun i m σ H => m = xs.length - i ∧ i ≤ xs.length ∧ Pv i σ H, ⟨_, rfl, Nat.zero_le _, h0⟩, ?_⟩
  rintro i m σ H ⟨rfl, hi, p⟩
  have q := hl i σ H p
  by_cases lt : i < xs.length
  · refine .inr ⟨⟨xs, xs[i], q, List.getElem?_eq_getElem lt⟩, Pv (i + 1), fun σ' H' p' => ⟨xs.length - (i + 1), by omega, rfl, lt, p'⟩, fun x H' y => ?_⟩
    obtain ⟨T, z, rfl, nT, rfl, hz⟩ := y
    exact hs i z σ H T (hz xs q) p nT
  · have e : i = xs.length := by omega
    subst e
    exact .inl ⟨⟨xs, q, Nat.le_refl _⟩, hd σ H p⟩
end FM
namespace K0
open PySem L2 FM He
abbrev s__law_told : Stmt := top 101
theorem sc__law_told : FnScope ["_law_message", "_law_found"] ["_law_message"] (defScope s__law_told) := ⟨rfl, rfl, rfl, by decide +kernel, rfl, by decide +kernel, by decide +kernel⟩
abbrev s__law_messages_right : Stmt := top 105
theorem sc__law_messages_right : FnScope ["_law_message", "_law_at", "_law_one"] ["_law_message"] (defScope s__law_messages_right) := ⟨rfl, rfl, rfl, by decide +kernel, rfl, by decide +kernel, by decide +kernel⟩
/-- eight errors of the classes without values -/
def ErrsAt (K : PySem.W.Frag) (H : Hp) (p : Addr) (as : List Addr) : Prop := H p = some (.lst (as.map V.ref)) ∧ as.length = 8 ∧ ∀ (i : Nat) (a : Addr), as[i]? = some a → ∃ x, ex14[i]? = some x ∧ ExA H a (ga K x)
def spTold (K : PySem.W.Frag) : Sp := fun vs H Q _ => ∃ m : Str, vs = [.str m] ∧ ∀ H' p as, Same H H' → H p = none → ErrsAt K H' p as → Q (.ref p) H'
section
variable {P : Program} {w : World} {K : PySem.W.Frag} {mg : Str → Option Value} {base : Heap}
theorem ok_told {f : Addr} {fd : FuncData} (F : FnP K "_law_told" s__law_told f fd) (T : TE K mg) : FnOk P w K mg base CX0 1 f fd ["_law_message"] (spTold K) := by
  refine F.ok sc__law_told (fun vs H Q E h => ?_) (fun cdv A outer s H vs Q E hr h => ?_)
  · obtain ⟨m, rfl, _⟩ := h
    rfl
  · obtain ⟨m, rfl, k⟩ := h
    have nd := sc__law_told.nd
    refine ⟨_, PSs.nox (pss_cons (ps_set (i := 1) nd rfl (.inl rfl) (pe_lst (pa_cons (pe_exc1 PySem.F.excBase_ValueError (T.exI "InvalidText" (by decide)).1 T.g_InvalidText (T.exI "InvalidText" (by decide)).2 (by rfl) (pv 0)) (pa_cons (pe_exc1 PySem.F.excBase_ValueError (T.exI "InvalidRewriter" (by decide)).1 T.g_InvalidRewriter (T.exI "InvalidRewriter" (by decide)).2 (by rfl) (pv 0)) (pa_cons (pe_exc1 PySem.F.excBase_ValueError (T.exI "InvalidMachine" (by decide)).1 T.g_InvalidMachine (T.exI "InvalidMachine" (by decide)).2 (by rfl) (pv 0)) (pa_cons (pe_exc1 PySem.F.excBase_ValueError (T.exI "InvalidBook" (by decide)).1 T.g_InvalidBook (T.exI "InvalidBook" (by decide)).2 (by rfl) (pv 0)) pa_nil))))))
      (pss_one (ps_ret (pe_op op_cat (pv 1) (pe_lst (pa_cons (pe_exc1 PySem.F.excBase_ValueError (T.exI "InvalidOperation" (by decide)).1 T.g_InvalidOperation (T.exI "InvalidOperation" (by decide)).2 (by rfl) (pv 0)) (pa_cons (pe_exc1 PySem.F.excBase_ValueError (T.exI "InvalidEdit" (by decide)).1 T.g_InvalidEdit (T.exI "InvalidEdit" (by decide)).2 (by rfl) (pv 0)) (pa_cons (pe_exc1 PySem.F.excBase_ValueError (T.exI "ParseError" (by decide)).1 T.g_ParseError (T.exI "ParseError" (by decide)).2 (by rfl) (pv 0)) (pa_cons (pe_exc1 PySem.F.excBase_ValueError (T.exI "InvalidCommand" (by decide)).1 T.g_InvalidCommand (T.exI "InvalidCommand" (by decide)).2 (by rfl) (pv 0)) pa_nil))))))))), ?_⟩
    refine ⟨_, rfl, fun a0 n0 => ⟨_, rfl, fun a1 n1 => ⟨_, rfl, fun a2 n2 => ⟨_, rfl, fun a3 n3 => ⟨by show 4 ≤ sizeLine; decide, fun p np => ?_⟩⟩⟩⟩⟩
    refine ⟨_, rfl, _, rfl, fun a4 n4 => ⟨_, rfl, fun a5 n5 => ⟨_, rfl, fun a6 n6 => ⟨_, rfl, fun a7 n7 => ⟨by show 4 ≤ sizeLine; decide, fun q nq => ?_⟩⟩⟩⟩⟩
    have S0 := same_upd (o := ExO (.ref (ga K "InvalidText")) a0) n0
    have S1 := same_upd (o := ExO (.ref (ga K "InvalidRewriter")) a1) n1
    have S2 := same_upd (o := ExO (.ref (ga K "InvalidMachine")) a2) n2
    have S3 := same_upd (o := ExO (.ref (ga K "InvalidBook")) a3) n3
    have Sp := same_upd (o := .lst [.ref a0, .ref a1, .ref a2, .ref a3]) np
    have S4 := same_upd (o := ExO (.ref (ga K "InvalidOperation")) a4) n4
    have S5 := same_upd (o := ExO (.ref (ga K "InvalidEdit")) a5) n5
    have S6 := same_upd (o := ExO (.ref (ga K "ParseError")) a6) n6
    have S7 := same_upd (o := ExO (.ref (ga K "InvalidCommand")) a7) n7
    have Sq := same_upd (o := .lst [.ref a4, .ref a5, .ref a6, .ref a7]) nq
    have R7 := S7.trans Sq
    have R6 := S6.trans R7
    have R5 := S5.trans R6
    have R4 := S4.trans R5
    refine ⟨p, q, _, _, rfl, rfl, R4 _ _ upd_same, upd_same, by show 8 ≤ sizeLine; decide, fun r nr => ?_⟩
    have Sr := same_upd (o := .lst [.ref a0, .ref a1, .ref a2, .ref a3, .ref a4, .ref a5, .ref a6, .ref a7]) nr
    have Q7 := R7.trans Sr
    have Q6 := S6.trans Q7
    have Q5 := S5.trans Q6
    have Q4 := S4.trans Q5
    have Qp := Sp.trans Q4
    have Q3 := S3.trans Qp
    have Q2 := S2.trans Q3
    have Q1 := S1.trans Q2
    refine k _ r [a0, a1, a2, a3, a4, a5, a6, a7] (S0.trans Q1) ((S0.trans (S1.trans (S2.trans (S3.trans (Sp.trans R4))))).free nr) ⟨upd_same, rfl, fun i a hi => ?_⟩
    match i, hi with
    | 0, hi => cases hi; exact ⟨_, rfl, .inl (Q1 _ _ upd_same)⟩
    | 1, hi => cases hi; exact ⟨_, rfl, .inl (Q2 _ _ upd_same)⟩
    | 2, hi => cases hi; exact ⟨_, rfl, .inl (Q3 _ _ upd_same)⟩
    | 3, hi => cases hi; exact ⟨_, rfl, .inl (Qp _ _ upd_same)⟩
    | 4, hi => cases hi; exact ⟨_, rfl, .inl (Q5 _ _ upd_same)⟩
    | 5, hi => cases hi; exact ⟨_, rfl, .inl (Q6 _ _ upd_same)⟩
    | 6, hi => cases hi; exact ⟨_, rfl, .inl (Q7 _ _ upd_same)⟩
    | 7, hi => cases hi; exact ⟨_, rfl, .inl ((Sq.trans Sr) _ _ upd_same)⟩
theorem flags_at (i : Nat) (hi : i < 8) {x : Str} (hx : ex14[i]? = some x) : flagsOf x = onlyOf [(i : Int)] 14 := by
  match i, hi, hx with
  | 0, _, hx => cases hx; decide
  | 1, _, hx => cases hx; decide
  | 2, _, hx => cases hx; decide
  | 3, _, hx => cases hx; decide
  | 4, _, hx => cases hx; decide
  | 5, _, hx => cases hx; decide
  | 6, _, hx => cases hx; decide
  | 7, _, hx => cases hx; decide
theorem bases_at (i : Nat) (hi : i < 8) {x : Str} (hx : ex14[i]? = some x) : basesOf x = onlyOf [0, 1] 8 := by
  match i, hi, hx with
  | 0, _, hx => cases hx; decide
  | 1, _, hx => cases hx; decide
  | 2, _, hx => cases hx; decide
  | 3, _, hx => cases hx; decide
  | 4, _, hx => cases hx; decide
  | 5, _, hx => cases hx; decide
  | 6, _, hx => cases hx; decide
  | 7, _, hx => cases hx; decide
def spMsg : Sp := fun vs H Q _ => ∃ m : Str, vs = [.str m] ∧ ∀ H', Same H H' → Q (.bl true) H'
theorem ok_msg {f : Addr} {fd : FuncData} (F : FnP K "_law_messages_right" s__law_messages_right f fd) (T : TE K mg) (b_enumerate : mg "enumerate" = none)
    {fF fB fO fT : Addr} {dF dB dO dT : FuncData} (F__law_flags : FnP K "_law_flags" s__law_flags fF dF) (F__law_bases : FnP K "_law_bases" s__law_bases fB dB) (F__law_only : FnP K "_law_only" s__law_only fO dO) (F__law_told : FnP K "_law_told" s__law_told fT dT)
    (gF : mg "_law_flags" = some (.ref fF)) (gB : mg "_law_bases" = some (.ref fB)) (gO : mg "_law_only" = some (.ref fO)) (gT : mg "_law_told" = some (.ref fT)) :
    FnOk P w K mg base CX0 2 f fd ["_law_message"] spMsg := by
  have G__law_flags : FnOk P w K mg base CX0 1 fF dF _ _ := ok_flags F__law_flags T.toTX
  have G__law_bases : FnOk P w K mg base CX0 1 fB dB _ _ := ok_bases F__law_bases T.toTX
  have G__law_only : FnOk P w K mg base CX0 1 fO dO _ _ := ok_only F__law_only T.toTX
  have G__law_told : FnOk P w K mg base CX0 1 fT dT _ _ := ok_told F__law_told T
  have b__law_flags : Binds K dF ["_law_one"] [] := F__law_flags.bindsN fun _ _ _ _ _ _ us hl => match us, hl with | [_], _ => rfl
  have b__law_bases : Binds K dB ["_law_one"] [] := F__law_bases.bindsN fun _ _ _ _ _ _ us hl => match us, hl with | [_], _ => rfl
  have b__law_only : Binds K dO ["_law_spots", "_law_total"] [] := F__law_only.bindsN fun _ _ _ _ _ _ us hl => match us, hl with | [_, _], _ => rfl
  have b__law_told : Binds K dT ["_law_message"] [] := F__law_told.bindsN fun _ _ _ _ _ _ us hl => match us, hl with | [_], _ => rfl
  refine F.ok sc__law_messages_right (fun vs H Q E h => ?_) (fun cdv A outer s H vs Q E hr h => ?_)
  · obtain ⟨m, rfl, _⟩ := h
    rfl
  · obtain ⟨m, rfl, k⟩ := h
    have nd := sc__law_messages_right.nd
    have hu64 := hr.units
    refine ⟨_, PSs.nox (pss_cons (ps_if (PW.pt (pw_or (pt_cmpR (op_neD hu64) (pe_call G__law_flags (hr.mono (by decide)) rfl gF F__law_flags.kp b__law_flags .nil pass0 (pa_cons (pe_exc1 PySem.F.excBase_ValueError (T.exI "MarkError" (by decide)).1 T.g_MarkError (T.exI "MarkError" (by decide)).2 (by rfl) (pv 0)) pa_nil)) (pe_op op_rep (pe_lst (pa_cons pe_bl pa_nil)) pe_int) (nomark _)) (pw_or1 (pt_cmpR (op_neD hu64) (pe_call G__law_bases (hr.mono (by decide)) rfl gB F__law_bases.kp b__law_bases .nil pass0 (pa_cons (pe_exc1 PySem.F.excBase_ValueError (T.exI "MarkError" (by decide)).1 T.g_MarkError (T.exI "MarkError" (by decide)).2 (by rfl) (pv 0)) pa_nil)) (pe_call G__law_only (hr.mono (by decide)) rfl gO F__law_only.kp b__law_only .nil pass0 (pa_cons (pe_tup (pa_cons pe_int (pa_cons pe_int pa_nil))) (pa_cons pe_int pa_nil))) (nomark _))))) (pss_one (ps_ret pe_bl)) pss_nil)
      (pss_cons (ps_for PassesOwn.never rfl (pi_enum (by rfl) b_enumerate (pa_cons (pe_call G__law_told (hr.mono (by decide)) rfl gT F__law_told.kp b__law_told .nil pass0 (pa_cons (pv 0) pa_nil)) pa_nil)) (pg_tup (by rfl) (pgs_cons (pg_name (i := 1) nd rfl (.inl rfl)) (pgs_cons (pg_name (i := 2) nd rfl (.inl rfl)) pgs_nil))) (pss_one (ps_if (PW.pt (pw_or (pt_cmpR (op_neD hu64) (pe_call G__law_flags (hr.mono (by decide)) rfl gF F__law_flags.kp b__law_flags .nil pass0 (pa_cons (pv 2) pa_nil)) (pe_call G__law_only (hr.mono (by decide)) rfl gO F__law_only.kp b__law_only .nil pass0 (pa_cons (pe_tup (pa_cons (pv 1) pa_nil)) (pa_cons pe_int pa_nil))) (nomark _)) (pw_or1 (pt_cmpR (op_neD hu64) (pe_call G__law_bases (hr.mono (by decide)) rfl gB F__law_bases.kp b__law_bases .nil pass0 (pa_cons (pv 2) pa_nil)) (pe_call G__law_only (hr.mono (by decide)) rfl gO F__law_only.kp b__law_only .nil pass0 (pa_cons (pe_tup (pa_cons pe_int (pa_cons pe_int pa_nil))) (pa_cons pe_int pa_nil))) (nomark _))))) (pss_one (ps_ret pe_bl)) pss_nil)))
      (pss_one (ps_ret pe_bl)))), ?_⟩
    refine ⟨_, rfl, fun a na => ⟨a, "MarkError", rfl, by decide, .inl upd_same, fun H1 p1 S1 n1 h1 => ?_⟩⟩
    have e14 : flagsOf "MarkError" = List.replicate 14 false := by decide
    have e8 : basesOf "MarkError" = onlyOf [0, 1] 8 := by decide
    refine ⟨by show 1 ≤ sizeLine; decide, fun l nl => ⟨l, 14, _, rfl, rfl, upd_same, by decide, by decide, by show 1 * 14 ≤ sizeLine; decide, fun p2 n2 => ?_⟩⟩
    have T1 := same_upd (o := .lst [V.bl false]) nl
    have T2 := same_upd (o := .lst ((List.replicate (14 : Int).toNat [V.bl false]).flatten)) n2
    refine ne_bl (bs := flagsOf "MarkError") (cs := List.replicate 14 false) ((T1.trans T2) _ _ h1) upd_same e14 ⟨_, rfl, iteF ?_⟩
    have S2 : Same H _ := ((same_upd (o := ExO (.ref (ga K "MarkError")) a) na).trans S1).trans (T1.trans T2)
    refine ⟨_, rfl, fun b nb => ⟨b, "MarkError", rfl, by decide, .inl upd_same, fun H3 p3 S3 n3 h3 => ?_⟩⟩
    refine ⟨by show 2 ≤ sizeLine; decide, fun t nt => ⟨t, [0, 1], 8, rfl, SqT.of upd_same, by decide, fun H4 p4 S4 n4 h4 => ?_⟩⟩
    have S5 := (same_upd (o := .tup [.int 0, .int 1]) nt).trans S4
    refine ne_bl (bs := basesOf "MarkError") (cs := onlyOf [0, 1] 8) (S5 _ _ h3) h4 e8 ⟨_, rfl, iteF ?_⟩
    have S6 : Same H H4 := (S2.trans ((same_upd (o := ExO (.ref (ga K "MarkError")) b) nb).trans S3)).trans S5
    refine ⟨_, rfl, m, rfl, fun H7 p as S7 n7 h7 => ⟨p, _, rfl, SqL.of h7.1, ?_⟩⟩
    have S8 : Same H H7 := S6.trans S7
    refine for_enum (fun i σ H' => ∃ u v, σ = [some (.str m), u, v] ∧ Same H7 H') ⟨_, _, rfl, Same.refl _⟩ (fun i σ H' ⟨_, _, _, S⟩ => SqL.of (S _ _ h7.1)) ?_ ?_
    · rintro i y σ H' T hy ⟨u, v, rfl, S⟩ nT
      rw [List.getElem?_map] at hy
      cases e : as[i]? with
      | none => rw [e] at hy; cases hy
      | some b =>
        rw [e] at hy
        cases hy
        obtain ⟨x, hx, hE⟩ := h7.2.2 i b e
        have hxm : x ∈ ex15 := List.mem_cons_of_mem _ (List.mem_of_getElem? hx)
        have hi : i < 8 := by
          have := (List.getElem?_eq_some_iff.mp e).1
          rw [h7.2.1] at this
          exact this
        have S9 := S.trans (same_upd (o := .tup [.int (i : Nat), .ref b]) nT)
        refine ⟨T, _, rfl, SqT.of upd_same, rfl, _, _, rfl, _, _, rfl, rfl, ?_⟩
        -- flags(one) != only((at,), 14)
        refine ⟨_, rfl, b, x, rfl, hxm, exA_same hE S9, fun H10 p10 S10 n10 h10 => ?_⟩
        refine ⟨_, rfl, by show 1 ≤ sizeLine; decide, fun t1 nt1 => ⟨t1, [(i : Int)], 14, rfl, SqT.of upd_same, by decide, fun H11 p11 S11 n11 h11 => ?_⟩⟩
        have S12 := (same_upd (o := .tup [.int (i : Nat)]) nt1).trans S11
        refine ne_bl (bs := flagsOf x) (cs := onlyOf [(i : Int)] 14) (S12 _ _ h10) h11 (flags_at i hi hx) ⟨_, rfl, iteF ?_⟩
        have S13 := (S9.trans S10).trans S12
        refine ⟨_, rfl, b, x, rfl, hxm, exA_same hE S13, fun H14 p14 S14 n14 h14 => ?_⟩
        refine ⟨by show 2 ≤ sizeLine; decide, fun t2 nt2 => ⟨t2, [0, 1], 8, rfl, SqT.of upd_same, by decide, fun H15 p15 S15 n15 h15 => ?_⟩⟩
        have S16 := (same_upd (o := .tup [.int 0, .int 1]) nt2).trans S15
        refine ne_bl (bs := basesOf x) (cs := onlyOf [0, 1] 8) (S16 _ _ h14) h15 (bases_at i hi hx) ⟨_, rfl, iteF ?_⟩
        exact ⟨_, _, rfl, (S13.trans S14).trans S16⟩
    · rintro σ H' ⟨u, v, rfl, S⟩
      exact k H' (S8.trans S)
end
end K0
-- FmHot
set_option maxRecDepth 100000
set_option maxHeartbeats 4000000
/-! A def that is called within an except suite with the exception that is handled, and raises nothing. -/
namespace FM
open PySem PySem.Spec PyProof.Rows L2
structure FnPin (P : Program) (w : World) (K : PySem.W.Frag) (mg : Str → Option Value) (base : Heap) (k : Nat) (f : Addr) (fd : FuncData) (ps : List Str) (sp : Addr × Obj → Sp) : Prop where
  len : ∀ p vs H Q E, sp p vs H Q E → vs.length = ps.length
  run : ∀ (A : Around) (outer : List Env) (s : Shared) (H : Hp) (args : Args) (us : List Value) (vs : List V) (Q : VK) (p : Addr × Obj),
    L2H.RoomH k A → L2H.PinOk outer H s p → Env0 P w K mg base A outer s H → BindsTo s fd args (ps.zip us) → Vals vs us → sp p vs H Q E0 →
    codeAny (model P w) A (.call (.ref f) args) (CR CX0 outer P w H s Q E0) s
section
variable {P : Program} {w : World} {K : PySem.W.Frag} {mg : Str → Option Value} {base : Heap}
theorem FnPin.of {x qual : Str} {params : Arguments} {body : List Stmt} {scope : Scope} {dvs : List V} {kws : List (Str × V)} {f : Addr} {fd : FuncData}
    {N ps : List Str} {k : Nat} {sp : Addr × Obj → Sp} (F : FunD K x qual params body scope dvs kws f fd) (S : FnScope N ps scope)
    (len : ∀ p vs H Q E, sp p vs H Q E → vs.length = ps.length)
    (hb : ∀ (cdv : Value) (A : Around) (outer : List Env) (s : Shared) (H : Hp) (vs : List V) (Q : VK) (p : Addr × Obj),
      L2H.RoomH k (A.deeper (envOfC qual scope s.heap.objs.size f cdv)) → sp p vs H Q E0 →
      ∃ t, PSs (L2H.cxH CX0 P w K mg base N qual scope f cdv A outer s H E0 p) body t ∧ t { nx := fun _ H' => Q .non H', rt := Q } (L2.start N vs) H) :
    FnPin P w K mg base (k + 1) f fd ps sp := by
  obtain ⟨oc, od, dV, kV, doc, pm, an, cdv, ct, osl, rfl, lk, hcd, _, _⟩ := F.ex
  refine ⟨len, fun A outer s H args us vs Q p hr hp e0 hbt r hsp => ?_⟩
  have hl := len _ _ _ _ _ hsp
  have kin : K.In s.heap := e0.mod.kin.keeps fun b o e => (e0.bs b o e).1
  have lim : s.heap.NoLimit := e0.mod.nolimit.keeps fun b o e => (e0.bs b o e).1
  refine codeAny_call_function hr.depth (kin _ _ lk) rfl S.co S.gen rfl (PySem.W.codeRec_of kin hcd) (hbt _ _ _ _
    (wpAny_newFunctionEnv_cells S.kind ?_ fun env he s1 z => ?_))
  · rintro ⟨n, v⟩ hy
    exact (S.par n (List.of_mem_zip hy).1).elim Or.inl fun q => Or.inr ⟨q, PySem.W.cellsFrom_some _ _ _ (.inl q)⟩
  subst he
  refine ⟨lim.keeps z.toInCall.keep, codeAny_func ?_⟩
  obtain ⟨t, ht, q⟩ := hb cdv A outer s H vs Q p (hr.deeper _) hsp
  have I := L2H.inv_startH (E := E0) (CX := CX0) S hp e0 hl r z
  refine wpAny_mono (ht.run [] s1 (L2.start N vs) H _ I q) (fun fl s' hs => ?_) fun e s' hs => hs
  cases fl with
  | ret u =>
    obtain ⟨v, σ', H', J, rv, q⟩ := hs
    exact ⟨v, H', J.os, J.bare, J.base, J.hok, rv, q⟩
  | next =>
    obtain ⟨σ', H', J, q⟩ := hs
    exact ⟨V.non, H', J.os, J.bare, J.base, J.hok, rfl, q⟩
  | brk =>
    obtain ⟨_, _, _, q⟩ := hs
    exact q.elim
  | cont =>
    obtain ⟨_, _, _, q⟩ := hs
    exact q.elim
end
section
variable {X : Cx} {k : Nat} {f : Addr} {fd : FuncData} {ps : List Str} {sp : Addr × Obj → Sp} {p : Addr × Obj} {x : Str} {q pos : Pos} {e : Expr} {es : List Expr} {t : TA}
theorem pe_callPin (F : FnPin X.prog X.w X.K X.mg X.base k f fd ps sp) (hr : L2H.RoomH k X.A) (hp : p ∈ X.pn) (hg : Gl X x) (hm : X.mg x = some (.ref f))
    (hk : PySem.W.keepIn X.K (.ref f) = true) (hb : Binds X.K fd ps []) (ha : PA X (e :: es) t) (hdb : (x == ("__debug__" : Str)) = false := by decide)
    (he : starEach (e :: es) X.env = (false, eval e X.env) :: starEach es X.env := by rfl) (hpl : (backTo pos (starEach es X.env)).any (·.1) = false := by rfl) :
    PE X (.Call (.Name x q) (e :: es) [] pos) (fun σ H Q => t σ H fun vs H1 => sp p vs H1 Q E0) := by
  refine ⟨fun pins s σ H Q I h => wpAny_Call_Name_kw (ld_glob I hg hm ?_ hdb)⟩
  refine PySem.W.callWith_K (h₀ := X.base) I.ok.mod.kin hk (thn (ha.run pos pins s σ H _ I h) ?_) he hpl
  rintro us s1 ⟨vs, H1, I1, r, z⟩
  refine ⟨I1.kIn, ?_⟩
  have hl : us.length = ps.length := by
    rw [← r.length]
    exact F.len _ _ _ _ _ z
  have b := hb s1 us I1.kIn (by rw [List.append_nil]; exact hl)
  rw [List.append_nil] at b
  have P1 := I1.pin p (List.mem_append_left _ hp)
  have hpin : L2H.PinOk X.stack H1 s1 p := ⟨P1.1, P1.2.1, fun hm => (List.mem_cons.mp (I1.stkSub p.1 hm)).elim P1.2.2.1 P1.2.2.2.1, P1.2.2.2.2⟩
  refine wpAny_call (codeAny_mono (F.run X.A X.stack s1 H1 ⟨us, []⟩ us vs Q p hr hpin I1.env0 b r z) fun r s' hq => ?_)
  cases r with
  | error e => exact False.elim hq
  | ok fl =>
    cases fl with
    | ret u => exact I1.after hq
    | next => exact False.elim hq
    | brk => exact False.elim hq
    | cont => exact False.elim hq
end
end FM
-- K0Taken
set_option maxRecDepth 100000
set_option maxHeartbeats 4000000
namespace K0
open PySem L2 FM He
abbrev s__law_taken : Stmt := top 108
theorem sc__law_taken : FnScope ["_law_call", "e"] ["_law_call"] (defScope s__law_taken) := ⟨rfl, rfl, rfl, by decide +kernel, rfl, by decide +kernel, by decide +kernel⟩
def spFlagsPin (K : PySem.W.Frag) : Addr × Obj → Sp := fun p vs H Q _ => ∃ x : Str, vs = [.ref p.1] ∧ x ∈ ex15 ∧ Zc (.ref (ga K x)) none p.2 ∧ (∃ fv, p.2.data = .fields fv) ∧ Ans H Q (flagsOf x)
section
variable {P : Program} {w : World} {K : PySem.W.Frag} {mg : Str → Option Value} {base : Heap}
theorem ok_flagsPin {f : Addr} {fd : FuncData} (F : FnP K "_law_flags" s__law_flags f fd) (T : TX K mg) : FnPin P w K mg base 1 f fd ["_law_one"] (spFlagsPin K) := by
  refine FnPin.of F sc__law_flags (fun p vs H Q E h => ?_) (fun cdv A outer s H vs Q p hr h => ?_)
  · obtain ⟨x, rfl, _⟩ := h
    rfl
  · obtain ⟨x, rfl, hx, hz, hf, k⟩ := h
    obtain ⟨a, oe⟩ := p
    have hp : PinD [(a, oe)] a (ga K x) := ⟨oe, List.mem_cons_self, hz, hf⟩
    have nd := sc__law_flags.nd
    refine ⟨_, (pss_cons (ps_set (i := 1) nd rfl (.inl rfl) (pe_lst (pa_cons (pe_callB call_isX (by rfl) T.b_isinstance (by decide +kernel) (pa_cons (pv 0) (pa_cons (C8.pe_gc (v := .ref _) (by rfl) ⟨_, T.g_InvalidText, rfl⟩) pa_nil))) (pa_cons (pe_callB call_isX (by rfl) T.b_isinstance (by decide +kernel) (pa_cons (pv 0) (pa_cons (C8.pe_gc (v := .ref _) (by rfl) ⟨_, T.g_InvalidRewriter, rfl⟩) pa_nil))) (pa_cons (pe_callB call_isX (by rfl) T.b_isinstance (by decide +kernel) (pa_cons (pv 0) (pa_cons (C8.pe_gc (v := .ref _) (by rfl) ⟨_, T.g_InvalidMachine, rfl⟩) pa_nil))) pa_nil)))))
      (pss_cons (ps_set (i := 1) nd rfl (.inl rfl) (pe_op op_cat (pv 1) (pe_lst (pa_cons (pe_callB call_isX (by rfl) T.b_isinstance (by decide +kernel) (pa_cons (pv 0) (pa_cons (C8.pe_gc (v := .ref _) (by rfl) ⟨_, T.g_InvalidBook, rfl⟩) pa_nil))) (pa_cons (pe_callB call_isX (by rfl) T.b_isinstance (by decide +kernel) (pa_cons (pv 0) (pa_cons (C8.pe_gc (v := .ref _) (by rfl) ⟨_, T.g_InvalidOperation, rfl⟩) pa_nil))) (pa_cons (pe_callB call_isX (by rfl) T.b_isinstance (by decide +kernel) (pa_cons (pv 0) (pa_cons (C8.pe_gc (v := .ref _) (by rfl) ⟨_, T.g_InvalidEdit, rfl⟩) pa_nil))) pa_nil))))))
      (pss_cons (ps_set (i := 1) nd rfl (.inl rfl) (pe_op op_cat (pv 1) (pe_lst (pa_cons (pe_callB call_isX (by rfl) T.b_isinstance (by decide +kernel) (pa_cons (pv 0) (pa_cons (C8.pe_gc (v := .ref _) (by rfl) ⟨_, T.g_ParseError, rfl⟩) pa_nil))) (pa_cons (pe_callB call_isX (by rfl) T.b_isinstance (by decide +kernel) (pa_cons (pv 0) (pa_cons (C8.pe_gc (v := .ref _) (by rfl) ⟨_, T.g_InvalidCommand, rfl⟩) pa_nil))) (pa_cons (pe_callB call_isX (by rfl) T.b_isinstance (by decide +kernel) (pa_cons (pv 0) (pa_cons (C8.pe_gc (v := .ref _) (by rfl) ⟨_, T.g_InvalidNumber, rfl⟩) pa_nil))) pa_nil))))))
      (pss_cons (ps_set (i := 1) nd rfl (.inl rfl) (pe_op op_cat (pv 1) (pe_lst (pa_cons (pe_callB call_isX (by rfl) T.b_isinstance (by decide +kernel) (pa_cons (pv 0) (pa_cons (C8.pe_gc (v := .ref _) (by rfl) ⟨_, T.g_UnknownName, rfl⟩) pa_nil))) (pa_cons (pe_callB call_isX (by rfl) T.b_isinstance (by decide +kernel) (pa_cons (pv 0) (pa_cons (C8.pe_gc (v := .ref _) (by rfl) ⟨_, T.g_TooMany, rfl⟩) pa_nil))) (pa_cons (pe_callB call_isX (by rfl) T.b_isinstance (by decide +kernel) (pa_cons (pv 0) (pa_cons (C8.pe_gc (v := .ref _) (by rfl) ⟨_, T.g_NotSingle, rfl⟩) pa_nil))) pa_nil))))))
      (pss_one (ps_ret (pe_op op_cat (pv 1) (pe_lst (pa_cons (pe_callB call_isX (by rfl) T.b_isinstance (by decide +kernel) (pa_cons (pv 0) (pa_cons (C8.pe_gc (v := .ref _) (by rfl) ⟨_, T.g_NeedsMarks, rfl⟩) pa_nil))) (pa_cons (pe_callB call_isX (by rfl) T.b_isinstance (by decide +kernel) (pa_cons (pv 0) (pa_cons (C8.pe_gc (v := .ref _) (by rfl) ⟨_, T.g_NothingToUndo, rfl⟩) pa_nil))) pa_nil)))))))))), ?_⟩
    have c := T.exc x hx
    refine ⟨_, rfl, a, _, _, _, _, rfl, ClsV.own _, .inr hp, c, T.kit x hx "InvalidText" (by decide), _, rfl, a, _, _, _, _, rfl, ClsV.own _, .inr hp, c, T.kit x hx "InvalidRewriter" (by decide), _, rfl, a, _, _, _, _, rfl, ClsV.own _, .inr hp, c, T.kit x hx "InvalidMachine" (by decide), by show 3 ≤ sizeLine; decide, fun p1 n1 => ?_⟩
    refine ⟨_, rfl, _, rfl, a, _, _, _, _, rfl, ClsV.own _, .inr hp, c, T.kit x hx "InvalidBook" (by decide), _, rfl, a, _, _, _, _, rfl, ClsV.own _, .inr hp, c, T.kit x hx "InvalidOperation" (by decide), _, rfl, a, _, _, _, _, rfl, ClsV.own _, .inr hp, c, T.kit x hx "InvalidEdit" (by decide), by show 3 ≤ sizeLine; decide, fun q1 m1 => ?_⟩
    refine ⟨p1, q1, _, _, rfl, rfl, by rw [upd_ne (ne_of_none upd_same m1)]; exact upd_same, upd_same, by show 3 + 3 ≤ sizeLine; decide, fun p2 n2 => ?_⟩
    refine ⟨_, rfl, _, rfl, a, _, _, _, _, rfl, ClsV.own _, .inr hp, c, T.kit x hx "ParseError" (by decide), _, rfl, a, _, _, _, _, rfl, ClsV.own _, .inr hp, c, T.kit x hx "InvalidCommand" (by decide), _, rfl, a, _, _, _, _, rfl, ClsV.own _, .inr hp, c, T.kit x hx "InvalidNumber" (by decide), by show 3 ≤ sizeLine; decide, fun q2 m2 => ?_⟩
    refine ⟨p2, q2, _, _, rfl, rfl, by rw [upd_ne (ne_of_none upd_same m2)]; exact upd_same, upd_same, by show 6 + 3 ≤ sizeLine; decide, fun p3 n3 => ?_⟩
    refine ⟨_, rfl, _, rfl, a, _, _, _, _, rfl, ClsV.own _, .inr hp, c, T.kit x hx "UnknownName" (by decide), _, rfl, a, _, _, _, _, rfl, ClsV.own _, .inr hp, c, T.kit x hx "TooMany" (by decide), _, rfl, a, _, _, _, _, rfl, ClsV.own _, .inr hp, c, T.kit x hx "NotSingle" (by decide), by show 3 ≤ sizeLine; decide, fun q3 m3 => ?_⟩
    refine ⟨p3, q3, _, _, rfl, rfl, by rw [upd_ne (ne_of_none upd_same m3)]; exact upd_same, upd_same, by show 9 + 3 ≤ sizeLine; decide, fun p4 n4 => ?_⟩
    refine ⟨_, rfl, _, rfl, a, _, _, _, _, rfl, ClsV.own _, .inr hp, c, T.kit x hx "NeedsMarks" (by decide), _, rfl, a, _, _, _, _, rfl, ClsV.own _, .inr hp, c, T.kit x hx "NothingToUndo" (by decide), by show 2 ≤ sizeLine; decide, fun q4 m4 => ?_⟩
    refine ⟨p4, q4, _, _, rfl, rfl, by rw [upd_ne (ne_of_none upd_same m4)]; exact upd_same, upd_same, by show 12 + 2 ≤ sizeLine; decide, fun p5 n5 => ?_⟩
    exact k _ p5 (Same.trans (Same.trans (Same.trans (Same.trans (Same.trans (Same.trans (Same.trans (Same.trans (same_upd n1) (same_upd m1)) (same_upd n2)) (same_upd m2)) (same_upd n3)) (same_upd m3)) (same_upd n4)) (same_upd m4)) (same_upd n5)) (Same.free (Same.trans (Same.trans (Same.trans (Same.trans (Same.trans (Same.trans (Same.trans (same_upd n1) (same_upd m1)) (same_upd n2)) (same_upd m2)) (same_upd n3)) (same_upd m3)) (same_upd n4)) (same_upd m4)) n5) upd_same
end
/-- taken(a): the call goes through | an error of a class over MarkError leaves it -/
def TTaken (K : PySem.W.Frag) : (XK → Hp → VK → Prop) → Hp → VK → Prop := fun tl H Q =>
  tl (fun cls d H' => ∃ x : Str, x ∈ ex15 ∧ cls = .ref (ga K x) ∧ d = none ∧ PySem.W.exmOne K cls (.ref (ga K "MarkError")) = some true ∧ Ans H' Q (flagsOf x)) H
    (fun _ H' => ([] : List V).length ≤ sizeLine ∧ ∀ p, H' p = none → Q (.ref p) (upd H' p (.lst [])))
/-- the suite: return flags(e) -/
def tSuite (K : PySem.W.Frag) : Addr → Value → Option Addr → TS := fun a cls d => tRet fun σ H Q => (∃ σ' : L2.St, σ = List.set σ' 1 (some (.ref a))) ∧ d = none ∧ ∃ x : Str, x ∈ ex15 ∧ cls = .ref (ga K x) ∧ Ans H Q (flagsOf x)
theorem taken_gives {X : Cx} (T : TE X.K X.mg) {q : Str} {g fF : Addr} {cdg : Value} {dF : FuncData} (hr : Room 3 X.A) (F : FnP X.K "_law_flags" s__law_flags fF dF) (gF : X.mg "_law_flags" = some (.ref fF)) :
    LamX.GivesTo X ["_law_call", "e"] "_law_taken" (defScope s__law_taken) g cdg (defBody s__law_taken) "_law_call" q (TTaken X.K) := by
  intro f c' s H Q tl act hc h
  have nd := sc__law_taken.nd
  have bF : Binds X.K dF ["_law_one"] [] := F.bindsN fun _ _ _ _ _ _ us hl => match us, hl with | [_], _ => rfl
  have hr2 : Room 2 (X.A.deeper (PyProof.Rows.envOfC "_law_taken" (defScope s__law_taken) s.heap.objs.size g cdg)) := hr.deeper _
  refine ⟨_, pss_cons (ps_try_as (X := (cxOf C8.CX0 X.prog X.w X.K X.mg X.base ["_law_call", "e"] "_law_taken" (defScope s__law_taken) g cdg X.A X.stack s H C8.E0).nox) (i := 1) (c := .ref (ga X.K "MarkError"))
      (tb := fun W D σ H => ∃ Ech : XK, (∀ cls d σ' H', Ech cls d H' → W cls d σ' H') ∧ σ[0]? = some (some (.ref f)) ∧ H c' = some (LamX.CodeO c' q) ∧ tl Ech H (fun _ H' => D.nx σ H'))
      (ts := tSuite X.K) (Wout := fun _ _ _ _ => False)
      rfl rfl nd rfl rfl ⟨rfl, by decide, .inl T.g_MarkError⟩ LamX.takes0 (fun W pn xe tk _ => ?_) (fun a oe cls d pn hz hf => ?_)) (pss_one (ps_ret (pe_lst pa_nil))), ?_⟩
  · refine ⟨fun pins s' σ H' D I h' => ?_⟩
    obtain ⟨Ech, hW, h1, h2, h3⟩ := h'
    exact (pss_one (ps_expr (act W pn xe Ech _ _ tk hW))).run pins s' σ H' D I ⟨h1, h2, h3⟩
  · refine pss_one (ps_ret ⟨fun pins s' σ H' Q' I h' => ?_⟩)
    obtain ⟨⟨σ0, e0⟩, rfl, x, hx, rfl, k⟩ := h'
    have hv : σ[1]? = some (some (.ref a)) := by
      have l : σ.length = 2 := I.len
      rw [e0] at l ⊢
      rw [List.length_set] at l
      rw [List.getElem?_set_self (by omega)]
    have G : FnPin X.prog X.w X.K X.mg X.base 1 fF dF ["_law_one"] (spFlagsPin X.K) := ok_flagsPin F T.toTX
    have hrh : L2H.RoomH 1 ((X.A.deeper (PyProof.Rows.envOfC "_law_taken" (defScope s__law_taken) s.heap.objs.size g cdg)).mark (some (.ref a))) :=
      ⟨by have := hr2.dp; show (X.A.deeper (PyProof.Rows.envOfC "_law_taken" (defScope s__law_taken) s.heap.objs.size g cdg)).depth + _ < _; omega,
        by have := hr2.un; show (X.A.deeper (PyProof.Rows.envOfC "_law_taken" (defScope s__law_taken) s.heap.objs.size g cdg)).units + _ < _; omega⟩
    exact (pe_callPin (X := (cxOf C8.CX0 X.prog X.w X.K X.mg X.base ["_law_call", "e"] "_law_taken" (defScope s__law_taken) g cdg X.A X.stack s H C8.E0).nox.suite a ((a, oe) :: pn)) (p := (a, oe)) G hrh List.mem_cons_self (x := "_law_flags") rfl gF F.kp bF (pa_cons (pv 1) pa_nil)).run pins s' σ H' Q' I ⟨_, hv, x, rfl, hx, hz, hf, k⟩
  · refine ⟨fun cls d H' => ∃ x : Str, x ∈ ex15 ∧ cls = .ref (ga X.K x) ∧ d = none ∧ PySem.W.exmOne X.K cls (.ref (ga X.K "MarkError")) = some true ∧ Ans H' Q (flagsOf x),
      fun cls d σ' H' hE => ?_, rfl, hc, ?_⟩
    · obtain ⟨x, hx, rfl, rfl, he, k⟩ := hE
      exact ⟨true, he, fun _ a na => ⟨⟨_, rfl⟩, rfl, x, hx, rfl, k⟩, fun z => by cases z⟩
    · exact h
end K0
-- FmZip
set_option maxRecDepth 100000
set_option maxHeartbeats 4000000
/-! zip of two texts, sign by sign. -/
namespace FM
open PySem PySem.Spec PyProof.Rows L2
def ItzS (x y : Str) : It :=
  ⟨fun i _ => i < min x.cps.size y.cps.size,
   fun i H v H' => ∃ T c d, v = .ref T ∧ H T = none ∧ H' = upd H T (.tup [.str ⟨#[c]⟩, .str ⟨#[d]⟩]) ∧ x.cps[i]? = some c ∧ y.cps[i]? = some d,
   fun i _ => min x.cps.size y.cps.size ≤ i⟩
/-- how zip(x, y) stands ahead of turn i -/
abbrev zsTn (x y : Str) (t u : Tok) (z TI TO i1 i2 : Addr) (i : Nat) (h : Heap) : Prop :=
  IsZip h z TI TO .none ∧ IsTupOf2 h TI (.ref i1) (.ref i2) ∧ (∃ a1 a2, IsTupOf2 h TO a1 a2) ∧
    h.IsStrIter i1 (strIterType x) x t i ∧ h.IsStrIter i2 (strIterType y) y u i ∧ i ≤ min x.cps.size y.cps.size
theorem turn_zipS {P : Program} {w : World} {K : PySem.W.Frag} {elts : List Expr} {kk : Nat} {tpos : Pos} {x y : Str} {t u : Tok} {z TI TO i1 i2 : Addr}
    (S : ZipSep2 z TI TO i1 i2 [i1] [i2]) :
    Turn P w K (.Tuple elts kk tpos) (ItzS x y) (z :: TI :: TO :: ([i1] ++ [i2])) z (zsTn x y t u z TI TO i1 i2) where
  mem := List.mem_cons_self
  obj := fun i h st b hb => by
    obtain ⟨h1, h2, ⟨a1, a2, h3⟩, ⟨o4, e4, _, d4⟩, ⟨o5, e5, _, d5⟩, _⟩ := st
    have q : b = z ∨ b = TI ∨ b = TO ∨ b = i1 ∨ b = i2 := by simpa using hb
    rcases q with q | q | q | q | q
    · subst q; exact ⟨_, h1, fun v e => nomatch e⟩
    · subst q; exact ⟨_, h2, fun v e => nomatch e⟩
    · subst q; exact ⟨_, h3, fun v e => nomatch e⟩
    · subst q; exact ⟨o4, e4, fun v e => by rw [d4] at e; cases e⟩
    · subst q; exact ⟨o5, e5, fun v e => by rw [d5] at e; cases e⟩
  keep := fun i h h' st k => by
    obtain ⟨h1, h2, ⟨a1, a2, h3⟩, ⟨o4, e4, d4⟩, ⟨o5, e5, d5⟩, hle⟩ := st
    exact ⟨k z (by simp) _ h1, k TI (by simp) _ h2, ⟨a1, a2, k TO (by simp) _ h3⟩, ⟨o4, k i1 (by simp) _ e4, d4⟩, ⟨o5, k i2 (by simp) _ e5, d5⟩, hle⟩
  item := by
    intro X hP hw hK hc i pins s σ H E I hf st hg
    subst hP hw hK
    obtain ⟨h1, h2, h3, h4, h5, hle⟩ := st
    have hgi : i < min x.cps.size y.cps.size := hg
    have hh : X.A.in1.handled = none := I.ok.hd hc
    have G := GoesN.zip2 (elts := elts) (x1 := kk) (pos := tpos) S (Draws.text (prog := X.prog) (w := X.w) hh i1 x t) (Draws.text (prog := X.prog) (w := X.w) hh i2 y u)
    have sub : ∀ b, b ∈ [z, TO, i1, i2] → b ∈ z :: TI :: TO :: ([i1] ++ [i2]) := G.sub
    have lt : ∀ b ∈ z :: TI :: TO :: ([i1] ++ [i2]), b < s.heap.objs.size := fun b hb => by
      obtain ⟨a1, a2, h3'⟩ := h3
      obtain ⟨o4, e4, _⟩ := h4
      obtain ⟨o5, e5, _⟩ := h5
      have q : b = z ∨ b = TI ∨ b = TO ∨ b = i1 ∨ b = i2 := by simpa using hb
      rcases q with q | q | q | q | q
      · subst q; exact Heap.lt_size h1
      · subst q; exact Heap.lt_size h2
      · subst q; exact Heap.lt_size h3'
      · subst q; exact Heap.lt_size e4
      · subst q; exact Heap.lt_size e5
    refine wpAny_mono (G.goes i s (fun v s2 => ∃ x1 H', Inv X pins σ H' s2 ∧ RelV x1 v ∧ (ItzS x y).yld i H x1 H' ∧ zsTn x y t u z TI TO i1 i2 (i + 1) s2.heap ∧ ∀ b ∈ z :: TI :: TO :: ([i1] ++ [i2]), H' b = none) E hg
      ⟨h1, h2, h3, h4, h5⟩ fun v h' tk hy st' kp _ => ?_) (fun r s1 hr => ?_) fun _ _ q => q
    · obtain ⟨T, v1, v2, rfl, hT, ⟨c, u1, hc1, rfl⟩, ⟨d, u2, hd1, rfl⟩, hTup⟩ := hy
      obtain ⟨o, e, oc, n, od⟩ := hTup
      have hn : H T = none := I.hok.fresh hT
      have new : ObjOk X.prog X.w (upd H T (.tup [.str ⟨#[c]⟩, .str ⟨#[d]⟩])) h' T (.tup [.str ⟨#[c]⟩, .str ⟨#[d]⟩]) :=
        ⟨by show 2 ≤ sizeLine; decide, [_, _], .cons ⟨u1, rfl⟩ (.cons ⟨u2, rfl⟩ .nil), ⟨o, e, oc, n, od⟩⟩
      have J : Inv X pins σ (upd H T (.tup [.str ⟨#[c]⟩, .str ⟨#[d]⟩])) { s with heap := h', toks := tk } :=
        I.turnedNew (ch := [z, TO, i1, i2]) kp (fun b hb => hf b (sub b hb)) hT new
      obtain ⟨g1, g2, g3, g4, g5⟩ := st'
      refine ⟨.ref T, _, J, rfl, ⟨T, c, d, rfl, hn, rfl, hc1, hd1⟩, ⟨g1, g2, g3, g4, g5, hgi⟩, fun b hb => ?_⟩
      rw [upd_ne (Nat.ne_of_lt (Nat.lt_of_lt_of_le (lt b hb) hT))]
      exact (hf b hb).1
    · obtain ⟨v, rfl, q⟩ := hr
      exact ⟨v, rfl, q⟩
  done := by
    intro X hP hw hK hc i pins s σ H E I hf st hg
    subst hP hw hK
    obtain ⟨h1, h2, h3, h4, h5, hle⟩ := st
    have hg' : min x.cps.size y.cps.size ≤ i := hg
    have ei : i = min x.cps.size y.cps.size := by omega
    subst ei
    have hh : X.A.in1.handled = none := I.ok.hd hc
    have G := GoesN.zip2 (elts := elts) (x1 := kk) (pos := tpos) S (Draws.text (prog := X.prog) (w := X.w) hh i1 x t) (Draws.text (prog := X.prog) (w := X.w) hh i2 y u)
    have sub : ∀ b, b ∈ [z, TO, i1, i2] → b ∈ z :: TI :: TO :: ([i1] ++ [i2]) := G.sub
    exact G.stops s (fun s1 => Inv X pins σ H s1) E ⟨h1, h2, h3, h4, h5⟩ fun h' tk kp _ => I.turnedL (ch := [z, TO, i1, i2]) kp fun b hb => hf b (sub b hb)
  self := fun A i s Q E st h => wpAny_pyIter_zip st.1 h
def iZipS (ta : TA) : TI := fun σ H R => ta σ H fun vs H1 => ∃ x y : Str, vs = [.str x, .str y] ∧ R (ItzS x y) H1
theorem pi_zipS {X : Cx} {e e2 : Expr} {ta : TA} {p pos tpos : Pos} {elts : List Expr} {kk : Nat} (hg : Gl X "zip") (hm : X.mg "zip" = none) (ha : PA X [e, e2] ta)
    (hs : starEach [e, e2] X.env = (false, eval e X.env) :: starEach [e2] X.env := by rfl) (hpl : (backTo pos (starEach [e2] X.env)).any (·.1) = false := by rfl) :
    PI X (.Tuple elts kk tpos) (.Call (.Name "zip" p) [e, e2] [] pos) (iZipS ta) := by
  refine ⟨fun pins s σ H R I h => Call_ (ld_blt I hg hm PyProof.Rows.boot_zip (PyProof.Rows.callWith_type1 (thn (ha.run pos pins s σ H _ I h) ?_) hs hpl))⟩
  rintro us s1 ⟨vs, H1, I1, r1, x, y, rfl, q⟩
  obtain ⟨u1, u2, rfl, ⟨t, rfl⟩, ⟨u, rfl⟩⟩ := vals2 r1
  have sep := zip_sep2 (N := s1.heap.objs.size) (fp1 := []) (fp2 := []) (fun b hb => nomatch hb) (fun b hb => nomatch hb)
  refine zip_begins2 (begins_text x t) (begins_text y u) trivial trivial fun h' hz hTI hTO g1 g2 hsz hk => wpAny_pyIter_zip hz ?_
  have I2 : Inv X pins σ H1 { s1 with heap := h' } := I1.kept (t' := s1.toks) hk
  refine ⟨_, _, _, _, H1, rfl, I2, turn_zipS (x := x) (y := y) (t := t) (u := u) sep, ⟨hz, hTI, ⟨_, _, hTO⟩, ⟨_, g1, rfl, rfl⟩, ⟨_, g2, rfl, rfl⟩, Nat.zero_le _⟩, fun c hc => ?_, q⟩
  have e' : c = s1.heap.objs.size + 4 ∨ c = s1.heap.objs.size + 2 ∨ c = s1.heap.objs.size + 3 ∨ c = s1.heap.objs.size ∨ c = s1.heap.objs.size + 1 := by simpa using hc
  have hle : s1.heap.objs.size ≤ c := by
    rcases e' with e' | e' | e' | e' | e'
    · rw [e']; exact Nat.le_add_right _ _
    · rw [e']; exact Nat.le_add_right _ _
    · rw [e']; exact Nat.le_add_right _ _
    · rw [e']; exact Nat.le_refl _
    · rw [e']; exact Nat.le_add_right _ _
  exact I1.fpOk hle (I1.hok.fresh hle)
end FM
-- K0Prog
set_option maxRecDepth 100000
set_option maxHeartbeats 4000000
namespace FM
open PySem L2
def alpha : Str := "abcdefghijklmnopqrstuvwxyz"
/-- a string of letters -/
def isWord (z : Str) : Bool := decide (Txt.stripChars z alpha = "")
/-- a value of another type -/
def NotTy (K : PySem.W.Frag) (H : Hp) (x : V) (T : String) : Prop := ∃ t, TyX K H x t ∧ PySem.W.kitOne K t (.type T) = some false
theorem ty_tup {K : PySem.W.Frag} {H : Hp} {a : Addr} {xs : List V} (h : SqT K H a xs) : TyX K H (.ref a) (.type "tuple") := by
  rcases h with (h | ⟨o, h⟩) | ⟨o, its, n, h, hc, _⟩
  · exact .base (.tup h)
  · exact .fTuple h
  · exact .kTuple h hc
theorem dec_strV (a b : Str) : decide (V.str a = V.str b) = decide (a = b) := by
  by_cases h : a = b
  · rw [h]; simp
  · rw [decide_eq_false h, decide_eq_false fun z => h (V.str.inj z)]
theorem dec_intV (a b : Int) : decide (V.int a = V.int b) = decide (a = b) := by
  by_cases h : a = b
  · rw [h]; simp
  · rw [decide_eq_false h, decide_eq_false fun z => h (V.int.inj z)]
theorem tyX_same {K : PySem.W.Frag} {H H' : Hp} {x : V} {t : Value} (S : Same H H') (h : TyX K H x t) : TyX K H' x t := by
  cases h with
  | base b =>
    refine .base ?_
    cases b with
    | non => exact .non
    | bl y => exact .bl y
    | int i => exact .int i
    | str y => exact .str y
    | flt y => exact .flt y
    | lst e => exact .lst (S _ _ e)
    | frz e => exact .frz (S _ _ e)
    | tup e => exact .tup (S _ _ e)
    | dK e => exact .dK (S _ _ e)
    | dT e => exact .dT (S _ _ e)
    | ins e cl ha hn htk hm => exact .ins (S _ _ e) cl ha hn htk hm
  | byt y => exact .byt y
  | set e => exact .set (S _ _ e)
  | kList e c => exact .kList e c
  | kTuple e c => exact .kTuple e c
  | kDict e c => exact .kDict e c
  | fTuple e => exact .fTuple (S _ _ e)
  | fDict e => exact .fDict (S _ _ e)
theorem notTy_same {K : PySem.W.Frag} {H H' : Hp} {x : V} {T : String} (S : Same H H') (h : NotTy K H x T) : NotTy K H' x T := by
  obtain ⟨t, h1, h2⟩ := h
  exact ⟨t, tyX_same S h1, h2⟩
/-- a value, and whether it is a word -/
def WordV (K : PySem.W.Frag) (H : Hp) (y : V) (b : Bool) : Prop := (∃ z : Str, y = .str z ∧ z.length ≤ sizeLine ∧ isWord z = b) ∨ (NotTy K H y "str" ∧ b = false)
theorem wordV_same {K : PySem.W.Frag} {H H' : Hp} {y : V} {b : Bool} (S : Same H H') (h : WordV K H y b) : WordV K H' y b := h.imp id fun ⟨h, e⟩ => ⟨notTy_same S h, e⟩
def apartS (a b : Str) : Bool := match a.cps.toList, b.cps.toList with
  | c :: _, d :: _ => !decide (c = d)
  | _, _ => true
def apartV : V → V → Bool
  | .str a, .str b => apartS a b
  | _, _ => false
def comLen : List Nat → List Nat → Nat
  | a :: as, b :: bs => if a = b then comLen as bs + 1 else 0
  | _, _ => 0
/-- a loop over zip of two texts -/
theorem for_zipS {x y : Str} {g : TG} {tb : TS} {D : Ends} {σ : L2.St} {H : Hp} (Pv : Nat → L2.St → Hp → Prop) (h0 : Pv 0 σ H)
    (hs : ∀ (i : Nat) (c d : Nat) (T : Addr) (σ : L2.St) (H : Hp), x.cps[i]? = some c → y.cps[i]? = some d → Pv i σ H → H T = none →
      g (.ref T) σ (upd H T (.tup [.str ⟨#[c]⟩, .str ⟨#[d]⟩])) fun σ2 H2 => tb { D with nx := Pv (i + 1), ct := Pv (i + 1), bk := D.nx } σ2 H2)
    (hd : ∀ σ H, Pv (min x.cps.size y.cps.size) σ H → D.nx σ H) :
    ∃ W : Nat → Nat → L2.St → Hp → Prop, (∃ m, W 0 m σ H) ∧ ∀ i m σ H, W i m σ H →
      ((ItzS x y).stop i H ∧ D.nx σ H) ∨ ((ItzS x y).go i H ∧ ∃ N : L2.St → Hp → Prop, (∀ σ' H', N σ' H' → ∃ m', m' < m ∧ W (i + 1) m' σ' H') ∧
        ∀ v H', (ItzS x y).yld i H v H' → g v σ H' fun σ2 H2 => tb { D with nx := N, ct := N, bk := D.nx } σ2 H2) := by
  refine ⟨fun i m σ H => m = min x.cps.size y.cps.size - i ∧ i ≤ min x.cps.size y.cps.size ∧ Pv i σ H, ⟨_, rfl, Nat.zero_le _, h0⟩, ?_⟩
  rintro i m σ H ⟨rfl, hi, p⟩
  by_cases lt : i < min x.cps.size y.cps.size
  · refine .inr ⟨lt, Pv (i + 1), fun σ' H' p' => ⟨_, ?_, rfl, lt, p'⟩, fun v H' y => ?_⟩
    · omega
    · obtain ⟨T, c, d, rfl, nT, rfl, hc, hd'⟩ := y
      exact hs i c d T σ H hc hd' p nT
  · have e : i = min x.cps.size y.cps.size := by omega
    subst e
    exact .inl ⟨Nat.le_refl _, hd σ H p⟩
theorem comLen_step : ∀ (i : Nat) (as bs : List Nat), (∀ j < i, as[j]? = bs[j]?) → i ≤ as.length → i ≤ bs.length → comLen as bs = i + comLen (as.drop i) (bs.drop i)
  | 0, as, bs, _, _, _ => by simp
  | i + 1, a :: as, b :: bs, h, h1, h2 => by
    have e : a = b := by simpa using h 0 (by omega)
    subst e
    have q := comLen_step i as bs (fun j hj => by simpa using h (j + 1) (by omega)) (by simpa using h1) (by simpa using h2)
    simp only [comLen, if_true, List.drop_succ_cons]
    omega
  | i + 1, [], _, _, h1, _ => by simp at h1
  | i + 1, _ :: _, [], _, _, h2 => by simp at h2
theorem comLen_stop {i : Nat} {as bs : List Nat} {a b : Nat} (h : ∀ j < i, as[j]? = bs[j]?) (ha : as[i]? = some a) (hb : bs[i]? = some b) (ne : a ≠ b) : comLen as bs = i := by
  obtain ⟨la, ea⟩ := List.getElem?_eq_some_iff.mp ha
  obtain ⟨lb, eb⟩ := List.getElem?_eq_some_iff.mp hb
  rw [comLen_step i as bs h (by omega) (by omega), List.drop_eq_getElem_cons la, List.drop_eq_getElem_cons lb, ea, eb]
  simp [comLen, ne]
theorem comLen_end {i : Nat} {as bs : List Nat} (h : ∀ j < i, as[j]? = bs[j]?) (hi : i = min as.length bs.length) : comLen as bs = i := by
  rw [comLen_step i as bs h (by omega) (by omega)]
  have : as.drop i = [] ∨ bs.drop i = [] := by
    rcases Nat.le_total as.length bs.length with q | q
    · exact .inl (List.drop_eq_nil_of_le (by omega))
    · exact .inr (List.drop_eq_nil_of_le (by omega))
  rcases this with q | q
  · rw [q]; simp [comLen]
  · rw [q]
    cases as.drop i <;> simp [comLen]
end FM
namespace K0
open PySem L2 FM He
/-- what the program's words ask of the top -/
structure TP (K : PySem.W.Frag) (mg : Str → Option Value) : Prop extends TE K mg where
  b_str : mg "str" = none
  b_tuple : mg "tuple" = none
  b_len : mg "len" = none
  b_all : mg "all" = none
  b_zip : mg "zip" = none
  b_min : mg "min" = none
  tyE : ∀ x ∈ mark9, PySem.W.typeIn K (.ref (ga K x)) = some (.type "type")
  c__ALPHABET : ∃ u, mg "_ALPHABET" = some u ∧ RelV (.str alpha) u
abbrev s_is_word : Stmt := top 27
theorem sc_is_word : FnScope ["value"] ["value"] (defScope s_is_word) := ⟨rfl, rfl, rfl, by decide +kernel, rfl, by decide +kernel, by decide +kernel⟩
abbrev s_is_tuple_of : Stmt := top 20
theorem sc_is_tuple_of : FnScope ["value", "many"] ["value", "many"] (defScope s_is_tuple_of) := ⟨rfl, rfl, rfl, by decide +kernel, rfl, by decide +kernel, by decide +kernel⟩
abbrev s_is_delay : Stmt := top 30
theorem sc_is_delay : FnScope ["value", "word"] ["value"] (defScope s_is_delay) := ⟨rfl, rfl, rfl, by decide +kernel, rfl, by decide +kernel, by decide +kernel⟩
abbrev s_is_letters : Stmt := top 29
theorem sc_is_letters : FnScope ["value"] ["value"] (defScope s_is_letters) := ⟨rfl, rfl, rfl, by decide +kernel, rfl, by decide +kernel, by decide +kernel⟩
abbrev s__check_word : Stmt := top 36
theorem sc__check_word : FnScope ["value"] ["value"] (defScope s__check_word) := ⟨rfl, rfl, rfl, by decide +kernel, rfl, by decide +kernel, by decide +kernel⟩
abbrev s__check_delay : Stmt := top 37
theorem sc__check_delay : FnScope ["value"] ["value"] (defScope s__check_delay) := ⟨rfl, rfl, rfl, by decide +kernel, rfl, by decide +kernel, by decide +kernel⟩
abbrev s_delay : Stmt := top 31
theorem sc_delay : FnScope ["word", "other"] ["word", "other"] (defScope s_delay) := ⟨rfl, rfl, rfl, by decide +kernel, rfl, by decide +kernel, by decide +kernel⟩
abbrev s_led_on : Stmt := top 32
theorem sc_led_on : FnScope ["delay", "word", "other"] ["delay", "word", "other"] (defScope s_led_on) := ⟨rfl, rfl, rfl, by decide +kernel, rfl, by decide +kernel, by decide +kernel⟩
abbrev s_left_over : Stmt := top 34
theorem sc_left_over : FnScope ["word", "other", "many"] ["word", "other"] (defScope s_left_over) := ⟨rfl, rfl, rfl, by decide +kernel, rfl, by decide +kernel, by decide +kernel⟩
abbrev s__shared : Stmt := top 35
theorem sc__shared : FnScope ["word", "other", "most", "many", "letter", "against"] ["word", "other"] (defScope s__shared) := ⟨rfl, rfl, rfl, by decide +kernel, rfl, by decide +kernel, by decide +kernel⟩
def spIsWord (K : PySem.W.Frag) : Sp := fun vs H Q _ => ∃ x : V, vs = [x] ∧ ((∃ z : Str, x = .str z ∧ z.length ≤ sizeLine ∧ Q (.bl (isWord z)) H) ∨ (NotTy K H x "str" ∧ Q (.bl false) H))
def spIsTupleOf (K : PySem.W.Frag) : Sp := fun vs H Q _ => ∃ (x : V) (n : Nat), vs = [x, .int n] ∧ ((∃ t xs, x = .ref t ∧ SqT K H t xs ∧ Q (.bl (decide (xs.length = n))) H) ∨ (NotTy K H x "tuple" ∧ Q (.bl false) H))
section
variable {P : Program} {w : World} {K : PySem.W.Frag} {mg : Str → Option Value} {base : Heap}
theorem ok_is_word {f : Addr} {fd : FuncData} (F : FnP K "is_word" s_is_word f fd) (T : TP K mg) : FnOk P w K mg base CX0 1 f fd ["value"] (spIsWord K) := by
  refine F.ok sc_is_word (fun vs H Q E h => ?_) (fun cdv A outer s H vs Q E hr h => ?_)
  · obtain ⟨x, rfl, _⟩ := h
    rfl
  · obtain ⟨x, rfl, h⟩ := h
    have nd := sc_is_word.nd
    refine ⟨_, PSs.nox (pss_one (ps_ret (pe_and (pe_callB call_isi (by rfl) T.b_isinstance (by decide +kernel) (pa_cons (pv 0) (pa_cons (pe_bltn (v := .ty "str") (by rfl) T.b_str (by decide +kernel) rfl) pa_nil))) (pe_one (pe_cmpR op_eq (pe_bm PySem.F.plainAttrs_str PySem.F.slot_str_strip PySem.F.type_str_strip mt_stripChars (pv 0) (pa_cons (C8.pe_gc (v := .str alpha) (by rfl) T.c__ALPHABET) pa_nil)) pe_str (nomark _)))))), ?_⟩
    rcases h with ⟨z, rfl, hz, k⟩ | ⟨⟨t, ht, hk⟩, k⟩
    · refine ⟨_, rfl, _, _, _, _, true, rfl, ClsV.ty _, .base (.str z), kit_ty (by decide +kernel), true, rfl, iteT ?_⟩
      refine ⟨_, rfl, rfl, _, _, rfl, rfl, hz, rfl, ?_⟩
      have e : (decide (V.str (Txt.stripChars z alpha) = V.str "")) = isWord z := dec_strV _ _
      rw [e]
      exact k
    · exact ⟨_, rfl, _, _, _, _, false, rfl, ClsV.ty _, ht, hk, false, rfl, iteF k⟩
theorem ok_is_tuple_of {f : Addr} {fd : FuncData} (F : FnP K "is_tuple_of" s_is_tuple_of f fd) (T : TP K mg) : FnOk P w K mg base CX0 1 f fd ["value", "many"] (spIsTupleOf K) := by
  refine F.ok sc_is_tuple_of (fun vs H Q E h => ?_) (fun cdv A outer s H vs Q E hr h => ?_)
  · obtain ⟨x, n, rfl, _⟩ := h
    rfl
  · obtain ⟨x, n, rfl, h⟩ := h
    have nd := sc_is_tuple_of.nd
    refine ⟨_, PSs.nox (pss_one (ps_ret (pe_and (pe_callB call_isi (by rfl) T.b_isinstance (by decide +kernel) (pa_cons (pv 0) (pa_cons (pe_bltn (v := .ty "tuple") (by rfl) T.b_tuple (by decide +kernel) rfl) pa_nil))) (pe_one (pe_cmpR op_eq (pe_callB call_len (by rfl) T.b_len (by decide +kernel) (pa_cons (pv 0) pa_nil)) (pv 1) (nomark _)))))), ?_⟩
    rcases h with ⟨t, xs, rfl, hs, k⟩ | ⟨⟨t, ht, hk⟩, k⟩
    · refine ⟨_, rfl, _, _, _, _, true, rfl, ClsV.ty _, ty_tup hs, kit_ty (by decide +kernel), true, rfl, iteT ?_⟩
      refine ⟨_, rfl, _, xs.length, rfl, .inr ⟨xs, hs, rfl⟩, _, rfl, rfl, ?_⟩
      have e : (decide (V.int (xs.length : Int) = V.int (n : Int))) = decide (xs.length = n) := by
        rw [dec_intV]
        exact decide_eq_decide.mpr Int.ofNat_inj
      rw [e]
      exact k
    · exact ⟨_, rfl, _, _, _, _, false, rfl, ClsV.ty _, ht, hk, false, rfl, iteF k⟩
theorem cutS_take (x : Str) {n : Nat} (h : n ≤ x.length) : cutS x none (some (n : Int)) = ⟨(x.cps.toList.take n).toArray⟩ := by
  have lx : x.cps.toList.length = x.length := by simp [Str.length]
  show (⟨((x.cps.toList.drop (HT.sIx x.length 0 none)).take (HT.sIx x.length x.length (some (n : Int)) - HT.sIx x.length 0 none)).toArray⟩ : Str) = _
  have e1 : HT.sIx x.length 0 none = 0 := rfl
  have e2 : HT.sIx x.length x.length (some (n : Int)) = n := by
    simp only [HT.sIx]
    have h0 : ¬ ((n : Int) < 0) := by omega
    simp [h0]
    omega
  rw [e1, e2, Nat.sub_zero, List.drop_zero]
theorem com_of_cut {x y : Str} {m : Nat} (hm : m = min x.length y.length) (e : cutS x none (some (m : Int)) = cutS y none (some (m : Int))) : comLen x.cps.toList y.cps.toList = m := by
  have lx : x.cps.toList.length = x.length := by simp [Str.length]
  have ly : y.cps.toList.length = y.length := by simp [Str.length]
  rw [cutS_take x (by omega), cutS_take y (by omega)] at e
  have e2 : x.cps.toList.take m = y.cps.toList.take m := by
    have := congrArg (fun s : Str => s.cps.toList) e
    simpa using this
  refine comLen_end (i := m) (fun j hj => ?_) (by omega)
  have := congrArg (fun l => l[j]?) e2
  simpa [List.getElem?_take_of_lt hj] using this
def spShared : Sp := fun vs H Q _ => ∃ x y : Str, vs = [.str x, .str y] ∧ x.length ≤ sizeLine ∧ y.length ≤ sizeLine ∧ ∀ H', Same H H' → Q (.int (comLen x.cps.toList y.cps.toList)) H'
theorem ok_shared {f : Addr} {fd : FuncData} (F : FnP K "_shared" s__shared f fd) (T : TP K mg) : FnOk P w K mg base CX0 1 f fd ["word", "other"] spShared := by
  refine F.ok sc__shared (fun vs H Q E h => ?_) (fun cdv A outer s H vs Q E hr h => ?_)
  · obtain ⟨x, y, rfl, _⟩ := h
    rfl
  · obtain ⟨x, y, rfl, hx, hy, k⟩ := h
    have nd := sc__shared.nd
    refine ⟨_, PSs.nox (pss_cons (ps_set (i := 2) nd rfl (.inl rfl) (pe_callB (call_min2 rfl) (by rfl) T.b_min (by decide +kernel) (pa_cons (pe_callB call_len (by rfl) T.b_len (by decide +kernel) (pa_cons (pv 0) pa_nil)) (pa_cons (pe_callB call_len (by rfl) T.b_len (by decide +kernel) (pa_cons (pv 1) pa_nil)) pa_nil))))
      (pss_cons (ps_if (pt_cmpR op_eq (pe_slice sl_str (pv 0) po_none (po_some (pv 2))) (pe_slice sl_str (pv 1) po_none (po_some (pv 2))) (nomark _)) (pss_one (ps_ret (pv 2))) pss_nil)
      (pss_cons (ps_set (i := 3) nd rfl (.inl rfl) pe_int)
      (pss_cons (ps_for PassesOwn.never rfl (pi_zipS (by rfl) T.b_zip (pa_cons (pv 0) (pa_cons (pv 1) pa_nil))) (pg_tup (by rfl) (pgs_cons (pg_name (i := 4) nd rfl (.inl rfl)) (pgs_cons (pg_name (i := 5) nd rfl (.inl rfl)) pgs_nil))) (pss_cons (ps_if (pt_cmpR op_ne (pv 4) (pv 5) (nomark _)) (pss_one (ps_ret (pv 3))) pss_nil)
      (pss_one (ps_aug (i := 3) nd rfl (.inl rfl) pe_int ip_add))))
      (pss_one (ps_ret (pv 3))))))), ?_⟩
    refine ⟨_, rfl, _, x.length, rfl, ⟨hx, rfl⟩, _, rfl, _, y.length, rfl, ⟨hy, rfl⟩, _, _, rfl, ?_⟩
    have em : (if ((y.length : Nat) : Int) < ((x.length : Nat) : Int) then ((y.length : Nat) : Int) else ((x.length : Nat) : Int)) = ((min x.length y.length : Nat) : Int) := by
      split <;> omega
    rw [em]
    refine ⟨_, rfl, _, rfl, _, rfl, x, rfl, hx, _, rfl, _, rfl, _, rfl, y, rfl, hy, rfl, _, rfl, ?_⟩
    rw [dec_strV]
    by_cases ec : cutS x none (some ((min x.length y.length : Nat) : Int)) = cutS y none (some ((min x.length y.length : Nat) : Int))
    · rw [decide_eq_true ec]
      refine iteT ⟨_, rfl, ?_⟩
      have := k _ (Same.refl H)
      rw [com_of_cut rfl ec] at this
      exact this
    rw [decide_eq_false ec]
    refine iteF ?_
    refine ⟨_, rfl, _, rfl, x, y, rfl, ?_⟩
    refine for_zipS (fun i σ H' => ∃ u v, σ = [some (.str x), some (.str y), some (.int (min x.length y.length : Nat)), some (.int (i : Nat)), u, v] ∧ Same H H' ∧ ∀ j < i, x.cps.toList[j]? = y.cps.toList[j]?) ⟨_, _, rfl, Same.refl _, fun j hj => absurd hj (Nat.not_lt_zero j)⟩ ?_ ?_
    · rintro i c d Tt σ H' hc hd ⟨u, v, rfl, S, hj⟩ nT
      have S2 := S.trans (same_upd (o := .tup [.str ⟨#[c]⟩, .str ⟨#[d]⟩]) nT)
      have hc' : x.cps.toList[i]? = some c := by simpa using hc
      have hd' : y.cps.toList[i]? = some d := by simpa using hd
      refine ⟨Tt, _, rfl, SqT.of upd_same, rfl, _, _, rfl, _, _, rfl, rfl, ?_⟩
      refine ⟨_, rfl, _, rfl, rfl, _, rfl, ?_⟩
      by_cases e : c = d
      · subst e
        rw [decide_eq_true rfl]
        refine iteF ?_
        refine ⟨_, rfl, _, _, rfl, rfl, ?_⟩
        refine ⟨_, _, rfl, S2, fun j hj2 => ?_⟩
        rcases Nat.lt_succ_iff_lt_or_eq.mp hj2 with q | q
        · exact hj j q
        · rw [q, hc', hd']
      · have ne : ¬ (V.str ⟨#[c]⟩ = V.str ⟨#[d]⟩) := fun q => e (by
          have := V.str.inj q
          simpa using this)
        rw [decide_eq_false ne]
        refine iteT ⟨_, rfl, ?_⟩
        have := k _ S2
        rw [comLen_stop hj hc' hd' e] at this
        exact this
    · rintro σ H' ⟨u, v, rfl, S, hj⟩
      refine ⟨_, rfl, ?_⟩
      have := k _ S
      rw [comLen_end hj (by simp)] at this
      exact this
/-- the delay of two words -/
def overL (x y : Str) : Str := cutS x (some (comLen x.cps.toList y.cps.toList : Nat)) none
def overR (x y : Str) : Str := cutS y (some (comLen x.cps.toList y.cps.toList : Nat)) none
def spLeftOver : Sp := fun vs H Q _ => ∃ x y : Str, vs = [.str x, .str y] ∧ x.length ≤ sizeLine ∧ y.length ≤ sizeLine ∧
  ∀ H' p, Same H H' → H p = none → H' p = some (.tup [.str (overL x y), .str (overR x y)]) → Q (.ref p) H'
theorem ok_left_over {f fS : Addr} {fd dS : FuncData} (F : FnP K "left_over" s_left_over f fd) (T : TP K mg) (F__shared : FnP K "_shared" s__shared fS dS) (gS : mg "_shared" = some (.ref fS)) :
    FnOk P w K mg base CX0 2 f fd ["word", "other"] spLeftOver := by
  have G__shared := ok_shared (P := P) (w := w) (base := base) F__shared T
  have b__shared : Binds K dS ["word", "other"] [] := F__shared.bindsN fun _ _ _ _ _ _ us hl => match us, hl with | [_, _], _ => rfl
  refine F.ok sc_left_over (fun vs H Q E h => ?_) (fun cdv A outer s H vs Q E hr h => ?_)
  · obtain ⟨x, y, rfl, _⟩ := h
    rfl
  · obtain ⟨x, y, rfl, hx, hy, k⟩ := h
    have nd := sc_left_over.nd
    refine ⟨_, PSs.nox (pss_cons (ps_set (i := 2) nd rfl (.inl rfl) (pe_call G__shared (hr.mono (by decide)) rfl gS F__shared.kp b__shared .nil pass0 (pa_cons (pv 0) (pa_cons (pv 1) pa_nil))))
      (pss_one (ps_ret (pe_tup (pa_cons (pe_slice sl_str (pv 0) (po_some (pv 2)) po_none) (pa_cons (pe_slice sl_str (pv 1) (po_some (pv 2)) po_none) pa_nil)))))), ?_⟩
    refine ⟨_, rfl, _, rfl, x, y, rfl, hx, hy, fun H1 S1 => ?_⟩
    refine ⟨_, rfl, ⟨_, rfl, _, rfl, x, rfl, hx, _, rfl, ⟨_, rfl, _, rfl, y, rfl, hy, by show 2 ≤ sizeLine; decide, fun p np => ?_⟩⟩⟩
    exact k _ p (S1.trans (same_upd np)) (S1.free np) upd_same
end
end K0
-- K0Prog2
set_option maxRecDepth 100000
set_option maxHeartbeats 4000000
namespace K0
open PySem L2 FM He
/-- is_delay's answer, of any value -/
def DelayV (K : PySem.W.Frag) (H : Hp) (x : V) (r : Bool) : Prop :=
  (NotTy K H x "tuple" ∧ r = false) ∨ (∃ t xs, x = .ref t ∧ SqT K H t xs ∧ xs.length ≠ 2 ∧ r = false) ∨
  (∃ t y1 y2 b1 b2, x = .ref t ∧ SqT K H t [y1, y2] ∧ WordV K H y1 b1 ∧ WordV K H y2 b2 ∧ r = (b1 && b2 && apartV y1 y2))
def spIsDelay (K : PySem.W.Frag) : Sp := fun vs H Q _ => ∃ (x : V) (r : Bool), vs = [x] ∧ DelayV K H x r ∧ ∀ H', Same H H' → Q (.bl r) H'
section
variable {P : Program} {w : World} {K : PySem.W.Frag} {mg : Str → Option Value} {base : Heap}
theorem ok_is_delay {f fW fT : Addr} {fd dW dT : FuncData} (F : FnP K "is_delay" s_is_delay f fd) (T : TP K mg) (F_is_word : FnP K "is_word" s_is_word fW dW) (F_is_tuple_of : FnP K "is_tuple_of" s_is_tuple_of fT dT)
    (gW : mg "is_word" = some (.ref fW)) (gT : mg "is_tuple_of" = some (.ref fT)) : FnOk P w K mg base CX0 2 f fd ["value"] (spIsDelay K) := by
  have G_is_word : FnOk P w K mg base CX0 1 fW dW _ _ := ok_is_word F_is_word T
  have G_is_tuple_of : FnOk P w K mg base CX0 1 fT dT _ _ := ok_is_tuple_of F_is_tuple_of T
  have b_is_word : Binds K dW ["value"] [] := F_is_word.bindsN fun _ _ _ _ _ _ us hl => match us, hl with | [_], _ => rfl
  have b_is_tuple_of : Binds K dT ["value", "many"] [] := F_is_tuple_of.bindsN fun _ _ _ _ _ _ us hl => match us, hl with | [_, _], _ => rfl
  refine F.ok sc_is_delay (fun vs H Q E h => ?_) (fun cdv A outer s H vs Q E hr h => ?_)
  · obtain ⟨x, r, rfl, _⟩ := h
    rfl
  · obtain ⟨x, r, rfl, hd, k⟩ := h
    have nd := sc_is_delay.nd
    refine ⟨_, PSs.nox (pss_cons (ps_if (PW.pt (pw_or (pt_not (pt_val (pe_call G_is_tuple_of (hr.mono (by decide)) rfl gT F_is_tuple_of.kp b_is_tuple_of .nil pass0 (pa_cons (pv 0) (pa_cons pe_int pa_nil))))) (pw_or1 (pt_not (pt_val (pe_callB (cr_all rfl) (by rfl) T.b_all (by decide +kernel) (pa_cons (pe_lc (own := [("word", 1)]) rfl nd (pi_tup (pv 0)) (blkOk_by (own := [("word", 1)]) (N := ["value", "word"]) (sc := defScope s_is_delay) (by decide +kernel)) (fun _ _ _ _ _ => (pg_name (i := 1) nd rfl (.inl rfl))) (fun _ _ _ _ _ => pts_nil) (fun _ _ _ _ _ => (pe_call G_is_word (hr.mono (by decide)) rfl gW F_is_word.kp b_is_word .nil pass0 (pa_cons (pv 1) pa_nil)))) pa_nil))))))) (pss_one (ps_ret pe_bl)) pss_nil)
      (pss_one (ps_ret (pe_or (pe_cmpR op_eq (pe_ix ix_seq (pv 0) pe_int (fun _ _ => rfl)) pe_str (nomark _)) (pe_or (pe_cmpR op_eq (pe_ix ix_seq (pv 0) pe_int (fun _ _ => rfl)) pe_str (nomark _)) (pe_one (pe_cmpR op_ne (pe_ix ix_seq (pe_ix ix_seq (pv 0) pe_int (fun _ _ => rfl)) pe_int (fun _ _ => rfl)) (pe_ix ix_seq (pe_ix ix_seq (pv 0) pe_int (fun _ _ => rfl)) pe_int (fun _ _ => rfl)) (nomark _)))))))), ?_⟩
    rcases hd with ⟨hn, rfl⟩ | ⟨t, xs, rfl, ht, hl, rfl⟩ | ⟨t, y1, y2, b1, b2, rfl, ht, h1, h2, rfl⟩
    · exact ⟨_, rfl, x, 2, rfl, .inr ⟨hn, false, rfl, iteT (iteT (k H (Same.refl H)))⟩⟩
    · exact ⟨_, rfl, _, 2, rfl, .inl ⟨t, xs, rfl, ht, _, rfl, by rw [decide_eq_false hl]; exact iteT (iteT (k H (Same.refl H)))⟩⟩
    · refine ⟨_, rfl, _, 2, rfl, .inl ⟨t, _, rfl, ht, true, rfl, iteF ?_⟩⟩
      refine ⟨_, rfl, t, rfl, ⟨_, ht⟩, fun D nD => ?_⟩
      refine lc_tup (xs := [y1, y2]) (K := K) (fun i H' => Same H H' ∧ H' D = some (.lst (([b1, b2].take i).map V.bl))) ⟨same_upd nD, upd_same⟩ (fun i H' _ h => sqT_same h.1 ht) (fun i x H' hx hP => ?_) (fun H' hP => ?_)
      · obtain ⟨S, hD⟩ := hP
        have hw : ∃ b, WordV K H' x b ∧ ([b1, b2].take (i + 1)) = ([b1, b2].take i) ++ [b] := by
          match i, hx with
          | 0, hx => cases hx; exact ⟨b1, wordV_same S h1, rfl⟩
          | 1, hx => cases hx; exact ⟨b2, wordV_same S h2, rfl⟩
        obtain ⟨b, hb, eb⟩ := hw
        have fin : ∃ acc, H' D = some (.lst acc) ∧ acc.length < sizeLine ∧ (Same H (upd H' D (.lst (acc ++ [.bl b]))) ∧ (upd H' D (.lst (acc ++ [.bl b]))) D = some (.lst (([b1, b2].take (i + 1)).map V.bl))) := by
          refine ⟨_, hD, ?_, fun c o hc => ?_, ?_⟩
          · rw [List.length_map, List.length_take]
            have : sizeLine = 16777216 := sizeLine_eq
            simp
            omega
          · rw [upd_ne (ne_of_none hc nD)]
            exact S _ _ hc
          · rw [upd_same, eb, List.map_append]
            rfl
        refine ⟨rfl, _, rfl, x, rfl, ?_⟩
        rcases hb with ⟨z, rfl, hz, e⟩ | ⟨hn, e⟩
        · rw [← e] at fin
          exact .inl ⟨z, rfl, hz, fin⟩
        · rw [e] at fin
          exact .inr ⟨hn, fin⟩
      · obtain ⟨S, hD⟩ := hP
        refine ⟨D, [b1, b2], rfl, SqL.of hD, _, rfl, ?_⟩
        have ht' : SqT K H' t [y1, y2] := sqT_same S ht
        have ea : ([b1, b2].all id) = (b1 && b2) := by simp
        rw [ea]
        cases hb : (b1 && b2) with
        | false => exact iteT (by have := k H' S; rw [hb] at this; exact this)
        | true =>
          refine iteF ?_
          obtain ⟨rfl, rfl⟩ : b1 = true ∧ b2 = true := by simpa using hb
          obtain ⟨z1, rfl, hz1, _⟩ : ∃ z : Str, y1 = .str z ∧ z.length ≤ sizeLine ∧ isWord z = true := by
            rcases h1 with h | ⟨_, h⟩
            · exact h
            · cases h
          obtain ⟨z2, rfl, hz2, _⟩ : ∃ z : Str, y2 = .str z ∧ z.length ≤ sizeLine ∧ isWord z = true := by
            rcases h2 with h | ⟨_, h⟩
            · exact h
            · cases h
          have k' := k H' S
          rw [Bool.true_and, Bool.true_and] at k'
          have at0 : atI ([V.str z1, V.str z2] : List V) 0 = some (.str z1) := rfl
          have at1 : atI ([V.str z1, V.str z2] : List V) 1 = some (.str z2) := rfl
          refine ⟨_, rfl, .inr (.inl ⟨t, _, 0, _, rfl, rfl, ht', at0, rfl, _, rfl, ?_⟩)⟩
          rw [dec_strV]
          by_cases e1 : z1 = ""
          · rw [decide_eq_true e1]
            refine iteT ?_
            have : apartV (.str z1) (.str z2) = true := by rw [e1]; rfl
            rw [this] at k'
            exact k'
          · rw [decide_eq_false e1]
            refine iteF ⟨_, rfl, .inr (.inl ⟨t, _, 1, _, rfl, rfl, ht', at1, rfl, _, rfl, ?_⟩)⟩
            rw [dec_strV]
            by_cases e2 : z2 = ""
            · rw [decide_eq_true e2]
              refine iteT ?_
              have : apartV (.str z1) (.str z2) = true := by
                rw [e2]
                show apartS z1 "" = true
                unfold apartS
                cases z1.cps.toList <;> rfl
              rw [this] at k'
              exact k'
            · rw [decide_eq_false e2]
              refine iteF ?_
              obtain ⟨c, cs, ec⟩ : ∃ c cs, z1.cps.toList = c :: cs := by
                cases hq : z1.cps.toList with
                | nil => exact absurd (by cases z1; simp at hq; subst hq; rfl) e1
                | cons c cs => exact ⟨c, cs, rfl⟩
              obtain ⟨d, ds, ed⟩ : ∃ c cs, z2.cps.toList = c :: cs := by
                cases hq : z2.cps.toList with
                | nil => exact absurd (by cases z2; simp at hq; subst hq; rfl) e2
                | cons c cs => exact ⟨c, cs, rfl⟩
              have ac : atI z1.cps.toList 0 = some c := by rw [ec]; exact atI_nat (j := 0) rfl
              have ad : atI z2.cps.toList 0 = some d := by rw [ed]; exact atI_nat (j := 0) rfl
              refine ⟨_, rfl, .inr (.inl ⟨t, _, 0, _, rfl, rfl, ht', at0, .inr (.inr ⟨z1, 0, c, rfl, rfl, hz1, ac, ?_⟩)⟩)⟩
              refine ⟨_, rfl, .inr (.inl ⟨t, _, 1, _, rfl, rfl, ht', at1, .inr (.inr ⟨z2, 0, d, rfl, rfl, hz2, ad, rfl, ?_⟩)⟩)⟩
              have e3 : apartV (.str z1) (.str z2) = !decide (V.str ⟨#[c]⟩ = V.str ⟨#[d]⟩) := by
                show apartS z1 z2 = _
                unfold apartS
                rw [ec, ed, dec_strV]
                by_cases q : c = d
                · rw [q]; simp
                · simp [q]
              rw [e3] at k'
              exact k'
end
end K0
-- K0Prog3
set_option maxRecDepth 100000
set_option maxHeartbeats 4000000
namespace K0
open PySem L2 FM He
structure TR (K : PySem.W.Frag) (mg : Str → Option Value) : Prop extends TP K mg where
  subE : ∀ x ∈ mark9, PySem.W.subIn K (.ref (ga K x)) (.type "BaseException") = some true
  c__MOST_LETTERS : ∃ u, mg "_MOST_LETTERS" = some u ∧ RelV (.int 4) u
abbrev s_Rewriter___init__ : Stmt := inClass (top 90) 0
theorem sc_Rewriter___init__ : FnScope ["self", "letters", "starts", "edges", "ends", "useful", "edge", "state"] ["self", "letters", "starts", "edges", "ends"] (defScope s_Rewriter___init__) := ⟨rfl, rfl, rfl, by decide +kernel, rfl, by decide +kernel, by decide +kernel⟩
def spChkWord (K : PySem.W.Frag) : Sp := fun vs H Q E => ∃ (x : V) (b : Bool), vs = [x] ∧ WordV K H x b ∧ (b = true → Q .non H) ∧ (b = false → E (.ref (ga K "InvalidText")) none H)
def spChkDelay (K : PySem.W.Frag) : Sp := fun vs H Q E => ∃ (x : V) (r : Bool), vs = [x] ∧ DelayV K H x r ∧ ∀ H', Same H H' → (r = true → Q .non H') ∧ (r = false → E (.ref (ga K "InvalidOperation")) none H')
def spDelay (K : PySem.W.Frag) : Sp := fun vs H Q E => ∃ (x y : V), vs = [x, y] ∧
  ((WordV K H x false ∧ E (.ref (ga K "InvalidText")) none H) ∨ (WordV K H x true ∧ WordV K H y false ∧ E (.ref (ga K "InvalidText")) none H) ∨
    (∃ z u : Str, x = .str z ∧ y = .str u ∧ z.length ≤ sizeLine ∧ u.length ≤ sizeLine ∧ isWord z = true ∧ isWord u = true ∧
      ∀ H' p, Same H H' → H p = none → H' p = some (.tup [.str (overL z u), .str (overR z u)]) → Q (.ref p) H'))
section
variable {P : Program} {w : World} {K : PySem.W.Frag} {mg : Str → Option Value} {base : Heap}
theorem ok_check_word {f fW : Addr} {fd dW : FuncData} (F : FnP K "_check_word" s__check_word f fd) (T : TR K mg) (F_is_word : FnP K "is_word" s_is_word fW dW) (gW : mg "is_word" = some (.ref fW)) :
    FnOk P w K mg base (L2.CX P w) 2 f fd ["value"] (spChkWord K) := by
  have G_is_word : FnOk P w K mg base CX0 1 fW dW _ _ := ok_is_word F_is_word T.toTP
  have b_is_word : Binds K dW ["value"] [] := F_is_word.bindsN fun _ _ _ _ _ _ us hl => match us, hl with | [_], _ => rfl
  refine F.ok sc__check_word (fun vs H Q E h => ?_) (fun cdv A outer s H vs Q E hr h => ?_)
  · obtain ⟨x, b, rfl, _⟩ := h
    rfl
  · obtain ⟨x, b, rfl, hw, k1, k2⟩ := h
    have nd := sc__check_word.nd
    refine ⟨_, (pss_one (ps_if (pt_not (pt_val (pe_call G_is_word (hr.mono (by decide)) rfl gW F_is_word.kp b_is_word .nil pass0 (pa_cons (pv 0) pa_nil)))) (pss_one (ps_raise rfl (takes_of rfl rfl rfl rfl) (pmk_own PySem.F.excBase_ValueError (T.exI "InvalidText" (by decide)).1 T.g_InvalidText (T.exI "InvalidText" (by decide)).2 (raises_own (T.subE "InvalidText" (by decide)) (T.tyE "InvalidText" (by decide))) rfl))) pss_nil)), ?_⟩
    rcases hw with ⟨z, rfl, hz, e⟩ | ⟨hn, rfl⟩
    · refine ⟨_, rfl, _, rfl, .inl ⟨z, rfl, hz, ?_⟩⟩
      rw [e]
      cases b
      · exact ⟨_, rfl, iteT (k2 rfl)⟩
      · exact ⟨_, rfl, iteF (k1 rfl)⟩
    · exact ⟨_, rfl, _, rfl, .inr ⟨hn, ⟨_, rfl, iteT (k2 rfl)⟩⟩⟩
theorem ok_check_delay {f fD fW fT : Addr} {fd dD dW dT : FuncData} (F : FnP K "_check_delay" s__check_delay f fd) (T : TR K mg) (F_is_delay : FnP K "is_delay" s_is_delay fD dD) (F_is_word : FnP K "is_word" s_is_word fW dW) (F_is_tuple_of : FnP K "is_tuple_of" s_is_tuple_of fT dT)
    (gW : mg "is_word" = some (.ref fW)) (gT : mg "is_tuple_of" = some (.ref fT)) (gD : mg "is_delay" = some (.ref fD)) :
    FnOk P w K mg base (L2.CX P w) 3 f fd ["value"] (spChkDelay K) := by
  have G_is_delay : FnOk P w K mg base CX0 2 fD dD _ _ := ok_is_delay F_is_delay T.toTP F_is_word F_is_tuple_of gW gT
  have b_is_delay : Binds K dD ["value"] [] := F_is_delay.bindsN fun _ _ _ _ _ _ us hl => match us, hl with | [_], _ => rfl
  refine F.ok sc__check_delay (fun vs H Q E h => ?_) (fun cdv A outer s H vs Q E hr h => ?_)
  · obtain ⟨x, b, rfl, _⟩ := h
    rfl
  · obtain ⟨x, b, rfl, hw, k⟩ := h
    have nd := sc__check_delay.nd
    refine ⟨_, (pss_one (ps_if (pt_not (pt_val (pe_call G_is_delay (hr.mono (by decide)) rfl gD F_is_delay.kp b_is_delay .nil pass0 (pa_cons (pv 0) pa_nil)))) (pss_one (ps_raise rfl (takes_of rfl rfl rfl rfl) (pmk_own PySem.F.excBase_ValueError (T.exI "InvalidOperation" (by decide)).1 T.g_InvalidOperation (T.exI "InvalidOperation" (by decide)).2 (raises_own (T.subE "InvalidOperation" (by decide)) (T.tyE "InvalidOperation" (by decide))) rfl))) pss_nil)), ?_⟩
    refine ⟨_, rfl, x, b, rfl, hw, fun H' S => ?_⟩
    cases b
    · exact ⟨_, rfl, iteT ((k H' S).2 rfl)⟩
    · exact ⟨_, rfl, iteF ((k H' S).1 rfl)⟩
theorem ok_delay {f fC fW fL fS : Addr} {fd dC dW dL dS : FuncData} (F : FnP K "delay" s_delay f fd) (T : TR K mg) (F__check_word : FnP K "_check_word" s__check_word fC dC) (F_is_word : FnP K "is_word" s_is_word fW dW)
    (F_left_over : FnP K "left_over" s_left_over fL dL) (F__shared : FnP K "_shared" s__shared fS dS)
    (gW : mg "is_word" = some (.ref fW)) (gC : mg "_check_word" = some (.ref fC)) (gL : mg "left_over" = some (.ref fL)) (gS : mg "_shared" = some (.ref fS)) :
    FnOk P w K mg base (L2.CX P w) 3 f fd ["word", "other"] (spDelay K) := by
  have G__check_word : FnOk P w K mg base (L2.CX P w) 2 fC dC _ _ := ok_check_word F__check_word T F_is_word gW
  have b__check_word : Binds K dC ["value"] [] := F__check_word.bindsN fun _ _ _ _ _ _ us hl => match us, hl with | [_], _ => rfl
  have G_left_over : FnOk P w K mg base CX0 2 fL dL _ _ := ok_left_over F_left_over T.toTP F__shared gS
  have b_left_over : Binds K dL ["word", "other"] [] := F_left_over.bindsN fun _ _ _ _ _ _ us hl => match us, hl with | [_, _], _ => rfl
  refine F.ok sc_delay (fun vs H Q E h => ?_) (fun cdv A outer s H vs Q E hr h => ?_)
  · obtain ⟨x, y, rfl, _⟩ := h
    rfl
  · obtain ⟨x, y, rfl, h⟩ := h
    have nd := sc_delay.nd
    refine ⟨_, (pss_cons (ps_expr (pe_call G__check_word (hr.mono (by decide)) rfl gC F__check_word.kp b__check_word .nil (passes_call (takes_of rfl rfl rfl rfl) (fun _ _ _ _ h => h)) (pa_cons (pv 0) pa_nil)))
      (pss_cons (ps_expr (pe_call G__check_word (hr.mono (by decide)) rfl gC F__check_word.kp b__check_word .nil (passes_call (takes_of rfl rfl rfl rfl) (fun _ _ _ _ h => h)) (pa_cons (pv 1) pa_nil)))
      (pss_one (ps_ret (pe_call G_left_over (hr.mono (by decide)) rfl gL F_left_over.kp b_left_over .nil pass0 (pa_cons (pv 0) (pa_cons (pv 1) pa_nil))))))), ?_⟩
    rcases h with ⟨hx, k⟩ | ⟨hx, hy, k⟩ | ⟨z, u, rfl, rfl, hz, hu, hz2, hu2, k⟩
    · exact ⟨_, rfl, x, false, rfl, hx, Bool.noConfusion, fun _ => k⟩
    · exact ⟨_, rfl, x, true, rfl, hx, fun _ => ⟨_, rfl, y, false, rfl, hy, Bool.noConfusion, fun _ => k⟩, Bool.noConfusion⟩
    · refine ⟨_, rfl, _, true, rfl, .inl ⟨z, rfl, hz, hz2⟩, fun _ => ⟨_, rfl, _, true, rfl, .inl ⟨u, rfl, hu, hu2⟩, fun _ => ?_, Bool.noConfusion⟩, Bool.noConfusion⟩
      exact ⟨_, rfl, _, rfl, z, u, rfl, hz, hu, k⟩
theorem ok_led_on {f fE fD fW fT : Addr} {fd dE dD dW dT : FuncData} (F : FnP K "led_on" s_led_on f fd) (T : TR K mg) (F__check_delay : FnP K "_check_delay" s__check_delay fE dE) (F_is_delay : FnP K "is_delay" s_is_delay fD dD) (F_is_word : FnP K "is_word" s_is_word fW dW) (F_is_tuple_of : FnP K "is_tuple_of" s_is_tuple_of fT dT)
    (gW : mg "is_word" = some (.ref fW)) (gT : mg "is_tuple_of" = some (.ref fT)) (gD : mg "is_delay" = some (.ref fD)) (gE : mg "_check_delay" = some (.ref fE)) :
    FnOk P w K mg base (L2.CX P w) 4 f fd ["delay", "word", "other"] (fun vs H _ E => ∃ x y z : V, vs = [x, y, z] ∧ DelayV K H x false ∧ ∀ H', Same H H' → E (.ref (ga K "InvalidOperation")) none H') := by
  have G__check_delay : FnOk P w K mg base (L2.CX P w) 3 fE dE _ _ := ok_check_delay F__check_delay T F_is_delay F_is_word F_is_tuple_of gW gT gD
  have b__check_delay : Binds K dE ["value"] [] := F__check_delay.bindsN fun _ _ _ _ _ _ us hl => match us, hl with | [_], _ => rfl
  refine F.ok sc_led_on (fun vs H Q E h => ?_) (fun cdv A outer s H vs Q E hr h => ?_)
  · obtain ⟨x, y, z, rfl, _⟩ := h
    rfl
  · obtain ⟨x, y, z, rfl, hx, k⟩ := h
    have nd := sc_led_on.nd
    refine ⟨_, (pss_cons (ps_expr (pe_call G__check_delay (hr.mono (by decide)) rfl gE F__check_delay.kp b__check_delay .nil (passes_call (takes_of rfl rfl rfl rfl) (fun _ _ _ _ h => h)) (pa_cons (pv 0) pa_nil)))
      pss_never), ?_⟩
    exact ⟨_, rfl, x, false, rfl, hx, fun H' S => ⟨Bool.noConfusion, fun _ => k H' S⟩⟩
theorem ok_is_letters {f fW : Addr} {fd dW : FuncData} (F : FnP K "is_letters" s_is_letters f fd) (T : TR K mg) (F_is_word : FnP K "is_word" s_is_word fW dW) (gW : mg "is_word" = some (.ref fW)) :
    FnOk P w K mg base CX0 2 f fd ["value"] (fun vs H Q _ => ∃ x : V, vs = [x] ∧ WordV K H x false ∧ Q (.bl false) H) := by
  have G_is_word : FnOk P w K mg base CX0 1 fW dW _ _ := ok_is_word F_is_word T.toTP
  have b_is_word : Binds K dW ["value"] [] := F_is_word.bindsN fun _ _ _ _ _ _ us hl => match us, hl with | [_], _ => rfl
  refine F.ok sc_is_letters (fun vs H Q E h => ?_) (fun cdv A outer s H vs Q E hr h => ?_)
  · obtain ⟨x, rfl, _⟩ := h
    rfl
  · obtain ⟨x, rfl, hw, k⟩ := h
    have nd := sc_is_letters.nd
    refine ⟨_, PSs.nox (pss_cons (ps_if (PW.pt (pw_or (pt_not (pt_val (pe_call G_is_word (hr.mono (by decide)) rfl gW F_is_word.kp b_is_word .nil pass0 (pa_cons (pv 0) pa_nil)))) (pw_or1 (pt_not (pt_chain op_le op_le pe_int (pe_callB call_len (by rfl) T.b_len (by decide +kernel) (pa_cons (pv 0) pa_nil)) (C8.pe_gc (v := .int 4) (by rfl) T.c__MOST_LETTERS)))))) (pss_one (ps_ret pe_bl)) pss_nil)
      pss_never), ?_⟩
    rcases hw with ⟨z, rfl, hz, e⟩ | ⟨hn, _⟩
    · exact ⟨_, rfl, _, rfl, .inl ⟨z, rfl, hz, by rw [e]; exact ⟨_, rfl, iteT (iteT k)⟩⟩⟩
    · exact ⟨_, rfl, _, rfl, .inr ⟨hn, ⟨_, rfl, iteT (iteT k)⟩⟩⟩
theorem ok_Rewriter {f fI fW : Addr} {fd dI dW : FuncData} (F : FnQ K "Rewriter.__init__" s_Rewriter___init__ f fd) (T : TR K mg) (F_is_letters : FnP K "is_letters" s_is_letters fI dI) (F_is_word : FnP K "is_word" s_is_word fW dW) (gW : mg "is_word" = some (.ref fW)) (gI : mg "is_letters" = some (.ref fI)) :
    FnOk P w K mg base (L2.CX P w) 3 f fd ["self", "letters", "starts", "edges", "ends"] (fun vs H _ E => ∃ a x y z u : V, vs = [a, x, y, z, u] ∧ WordV K H x false ∧ E (.ref (ga K "InvalidRewriter")) none H) := by
  have G_is_letters : FnOk P w K mg base CX0 2 fI dI _ _ := ok_is_letters F_is_letters T F_is_word gW
  have b_is_letters : Binds K dI ["value"] [] := F_is_letters.bindsN fun _ _ _ _ _ _ us hl => match us, hl with | [_], _ => rfl
  refine F.ok sc_Rewriter___init__ (fun vs H Q E h => ?_) (fun cdv A outer s H vs Q E hr h => ?_)
  · obtain ⟨a, x, y, z, u, rfl, _⟩ := h
    rfl
  · obtain ⟨a, x, y, z, u, rfl, hw, k⟩ := h
    have nd := sc_Rewriter___init__.nd
    refine ⟨_, (pss_cons (ps_if (pt_not (pt_val (pe_call G_is_letters (hr.mono (by decide)) rfl gI F_is_letters.kp b_is_letters .nil pass0 (pa_cons (pv 1) pa_nil)))) (pss_one (ps_raise rfl (takes_of rfl rfl rfl rfl) (pmk_own PySem.F.excBase_ValueError (T.exI "InvalidRewriter" (by decide)).1 T.g_InvalidRewriter (T.exI "InvalidRewriter" (by decide)).2 (raises_own (T.subE "InvalidRewriter" (by decide)) (T.tyE "InvalidRewriter" (by decide))) rfl))) pss_nil)
      pss_never), ?_⟩
    exact ⟨_, rfl, x, rfl, hw, ⟨_, rfl, iteT k⟩⟩
end
end K0
-- K0Bag
set_option maxRecDepth 100000
set_option maxHeartbeats 4000000
namespace K0
open PySem L2 FM He
abbrev sThrow : Stmt := top 99
abbrev sStart : Stmt := top 98
abbrev sPick : Stmt := top 100
theorem scThrow : FnScope ["_law_bag", "_law_total", "_law_found", "_law_one", "_law_two"] ["_law_bag", "_law_total"] (defScope sThrow) := ⟨rfl, rfl, rfl, by decide +kernel, rfl, by decide +kernel, by decide +kernel⟩
theorem scPick : FnScope ["_law_bag", "_law_items"] ["_law_bag", "_law_items"] (defScope sPick) := ⟨rfl, rfl, rfl, by decide +kernel, rfl, by decide +kernel, by decide +kernel⟩
theorem scStart : FnScope ["_law_script", "_law_at", "_law_cell", "_law_great", "_law_mixed"] ["_law_script", "_law_at"] (defScope sStart) := ⟨rfl, rfl, rfl, by decide +kernel, rfl, by decide +kernel, by decide +kernel⟩
/-- the bag at a: three ints -/
abbrev bagO (g s c : Int) : HO := .lst [.int g, .int s, .int c]
def spThrow : Sp := fun vs H Q _ => ∃ (a : Addr) (g s c t : Int), vs = [.ref a, .int t] ∧ H a = some (bagO g s c) ∧ 0 < t ∧ t < 1073741824 ∧
  ∀ r g' c', 0 ≤ r → r < t → Q (.int r) (upd H a (bagO g' s c'))
structure TB (mg : Str → Option Value) : Prop where
  int : mg "int" = none
  len : mg "len" = none
  abs : mg "abs" = none
  max : mg "max" = none
/-- what pick may be given: a list, a tuple, a text; its items -/
def ItemsOf (K : PySem.W.Frag) (H : Hp) (x : V) (xs : List V) : Prop := (∃ p, x = .ref p ∧ (SqL K H p xs ∨ SqT K H p xs)) ∨ (∃ z : Str, x = .str z ∧ z.length ≤ sizeLine ∧ xs = z.cps.toList.map fun c => V.str ⟨#[c]⟩)
def spPick (K : PySem.W.Frag) : Sp := fun vs H Q _ => ∃ (a : Addr) (g s c : Int) (x : V) (xs : List V), vs = [.ref a, x] ∧ H a = some (bagO g s c) ∧ ItemsOf K H x xs ∧ (∀ g' c', ItemsOf K (upd H a (bagO g' s c')) x xs) ∧ 0 < xs.length ∧ xs.length < 1073741824 ∧
  ∀ y g' c', y ∈ xs → Q y (upd H a (bagO g' s c'))
section
variable {P : Program} {w : World} {K : PySem.W.Frag} {mg : Str → Option Value} {base : Heap}
theorem ok_throw {f : Addr} {fd : FuncData} (F : FnP K "_law_throw" sThrow f fd) (T : TB mg) : FnOk P w K mg base CX0 1 f fd ["_law_bag", "_law_total"] spThrow := by
  refine F.ok scThrow (fun vs H Q E h => ?_) (fun cdv A outer s H vs Q E hr h => ?_)
  · obtain ⟨a, g, s, c, t, rfl, _⟩ := h
    rfl
  · obtain ⟨a, g, s, c, t, rfl, hb, ht, ht2, k⟩ := h
    have nd := scThrow.nd
    refine ⟨_, pss_cons (ps_if (pt_cmpR op_gt (pe_ix ix_list (pv 0) pe_int (fun _ _ => rfl)) pe_int (nomark _))
        (pss_cons (ps_set (i := 2) nd rfl (.inl rfl) (pe_op op_mod (pe_callTy call_intIB (by rfl) T.int (by decide +kernel) (pa_cons (pe_ix ix_list (pv 0) pe_int (fun _ _ => rfl)) pa_nil)) (pv 1)))
        (pss_cons (ps_asg (pe_op op_fdiv (pe_ix ix_list (pv 0) pe_int (fun _ _ => rfl)) (pv 1)) (pg_sub (pv 0) pe_int set_list))
        (pss_one (ps_ret (pv 2))))) pss_nil)
      (pss_cons (ps_asg (pe_op op_add (pe_ix ix_list (pv 0) pe_int (fun _ _ => rfl)) pe_int) (pg_sub (pv 0) pe_int set_list))
      (pss_cons (ps_set (i := 3) nd rfl (.inl rfl) (pe_op op_mod (pe_callTy call_intIB (by rfl) T.int (by decide +kernel) (pa_cons (pe_op op_add (pe_ix ix_list (pv 0) pe_int (fun _ _ => rfl)) (pe_op op_mul pe_int (pe_ix ix_list (pv 0) pe_int (fun _ _ => rfl)))) pa_nil)) pe_int))
      (pss_cons (ps_set (i := 4) nd rfl (.inl rfl) (pe_op op_add (pe_op op_mul (pe_op op_mod (pe_callTy call_intIB (by rfl) T.int (by decide +kernel) (pa_cons (pe_op op_mul (pv 3) (pv 3)) pa_nil)) pe_int) (pv 3)) (pe_op op_mul pe_int (pe_ix ix_list (pv 0) pe_int (fun _ _ => rfl)))))
      (pss_cons (ps_set (i := 4) nd rfl (.inl rfl) (pe_op op_mod (pe_callTy call_intIB (by rfl) T.int (by decide +kernel) (pa_cons (pv 4) pa_nil)) pe_int))
      (pss_one (ps_ret (pe_op op_mod (pe_callTy call_intIB (by rfl) T.int (by decide +kernel) (pa_cons (pe_op op_fdiv (pv 4) pe_int) pa_nil)) (pv 1)))))))), ?_⟩
    have L : ∀ {g s c : Int} {H : Hp}, H a = some (bagO g s c) → SqL K H a [.int g, .int s, .int c] := fun h => SqL.of h
    refine ⟨_, rfl, a, _, 0, .int g, rfl, rfl, L hb, rfl, _, _, rfl, rfl, _, rfl, ?_⟩
    refine ite2 (fun hg => ?_) (fun hg => ?_)
    · refine ⟨_, rfl, a, _, 0, .int g, rfl, rfl, L hb, rfl, .inl ⟨_, rfl, ?_⟩⟩
      refine ⟨_, rfl, _, _, rfl, rfl, ht, ?_⟩
      refine ⟨_, rfl, a, _, 0, .int g, rfl, rfl, L hb, rfl, _, rfl, _, _, rfl, rfl, ⟨ht, ht2⟩, ?_⟩
      refine ⟨_, rfl, a, _, 0, 0, rfl, rfl, hb, rfl, ?_⟩
      refine ⟨_, rfl, ?_⟩
      exact k _ _ _ (Int.emod_nonneg _ (by omega)) (Int.emod_lt_of_pos _ ht)
    · -- bag[2] = bag[2] + 1
      refine ⟨_, rfl, a, _, 2, .int c, rfl, rfl, L hb, rfl, _, _, rfl, rfl, _, rfl, a, _, 2, 2, rfl, rfl, hb, rfl, ?_⟩
      have hb1 : upd H a (bagO g s (c + 1)) a = some (bagO g s (c + 1)) := upd_same
      show _
      refine ⟨_, rfl, a, _, 1, .int s, rfl, rfl, L hb1, rfl, _, rfl, a, _, 2, .int (c + 1), rfl, rfl, L hb1, rfl, _, _, rfl, rfl, .inl (by decide), _, _, rfl, rfl, .inl ⟨_, rfl, _, _, rfl, rfl, (by show (0:Int) < 2305843009213693951; decide), ?_⟩⟩
      have b1 : (0:Int) ≤ (s + 1000403 * (c + 1)) % 2305843009213693951 ∧ (s + 1000403 * (c + 1)) % 2305843009213693951 < 2 ^ 64 := ⟨Int.emod_nonneg _ (by decide), Int.lt_trans (Int.emod_lt_of_pos _ (by decide)) (by decide)⟩
      generalize (s + 1000403 * (c + 1)) % 2305843009213693951 = one at b1 ⊢
      refine ⟨_, rfl, _, rfl, _, _, rfl, rfl, .inl ⟨by omega, by omega⟩, .inl ⟨_, rfl, _, _, rfl, rfl, (by show (0:Int) < 2305843009213693951; decide), _, rfl, _, _, rfl, rfl, .inr ⟨by omega, by omega⟩, _, rfl, a, _, 2, .int (c + 1), rfl, rfl, L hb1, rfl, _, _, rfl, rfl, .inl (by decide), _, _, rfl, rfl, ?_⟩⟩
      generalize one * one % 2305843009213693951 * one + 8111 * (c + 1) = two
      refine ⟨_, rfl, .inl ⟨_, rfl, _, _, rfl, rfl, (by show (0:Int) < 2305843009213693907; decide), ?_⟩⟩
      generalize two % 2305843009213693907 = tw
      refine ⟨_, rfl, _, _, rfl, rfl, (by show (0:Int) < 8192 ∧ (8192:Int) < 1073741824; decide), .inl ⟨_, rfl, _, rfl, _, _, rfl, rfl, ht, ?_⟩⟩
      exact k _ _ _ (Int.emod_nonneg _ (by omega)) (Int.emod_lt_of_pos _ ht)
theorem ok_pick {f fT : Addr} {fd fdT : FuncData} (F : FnP K "_law_pick" sPick f fd) (T : TB mg) (FT : FnP K "_law_throw" sThrow fT fdT) (mT : mg "_law_throw" = some (.ref fT)) (bT : Binds K fdT ["_law_bag", "_law_total"] []) :
    FnOk P w K mg base CX0 2 f fd ["_law_bag", "_law_items"] (spPick K) := by
  have GT : FnOk P w K mg base CX0 1 fT fdT ["_law_bag", "_law_total"] spThrow := ok_throw FT T
  refine F.ok scPick (fun vs H Q E h => ?_) (fun cdv A outer s H vs Q E hr h => ?_)
  · obtain ⟨a, g, s, c, x, xs, rfl, _⟩ := h
    rfl
  · obtain ⟨a, g, s, c, x, xs, rfl, hb, hi, hi2, h0, h1, k⟩ := h
    have nd := scPick.nd
    refine ⟨_, pss_one (ps_ret (pe_ix ix_seq (pv 1) (pe_call GT hr rfl mT FT.kp bT .nil pass0 (pa_cons (pv 0) (pa_cons (pe_callB call_len (by rfl) T.len (by decide +kernel) (pa_cons (pv 1) pa_nil)) pa_nil))) (fun _ _ => rfl))), ?_⟩
    rcases hi with ⟨p, rfl, hs⟩ | ⟨z, rfl, hz, rfl⟩
    · refine ⟨_, rfl, _, rfl, _, rfl, _, xs.length, rfl, ?_, a, g, s, c, xs.length, rfl, hb, by omega, by omega, fun r g' c' hr0 hr1 => ?_⟩
      · rcases hs with hs | hs
        · exact .inl ⟨_, hs, rfl⟩
        · exact .inr ⟨_, hs, rfl⟩
      · have hj : r.toNat < xs.length := by omega
        have e : atI xs r = some xs[r.toNat] := by
          have := atI_nat (xs := xs) (j := r.toNat) (v := xs[r.toNat]) (List.getElem?_eq_getElem hj)
          rwa [Int.toNat_of_nonneg hr0] at this
        have hk := k xs[r.toNat] g' c' (List.getElem_mem hj)
        rcases hi2 g' c' with ⟨p', e', hs'⟩ | ⟨z, e', _⟩
        · cases e'
          rcases hs' with hs' | hs'
          · exact .inl ⟨p, xs, r, _, rfl, rfl, hs', e, hk⟩
          · exact .inr (.inl ⟨p, xs, r, _, rfl, rfl, hs', e, hk⟩)
        · cases e'
    · have el : (z.cps.toList.map fun c => V.str ⟨#[c]⟩).length = z.length := by simp [Str.length]
      rw [el] at h0 h1
      refine ⟨_, rfl, _, rfl, _, rfl, _, z.length, rfl, ⟨hz, rfl⟩, a, g, s, c, z.length, rfl, hb, by omega, by omega, fun r g' c' hr0 hr1 => ?_⟩
      have hj : r.toNat < z.cps.toList.length := by simp [Str.length] at hr1 ⊢; omega
      have e : atI z.cps.toList r = some z.cps.toList[r.toNat] := by
        have := atI_nat (xs := z.cps.toList) (j := r.toNat) (v := z.cps.toList[r.toNat]) (List.getElem?_eq_getElem hj)
        rwa [Int.toNat_of_nonneg hr0] at this
      exact .inr (.inr ⟨z, r, _, rfl, rfl, hz, e, k _ g' c' (List.mem_map.mpr ⟨_, List.getElem_mem hj, rfl⟩)⟩)
def spStart (K : PySem.W.Frag) : Sp := fun vs H Q _ => ∃ (a : Addr) (ns : List Int) (i : Nat), vs = [.ref a, .int i] ∧ SqL K H a (ns.map V.int) ∧ 
  ∀ p g s c, H p = none → Q (.ref p) (upd H p (bagO g s c))
theorem ok_start {f : Addr} {fd : FuncData} (F : FnP K "_law_start" sStart f fd) (T : TB mg) : FnOk P w K mg base CX0 1 f fd ["_law_script", "_law_at"] (spStart K) := by
  refine F.ok scStart (fun vs H Q E h => ?_) (fun cdv A outer s H vs Q E hr h => ?_)
  · obtain ⟨a, ns, i, rfl, _⟩ := h
    rfl
  · obtain ⟨a, ns, i, rfl, hs, k⟩ := h
    have nd := scStart.nd
    refine ⟨_, C8.pss_cut (ps_set (i := 2) nd rfl (.inl rfl) (pe_ifExp (pt_cmpR op_lt (pv 1) (pe_callB call_len (by rfl) T.len (by decide +kernel) (pa_cons (pv 0) pa_nil)) (nomark _))
          (pe_ix ix_seq (pv 0) (pv 1) (fun _ _ => rfl)) (pe_op op_add (pe_op op_mul pe_int (pv 1)) pe_int)))
      (pss_cons (ps_set (i := 3) nd rfl (.inl rfl) (pe_op op_mod (pe_callTy call_intIB (by rfl) T.int (by decide +kernel) (pa_cons (pe_callB call_abs (by rfl) T.abs (by decide +kernel) (pa_cons (pv 2) pa_nil)) pa_nil)) (pe_op op_powW (pe_op op_powW pe_int pe_int) pe_int)))
      (pss_cons (ps_set (i := 4) nd rfl (.inl rfl) (pe_op op_add (pe_op op_add (pe_op op_add (pe_op op_mul (pe_op op_mod (pe_callTy call_intIB (by rfl) T.int (by decide +kernel) (pa_cons (pv 3) pa_nil)) pe_int) pe_int) (pe_op op_mul pe_int (pv 1)))
          (pe_op op_mul pe_int (pe_callTy call_intIB (by rfl) T.int (by decide +kernel) (pa_cons (pe_cmpR op_lt (pv 2) pe_int (nomark _)) pa_nil)))) pe_int))
      (pss_one (ps_ret (pe_lst (pa_cons (pe_callB (call_max2 rfl) (by rfl) T.max (by decide +kernel) (pa_cons pe_int (pa_cons (pe_op op_sub (pv 3) (pe_op op_powW pe_int pe_int)) pa_nil)))
        (pa_cons (pe_op op_mod (pe_callTy call_intIB (by rfl) T.int (by decide +kernel) (pa_cons (pv 4) pa_nil)) pe_int) (pa_cons pe_int pa_nil)))))))), ?_⟩
    have hlen : (ns.map V.int).length = ns.length := by simp
    refine ⟨fun σ' H' => ∃ cell : Int, σ' = [some (.ref a), some (.int i), some (.int cell), none, none] ∧ H' = H, ?_, ?_⟩
    · refine ⟨_, rfl, _, rfl, _, _, rfl, .inl ⟨_, hs, rfl⟩, _, _, rfl, rfl, _, rfl, ?_⟩
      refine ite2 (fun hi => ?_) (fun hi => ?_)
      · have hi' : i < (ns.map V.int).length := by simp at hi ⊢; omega
        have e := atI_nat (xs := ns.map V.int) (j := i) (v := (ns.map V.int)[i]) (List.getElem?_eq_getElem hi')
        refine ⟨_, rfl, _, rfl, .inl ⟨a, _, _, (ns.map V.int)[i], rfl, rfl, hs, e, ?_⟩⟩
        rw [List.getElem_map]
        exact ⟨_, rfl, rfl⟩
      · refine ⟨_, rfl, _, _, rfl, rfl, .inl (by decide), _, _, rfl, rfl, ?_⟩
        exact ⟨_, rfl, rfl⟩
    · rintro σ' H' ⟨cell, rfl, rfl⟩
      have hp : (0:Int) < ((10 ^ (58:Int).toNat) ^ (12:Int).toNat) := by decide +kernel
      refine ⟨_, rfl, _, rfl, .inl ⟨_, rfl, _, _, rfl, rfl, ⟨by decide, by decide +kernel⟩, _, _, rfl, rfl, ⟨by decide, by decide +kernel⟩, _, _, rfl, rfl, hp, ?_⟩⟩
      generalize (if cell < 0 then -cell else cell) % ((10 ^ (58:Int).toNat) ^ (12:Int).toNat) = great
      refine ⟨_, rfl, .inl ⟨_, rfl, _, _, rfl, rfl, (by show (0:Int) < 2147483497; decide), _, _, rfl, rfl, .inr (by decide), _, rfl, _, _, rfl, rfl, .inl (by decide), _, _, rfl, rfl, ?_⟩⟩
      refine ⟨_, rfl, _, _, rfl, rfl, .inr ⟨_, rfl, _, _, rfl, rfl, .inl (by decide), _, _, rfl, rfl, _, _, rfl, rfl, ?_⟩⟩
      refine ⟨_, rfl, _, _, rfl, rfl, ⟨by decide, by decide +kernel⟩, _, _, rfl, rfl, _, _, rfl, ?_⟩
      refine ⟨_, rfl, .inl ⟨_, rfl, _, _, rfl, rfl, (by show (0:Int) < 2147483353; decide), by show 3 ≤ sizeLine; decide, fun p np => ?_⟩⟩
      exact k p _ _ _ np
end
end K0
-- FmDict
set_option maxRecDepth 100000
set_option maxHeartbeats 4000000
/-! A dict display of one pair, whose key is a tuple: {(0, 0): v}. -/
namespace FM
open PySem PySem.Spec PyProof.Rows L2
def tDisT (trs : List (TE × TE)) : TE := fun σ H Q => ∀ p, H p = none → tPairs trs σ (upd H p (.dT [])) fun ps H2 =>
  H2 p = some (.dT []) ∧ ∃ (ks : List L2.Key) (t : Addr) (v : V), ps = [(.ref t, v)] ∧ H2 t = some (.tup (ks.map kV)) ∧ Q (.ref p) (upd H2 p (.dT [(ks, v)]))
theorem pe_disT {X : Cx} {pos : Pos} {k ve : Expr} {trs : List (TE × TE)} (hu : X.A.units + 1 < cLine) (h : PPs X pos [some k] [ve] trs) : PE X (.Dict [some k] [ve] pos) (tDisT trs) := by
  refine ⟨fun pins s σ H Q I q => ?_⟩
  let a : Addr := s.heap.objs.size
  have fr : H a = none := I.hok.fresh (Nat.le_refl _)
  have J := I.laid (t' := s.toks) (a := a) (o := .dT []) (fun _ _ z => Heap.get?_push_of_some { cls := .type "dict", data := .dict #[] } z) (Nat.le_refl _) (dt_empty s.heap I.big)
  have room : (tupleKind (mixKind X.prog X.w)).room X.A := Nat.lt_of_succ_lt hu
  rw [arm_eval_Dict, zip_pairTrees [some k] [ve] X.env pos rfl rfl, dictDisplay_pairs _ (by intro z; cases z) (by show 1 < 17; decide)]
  refine wpAny_bind (wpAny_standAt (wpAny_bind (wpAny_subDictH room (by show 1 ≤ 15; decide) ?_)))
  refine thn (h.run pins _ σ _ _ J (q a fr)) fun ws s2 z => ?_
  obtain ⟨ps, H2, I2, rel, e, ks, t, v, rfl, et, q2⟩ := z
  cases rel with
  | cons r r0 =>
    cases r0
    rename_i b
    obtain ⟨b1, b2⟩ := b
    obtain ⟨rk, rv⟩ := r
    cases (show b1 = Value.ref t from rk)
    obtain ⟨_, hd, xs, x0, dd⟩ := dt_of I2.hok e
    cases x0
    refine ⟨[(ks, t, b2)], ⟨rfl, rfl, key_of I2.hok et, trivial⟩, dd, fun h' tk dd' hs => wpAny_pure ?_⟩
    obtain ⟨ob, es, ep, g1, g2, g3, g4, _, g5⟩ := dd'
    have ne : t ≠ a := ne_of et e (fun z => nomatch z)
    have new : ObjOk X.prog X.w (upd H2 a (.dT [(ks, v)])) h' a (.dT [(ks, v)]) :=
      ⟨by show 1 ≤ sizeLine; decide, hd, [(ks, t, b2)], .cons ⟨rfl, (upd_ne ne).trans et, rv⟩ .nil, ob, es, ep, g1, g2, g3, g4, g5⟩
    exact ⟨.ref a, _, d_write I2 (by rw [e]; exact True.intro) hs ⟨ob, g1⟩ new, rfl, q2⟩
end FM
-- FmRepr
set_option maxRecDepth 100000
set_option maxHeartbeats 4000000
/-! Plain data of the abstract heap, dicts of one pair among it, and their repr. -/
namespace FM
open PySem PySem.Spec PyProof.Rows L2
def kD : L2.Key → PyData
  | .inl i => .int i
  | .inr x => .str x
mutual
inductive DV (H : Hp) : V → PyData → List Addr → Prop
  | non : DV H .non .none []
  | bl (b : Bool) : DV H (.bl b) (.bool b) []
  | int (i : Int) : DV H (.int i) (.int i) []
  | str (x : Str) : DV H (.str x) (.str x) []
  | lst {a : Addr} {xs : List V} {ds : List PyData} {as : List Addr} : H a = some (.lst xs) → DVs H xs ds as → DV H (.ref a) (.list ds) (a :: as)
  | tup {a : Addr} {xs : List V} {ds : List PyData} {as : List Addr} : H a = some (.tup xs) → DVs H xs ds as → DV H (.ref a) (.tuple ds) as
  | dS {a : Addr} {k : Str} {v : V} {d : PyData} {as : List Addr} : H a = some (.dK [(.inr k, v)]) → DV H v d as → DV H (.ref a) (.dict [(.str k, d)]) (a :: ([] ++ []) ++ (as ++ []))
  | dT {a : Addr} {ks : List L2.Key} {v : V} {d : PyData} {as : List Addr} : H a = some (.dT [(ks, v)]) → DV H v d as → DV H (.ref a) (.dict [(.tuple (ks.map kD), d)]) (a :: ([] ++ []) ++ (as ++ []))
  | dE {a : Addr} : H a = some (.dK []) → DV H (.ref a) (.dict []) (a :: [] ++ [])
inductive DVs (H : Hp) : List V → List PyData → List Addr → Prop
  | nil : DVs H [] [] []
  | cons {v : V} {vs : List V} {d : PyData} {ds : List PyData} {as bs : List Addr} : DV H v d as → DVs H vs ds bs → DVs H (v :: vs) (d :: ds) (as ++ bs)
end
theorem reads_keys {P : Program} {w : World} {h : Heap} : ∀ {ks : List L2.Key} {its : List Value}, ItemsAre (mixKind P w) ks its → ReadsAll h its (ks.map kD) []
  | _, _, .nil => .nil
  | _, _, .cons (k := k) e t => by
    refine .cons (as := []) (bs := []) ?_ (reads_keys t)
    rcases keyIs_shape e with ⟨i, u, rfl, rfl⟩ | ⟨x, u, rfl, rfl⟩
    · exact .int i u
    · exact .str x u
mutual
theorem DV.reads {P : Program} {w : World} {H : Hp} {h : Heap} (ok : HOk P w H h) : ∀ {v : V} {d : PyData} {as : List Addr} {u : Value}, DV H v d as → RelV v u → Reads h u d as
  | _, _, _, _, .non, r => by cases r; exact .none
  | _, _, _, _, .bl b, r => by cases r; exact .bool b
  | _, _, _, _, .int i, ⟨t, r⟩ => by subst r; exact .int i t
  | _, _, _, _, .str x, ⟨t, r⟩ => by subst r; exact .str x t
  | _, _, _, _, .lst (a := a) e q, r => by
    cases r
    obtain ⟨_, its, n, rel, g⟩ := ok a _ e
    exact .list g rfl rfl (DVs.reads ok q rel)
  | _, _, _, _, .tup (a := a) e q, r => by
    cases r
    obtain ⟨_, its, rel, ob, g, c, n, g2⟩ := ok a _ e
    exact .tuple g c g2 (DVs.reads ok q rel)
  | _, _, _, _, .dS (a := a) (k := kk) (v := v0) e q, r => by
    cases r
    obtain ⟨_, _, vs, rel, ob, es, ep, g, gc, gd, gk, gp, _⟩ := dk_of ok e
    cases rel with
    | cons r1 r0 =>
      cases r0
      generalize hes : es.toList = el at gp
      cases gp with
      | cons hk hv g0 =>
        cases g0
        refine .dict g gc.1 gd ?_ ?_
        · rw [hes]
          refine .cons (as := []) (bs := []) ?_ .nil
          rename_i bb _ en
          have hk2 : keyIs (.inr kk) en.key = true := by
            have e2 : (Sum.inr kk : L2.Key) = bb.1 := r1.1
            rw [e2]
            exact hk
          show Reads h en.key (.str kk) []
          rcases keyIs_shape hk2 with ⟨i, t, ek, e2⟩ | ⟨x, t, ek, e2⟩
          · exact nomatch ek
          · rw [e2, Sum.inr.inj ek]
            exact .str x t
        · rw [hes]
          refine .cons (bs := []) ?_ .nil
          refine DV.reads ok q ?_
          rename_i bb _ en
          show L2.RelV v0 en.val
          rw [hv]
          exact r1.2
  | _, _, _, _, .dE (a := a) e, r => by
    cases r
    obtain ⟨_, _, vs, rel, ob, es, ep, g, gc, gd, gk, gp, _⟩ := dk_of ok e
    cases rel
    generalize hes : es.toList = el at gp
    cases gp
    refine .dict g gc.1 gd ?_ ?_
    · rw [hes]
      exact .nil
    · rw [hes]
      exact .nil
  | _, _, _, _, .dT (a := a) e q, r => by
    cases r
    obtain ⟨_, _, xs, rel, ob, es, ep, g, gc, gd, ge, gi, _⟩ := dt_of ok e
    cases rel with
    | cons r1 r0 =>
      cases r0
      refine .dict g gc.1 gd ?_ ?_
      · rw [ge]
        refine .cons (as := []) (bs := []) ?_ .nil
        obtain ⟨o2, its, n, g2, g3, g4, g5⟩ := gi _ List.mem_cons_self
        refine .tuple g2 g3 g4 ?_
        have e2 := r1.1
        simp only at e2
        rw [e2]
        exact reads_keys g5
      · rw [ge]
        refine .cons (bs := []) ?_ .nil
        exact DV.reads ok q r1.2.2
theorem DVs.reads {P : Program} {w : World} {H : Hp} {h : Heap} (ok : HOk P w H h) : ∀ {vs : List V} {ds : List PyData} {as : List Addr} {us : List Value}, DVs H vs ds as → Vals vs us → ReadsAll h us ds as
  | _, _, _, _, .nil, .nil => .nil
  | _, _, _, _, .cons x q, .cons r t => .cons (DV.reads ok x r) (DVs.reads ok q t)
end
mutual
theorem DV.there {H : Hp} : ∀ {v : V} {d : PyData} {as : List Addr}, DV H v d as → ∀ a ∈ as, ∃ o, H a = some o
  | _, _, _, .non, _, h => nomatch h
  | _, _, _, .bl _, _, h => nomatch h
  | _, _, _, .int _, _, h => nomatch h
  | _, _, _, .str _, _, h => nomatch h
  | _, _, _, .lst e q, b, h => by
    rcases List.mem_cons.mp h with h | h
    · rw [h]; exact ⟨_, e⟩
    · exact DVs.there q b h
  | _, _, _, .tup _ q, b, h => DVs.there q b h
  | _, _, _, .dS (a := a) (as := as) e q, b, h => by
    have h2 : b = a ∨ b ∈ as := by simpa using h
    rcases h2 with h | h
    · rw [h]; exact ⟨_, e⟩
    · exact DV.there q b h
  | _, _, _, .dT (a := a) (as := as) e q, b, h => by
    have h2 : b = a ∨ b ∈ as := by simpa using h
    rcases h2 with h | h
    · rw [h]; exact ⟨_, e⟩
    · exact DV.there q b h
  | _, _, _, .dE (a := a) e, b, h => by
    have h2 : b = a := by simpa using h
    rw [h2]; exact ⟨_, e⟩
theorem DVs.there {H : Hp} : ∀ {vs : List V} {ds : List PyData} {as : List Addr}, DVs H vs ds as → ∀ a ∈ as, ∃ o, H a = some o
  | _, _, _, .nil, _, h => nomatch h
  | _, _, _, .cons x q, b, h => by
    rcases List.mem_append.mp h with h | h
    · exact DV.there x b h
    · exact DVs.there q b h
end
mutual
theorem DV.same {H H' : Hp} (S : Same H H') : ∀ {v : V} {d : PyData} {as : List Addr}, DV H v d as → DV H' v d as
  | _, _, _, .non => .non
  | _, _, _, .bl b => .bl b
  | _, _, _, .int i => .int i
  | _, _, _, .str x => .str x
  | _, _, _, .lst e q => .lst (S _ _ e) (DVs.same S q)
  | _, _, _, .tup e q => .tup (S _ _ e) (DVs.same S q)
  | _, _, _, .dS e q => .dS (S _ _ e) (DV.same S q)
  | _, _, _, .dT e q => .dT (S _ _ e) (DV.same S q)
  | _, _, _, .dE e => .dE (S _ _ e)
theorem DVs.same {H H' : Hp} (S : Same H H') : ∀ {vs : List V} {ds : List PyData} {as : List Addr}, DVs H vs ds as → DVs H' vs ds as
  | _, _, _, .nil => .nil
  | _, _, _, .cons x q => .cons (DV.same S x) (DVs.same S q)
end
/-- repr of a list -/
theorem call_reprD {X : Cx} (hg : X.A.guards = some []) (hu : X.A.units + 20 < cLine) (hs : ∃ o, X.base.get? sysModules = some o) :
    CallR X (.builtin "repr") (fun xs H Q => ∃ (p : Addr) (d : PyData) (as : List Addr), xs = [.ref p] ∧ DV H (.ref p) d as ∧ d.showable = true ∧ d.depth ≤ 10 ∧ d.shown.length ≤ sizeLine ∧ Q (.str d.shown) H) := by
  intro pins s σ H xs us Q I r h
  obtain ⟨p, d, as, rfl, hd, h1, h2, h3, q⟩ := h
  obtain ⟨u, rfl, r1⟩ := vals1 r
  cases r1
  have R : Reads s.heap (.ref p) d as := hd.reads I.hok rfl
  have no : sysModules ∉ as := fun hm => by
    obtain ⟨o, ho⟩ := hd.there _ hm
    obtain ⟨ob, hk⟩ := hs
    rw [(I.bs _ _ hk).2] at ho
    cases ho
  exact repr_of_reads' R h1 (fun _ => no) hg (by omega) (fun _ _ z => z) (fun h' u tk kp => ⟨.str d.shown, H, I.kept kp, ⟨u, rfl⟩, q⟩) h3
/-- repr of any such value -/
theorem call_reprAny {X : Cx} (hg : X.A.guards = some []) (hu : X.A.units + 20 < cLine) (hs : ∃ o, X.base.get? sysModules = some o) :
    CallR X (.builtin "repr") (fun xs H Q => ∃ (x : V) (d : PyData) (as : List Addr), xs = [x] ∧ DV H x d as ∧ d.showable = true ∧ d.depth ≤ 10 ∧ d.shown.length ≤ sizeLine ∧ Q (.str d.shown) H) := by
  intro pins s σ H xs us Q I r h
  obtain ⟨x, d, as, rfl, hd, h1, h2, h3, q⟩ := h
  have whole := call_reprD hg hu hs pins s σ H
  cases hd with
  | non =>
    obtain ⟨u, rfl, r1⟩ := vals1 r
    cases r1
    exact PySem.P.repr_of_none ⟨.str _, H, I.tok _, ⟨_, rfl⟩, q⟩
  | bl b =>
    obtain ⟨u, rfl, r1⟩ := vals1 r
    cases r1
    cases b
    · exact PySem.P.repr_of_bool ⟨.str _, H, I.tok _, ⟨_, rfl⟩, q⟩
    · exact PySem.P.repr_of_bool ⟨.str _, H, I.tok _, ⟨_, rfl⟩, q⟩
  | int i =>
    obtain ⟨u, rfl, t, rfl⟩ := vals1 r
    exact PySem.P.repr_of_int (of_decide_eq_true h1) ⟨.str _, H, I.tok _, ⟨_, rfl⟩, q⟩
  | str z =>
    obtain ⟨u, rfl, t, rfl⟩ := vals1 r
    exact PySem.P.repr_of_str ⟨.str _, H, I.tok _, ⟨_, rfl⟩, q⟩ (hsz := h3)
  | lst e t => exact whole _ us Q I r ⟨_, _, _, rfl, .lst e t, h1, h2, h3, q⟩
  | tup e t => exact whole _ us Q I r ⟨_, _, _, rfl, .tup e t, h1, h2, h3, q⟩
  | dS e t => exact whole _ us Q I r ⟨_, _, _, rfl, .dS e t, h1, h2, h3, q⟩
  | dT e t => exact whole _ us Q I r ⟨_, _, _, rfl, .dT e t, h1, h2, h3, q⟩
  | dE e => exact whole _ us Q I r ⟨_, _, _, rfl, .dE e, h1, h2, h3, q⟩
end FM
-- FmOkv
set_option maxRecDepth 100000
set_option maxHeartbeats 4000000
/-! Plain data that stays while one object is written. -/
namespace FM
open PySem PySem.Spec PyProof.Rows L2
def Keep (b : Addr → Prop) (H H' : Hp) : Prop := ∀ a o, ¬ b a → H a = some o → H' a = some o
section
variable {b b' : Addr → Prop} {H H1 H2 : Hp}
theorem Keep.refl : Keep b H H := fun _ _ _ h => h
theorem Keep.trans (x : Keep b H H1) (y : Keep b H1 H2) : Keep b H H2 := fun a o n h => y a o n (x a o n h)
theorem Keep.of (S : Same H H1) : Keep b H H1 := fun a o _ h => S a o h
theorem Keep.upd {p : Addr} {o : HO} (hp : b p) : Keep b H (L2.upd H p o) := fun a u n h => by
  rw [upd_ne fun z => n (by rw [z]; exact hp)]
  exact h
theorem Keep.more (h : ∀ a, b a → b' a) (x : Keep b H H1) : Keep b' H H1 := fun a o n z => x a o (fun q => n (h a q)) z
theorem Keep.new {p : Addr} {o : HO} (n : H p = none) : Keep b H (L2.upd H p o) := fun a u na h => by
  rw [upd_ne (ne_of_none h n)]
  exact h
/-- another new object is written -/
theorem Keep.put {p : Addr} {o : HO} (x : Keep b H H1) (n : H p = none) : Keep b H (L2.upd H1 p o) := fun a u na h => by
  rw [upd_ne (ne_of_none h n)]
  exact x a u na h
mutual
/-- an empty dict is no such data's part -/
theorem DVaway {p : Addr} (hp : H p = some (.dT [])) (S : ∀ a o, a ≠ p → H a = some o → H1 a = some o) : ∀ {v : V} {d : PyData} {as : List Addr}, DV H v d as → DV H1 v d as
  | _, _, _, .non => .non
  | _, _, _, .bl b => .bl b
  | _, _, _, .int i => .int i
  | _, _, _, .str x => .str x
  | _, _, _, .lst e q => .lst (S _ _ (ne_of e hp (fun z => nomatch z)) e) (DVsaway hp S q)
  | _, _, _, .tup e q => .tup (S _ _ (ne_of e hp (fun z => nomatch z)) e) (DVsaway hp S q)
  | _, _, _, .dS e q => .dS (S _ _ (ne_of e hp (fun z => nomatch z)) e) (DVaway hp S q)
  | _, _, _, .dT e q => .dT (S _ _ (ne_of e hp (fun z => nomatch z)) e) (DVaway hp S q)
  | _, _, _, .dE e => .dE (S _ _ (ne_of e hp (fun z => nomatch z)) e)
theorem DVsaway {p : Addr} (hp : H p = some (.dT [])) (S : ∀ a o, a ≠ p → H a = some o → H1 a = some o) : ∀ {vs : List V} {ds : List PyData} {as : List Addr}, DVs H vs ds as → DVs H1 vs ds as
  | _, _, _, .nil => .nil
  | _, _, _, .cons x q => .cons (DVaway hp S x) (DVsaway hp S q)
end
def OkV (b : Addr → Prop) (n m : Nat) (H : Hp) (v : V) : Prop := ∃ (d : PyData) (as : List Addr), d.showable = true ∧ d.depth ≤ n ∧ d.shown.length ≤ m ∧ ∀ Hf, Keep b H Hf → DV Hf v d as
def OkVs (b : Addr → Prop) (n m : Nat) (H : Hp) (vs : List V) : Prop := ∃ (ds : List PyData) (as : List Addr), PyData.showableAll ds = true ∧ PyData.depthAll ds ≤ n ∧ ((PyData.shownAll ds).map (·.length)).sum ≤ m ∧ ds.length = vs.length ∧ ∀ Hf, Keep b H Hf → DVs Hf vs ds as
variable {n m n' m' : Nat} {v : V} {vs : List V} {t : Addr}
theorem OkV.less (h : OkV b' n m H v) (hs : ∀ a, b a → b' a) : OkV b n m H v := by
  obtain ⟨d, as, h1, h2, h3, h4⟩ := h
  exact ⟨d, as, h1, h2, h3, fun Hf z => h4 Hf (z.more hs)⟩
/-- what is not there yet may be written -/
theorem OkV.more {p : Addr} (h : OkV b n m H v) (np : H p = none) : OkV (fun a => b a ∨ a = p) n m H v := by
  obtain ⟨d, as, h1, h2, h3, h4⟩ := h
  refine ⟨d, as, h1, h2, h3, fun Hf z => h4 Hf fun a o na ha => z a o (fun q => ?_) ha⟩
  rcases q with q | q
  · exact na q
  · rw [q, np] at ha; cases ha
theorem OkV.keep (h : OkV b n m H v) (k : Keep b H H1) : OkV b n m H1 v := by
  obtain ⟨d, as, h1, h2, h3, h4⟩ := h
  exact ⟨d, as, h1, h2, h3, fun Hf z => h4 Hf (k.trans z)⟩
theorem OkVs.keep (h : OkVs b n m H vs) (k : Keep b H H1) : OkVs b n m H1 vs := by
  obtain ⟨d, as, h1, h2, h3, h4, h5⟩ := h
  exact ⟨d, as, h1, h2, h3, h4, fun Hf z => h5 Hf (k.trans z)⟩
theorem OkV.away {p : Addr} {o : HO} (h : OkV b n m H v) (hp : H p = some (.dT [])) (ne : ¬ b p) : OkV b n m (L2.upd H p o) v := by
  obtain ⟨d, as, h1, h2, h3, h4⟩ := h
  refine ⟨d, as, h1, h2, h3, fun Hf z => ?_⟩
  refine DVaway (p := p) (H := L2.upd Hf p (.dT [])) upd_same (fun a u na ha => by rwa [upd_ne na] at ha) (h4 _ fun a u na ha => ?_)
  by_cases e : a = p
  · rw [e] at ha ⊢
    rw [hp] at ha
    rw [upd_same]
    exact ha
  · rw [upd_ne e]
    exact z a u na (by rw [upd_ne e]; exact ha)
theorem OkV.mono (h : OkV b n m H v) (h1 : n ≤ n') (h2 : m ≤ m') : OkV b n' m' H v := by
  obtain ⟨d, as, z1, z2, z3, z4⟩ := h
  exact ⟨d, as, z1, Nat.le_trans z2 h1, Nat.le_trans z3 h2, z4⟩
theorem OkVs.less (h : OkVs b n m H vs) (h1 : m ≤ m') : OkVs b n m' H vs := by
  obtain ⟨ds, as, z1, z2, z3, z4⟩ := h
  exact ⟨ds, as, z1, z2, Nat.le_trans z3 h1, z4⟩
theorem OkV.non : OkV b 0 4 H .non := ⟨.none, [], rfl, by decide, by decide +kernel, fun _ _ => .non⟩
theorem OkV.bl {c : Bool} : OkV b 0 5 H (.bl c) := ⟨.bool c, [], rfl, by simp only [PyData.depth]; omega, by cases c <;> decide +kernel, fun _ _ => .bl c⟩
theorem OkV.int {i : Int} (h1 : i.natAbs.log2 < 1920) (h2 : (PyData.shown (.int i)).length ≤ 100) : OkV b 0 100 H (.int i) := ⟨.int i, [], decide_eq_true h1, by simp only [PyData.depth]; omega, h2, fun _ _ => .int i⟩
theorem OkV.str {x : Str} (h2 : (PyData.shown (.str x)).length ≤ 100) : OkV b 0 100 H (.str x) := ⟨.str x, [], rfl, by simp only [PyData.depth]; omega, h2, fun _ _ => .str x⟩
theorem OkVs.nil : OkVs b n m H [] := ⟨[], [], rfl, Nat.zero_le _, Nat.zero_le _, rfl, fun _ _ => .nil⟩
theorem OkVs.cons (h : OkV b n m H v) (t : OkVs b n m' H vs) : OkVs b n (m + m') H (v :: vs) := by
  obtain ⟨d, as, h1, h2, h3, h4⟩ := h
  obtain ⟨ds, bs, t1, t2, t3, t4, t5⟩ := t
  refine ⟨d :: ds, as ++ bs, by simp [PyData.showableAll, h1, t1], ?_, ?_, by rw [List.length_cons, List.length_cons, t4], fun Hf k => .cons (h4 Hf k) (t5 Hf k)⟩
  · simp only [PyData.depthAll]; omega
  · simp only [PyData.shownAll, List.map_cons, List.sum_cons]; omega
theorem shownAll_len : ∀ ds : List PyData, (PyData.shownAll ds).length = ds.length
  | [] => rfl
  | d :: ds => by simp only [PyData.shownAll, List.length_cons, shownAll_len ds]
theorem OkV.tup (h : OkVs b n m H vs) (e : H t = some (.tup vs)) (ne : ¬ b t) : OkV b (n + 1) (m + 2 * vs.length + 3) H (.ref t) := by
  obtain ⟨ds, as, h1, h2, h3, h4, h5⟩ := h
  refine ⟨.tuple ds, as, by simpa only [PyData.showable] using h1, by simp only [PyData.depth]; omega, ?_, fun Hf k => .tup (k _ _ ne e) (h5 Hf k)⟩
  have := tupleText_len_le (PyData.shownAll ds)
  rw [shownAll_len] at this
  simp only [PyData.shown]
  omega
theorem OkV.lst (h : OkVs b n m H vs) (e : H t = some (.lst vs)) (ne : ¬ b t) : OkV b (n + 1) (m + 2 * vs.length + 3) H (.ref t) := by
  obtain ⟨ds, as, h1, h2, h3, h4, h5⟩ := h
  refine ⟨.list ds, t :: as, by simpa only [PyData.showable] using h1, by simp only [PyData.depth]; omega, ?_, fun Hf k => .lst (k _ _ ne e) (h5 Hf k)⟩
  have := listText_len_le (PyData.shownAll ds)
  rw [shownAll_len] at this
  simp only [PyData.shown]
  omega
theorem OkV.dS {k : Str} (h : OkV b n m H v) (e : H t = some (.dK [(.inr k, v)])) (ne : ¬ b t) (hk : (PyData.shown (.str k)).length ≤ 100) : OkV b (n + 1) (m + 110) H (.ref t) := by
  obtain ⟨d, as, h1, h2, h3, h4⟩ := h
  refine ⟨.dict [(.str k, d)], _, by simp [PyData.showable, PyData.showableKv, h1], by simp only [PyData.depth, PyData.depthKv]; omega, ?_, fun Hf z => .dS (z _ _ ne e) (h4 Hf z)⟩
  have q := dictText_len_le (PyData.shownKv [(.str k, d)])
  have e2 : ((PyData.shownKv [(.str k, d)]).map (·.length)).sum = (PyData.shown (.str k)).length + 2 + d.shown.length := by
    simp only [PyData.shownKv, List.map_cons, List.map_nil, List.sum_cons, List.sum_nil]
    rw [PySem.Str.length_append, PySem.Str.length_append]
    rfl
  rw [e2] at q
  simp only [PyData.shown] at q hk ⊢
  simp only [PyData.shownKv, List.length_cons, List.length_nil] at q ⊢
  omega
theorem OkV.dT {ks : List L2.Key} (h : OkV b n m H v) (e : H t = some (.dT [(ks, v)])) (ne : ¬ b t) (hs : (PyData.tuple (ks.map kD)).showable = true) (hd : (PyData.tuple (ks.map kD)).depth ≤ n) (hk : (PyData.shown (.tuple (ks.map kD))).length ≤ 100) :
    OkV b (n + 1) (m + 110) H (.ref t) := by
  obtain ⟨d, as, h1, h2, h3, h4⟩ := h
  refine ⟨.dict [(.tuple (ks.map kD), d)], _, ?_, ?_, ?_, fun Hf z => .dT (z _ _ ne e) (h4 Hf z)⟩
  · simp only [PyData.showable, PyData.showableKv, h1] at hs ⊢
    rw [hs]; rfl
  · simp only [PyData.depth, PyData.depthKv] at hd ⊢
    omega
  · have q := dictText_len_le (PyData.shownKv [(.tuple (ks.map kD), d)])
    have e2 : ((PyData.shownKv [(.tuple (ks.map kD), d)]).map (·.length)).sum = (PyData.shown (.tuple (ks.map kD))).length + 2 + d.shown.length := by
      simp only [PyData.shownKv, List.map_cons, List.map_nil, List.sum_cons, List.sum_nil]
      rw [PySem.Str.length_append, PySem.Str.length_append]
      rfl
    rw [e2] at q
    simp only [PyData.shown] at q hk ⊢
    simp only [PyData.shownKv, List.length_cons, List.length_nil] at q ⊢
    omega
end
end FM
-- K0Lit
set_option maxRecDepth 100000
set_option maxHeartbeats 4000000
namespace K0
open PySem L2 FM He
def BagAt (b : Addr) (H : Hp) : Prop := ∃ g s c, H b = some (bagO g s c)
theorem BagAt.same {b : Addr} {H H1 : Hp} (h : BagAt b H) (S : Same H H1) : BagAt b H1 := by
  obtain ⟨g, s, c, e⟩ := h
  exact ⟨g, s, c, S _ _ e⟩
/-- what may be written is there -/
def Live (b : Addr → Prop) (H : Hp) : Prop := ∀ a, b a → ∃ o, H a = some o
theorem Live.same {b : Addr → Prop} {H H1 : Hp} (h : Live b H) (S : Same H H1) : Live b H1 := fun a ha => by
  obtain ⟨o, e⟩ := h a ha
  exact ⟨o, S _ _ e⟩
theorem Live.ne {b : Addr → Prop} {p : Addr} {H : Hp} (h : Live b H) (n : H p = none) : ¬ b p := fun hp => by
  obtain ⟨o, e⟩ := h p hp
  rw [n] at e
  cases e
/-- a piece of plain data is made -/
def LitOk (b : Addr → Prop) (n m : Nat) (H0 : Hp) (σ : L2.St) (t : L2.TE) : Prop := ∀ H Q, Same H0 H → (∀ v H', Same H H' → OkV b n m H' v → Q v H') → t σ H Q
def ElsOk (b : Addr → Prop) (n m c : Nat) (H0 : Hp) (σ : L2.St) (t : L2.TA) : Prop := ∀ H Q, Same H0 H → (∀ vs H', Same H H' → vs.length = c → (∀ y ∈ vs, OkV b n m H' y) → Q vs H') → t σ H Q
def LitsOk (b : Addr → Prop) (n m c : Nat) (H0 : Hp) (σ : L2.St) (t : L2.TA) : Prop := ∀ H Q, Same H0 H → (∀ vs H', Same H H' → vs.length = c → OkVs b n m H' vs → Q vs H') → t σ H Q
section
variable {b : Addr → Prop} {n m n' m' c : Nat} {H0 : Hp} {σ : L2.St}
theorem LitOk.mono {t : L2.TE} (h : LitOk b n m H0 σ t) (h1 : n ≤ n' := by decide) (h2 : m ≤ m' := by decide) : LitOk b n' m' H0 σ t := fun H Q S k => h H Q S fun v H' S' o => k v H' S' (o.mono h1 h2)
theorem lit_int {i : Int} (h1 : i.natAbs.log2 < 1920 := by decide +kernel) (h2 : (PyData.shown (.int i)).length ≤ 100 := by decide +kernel) : LitOk b n 100 H0 σ (tC (.int i)) := fun H Q S k => k _ _ (Same.refl H) ((OkV.int h1 h2).mono (Nat.zero_le n) (Nat.le_refl _))
theorem lit_str {x : Str} (h2 : (PyData.shown (.str x)).length ≤ 100 := by decide +kernel) : LitOk b n 100 H0 σ (tC (.str x)) := fun H Q S k => k _ _ (Same.refl H) ((OkV.str h2).mono (Nat.zero_le n) (Nat.le_refl _))
theorem lit_non : LitOk b n 100 H0 σ (tC .non) := fun H Q S k => k _ _ (Same.refl H) (OkV.non.mono (Nat.zero_le n) (by decide))
theorem lit_bl {c : Bool} : LitOk b n 100 H0 σ (tC (.bl c)) := fun H Q S k => k _ _ (Same.refl H) (OkV.bl.mono (Nat.zero_le n) (by decide))
theorem lit_neg : LitOk b n 100 H0 σ (tUn (rU fun i => V.int (-i)) (tC (V.int 1))) := fun H Q S k => ⟨1, rfl, k _ _ (Same.refl H) ((OkV.int (by decide +kernel) (by decide +kernel)).mono (Nat.zero_le n) (Nat.le_refl _))⟩
theorem lit_pow : LitOk b n 100 H0 σ (tOp (rI CPowW fun i j => V.int (i ^ j.toNat)) (tC (V.int 10)) (tC (V.int 39))) :=
  fun H Q S k => ⟨10, 39, rfl, rfl, ⟨by decide, by decide +kernel⟩, k _ _ (Same.refl H) ((OkV.int (by decide +kernel) (by decide +kernel)).mono (Nat.zero_le n) (Nat.le_refl _))⟩
theorem lit_var {i : Nat} {v : V} (hv : σ[i]? = some (some v)) (h : OkV b n m H0 v) : LitOk b n m H0 σ (tVar i) := fun H Q S k => ⟨v, hv, k _ _ (Same.refl H) (h.keep (.of S))⟩
theorem lits_nil : LitsOk b n 0 0 H0 σ tNil := fun H Q S k => k _ _ (Same.refl H) rfl .nil
theorem lits_cons {t : L2.TE} {ts : L2.TA} (h : LitOk b n m H0 σ t) (hs : LitsOk b n m' c H0 σ ts) : LitsOk b n (m + m') (c + 1) H0 σ (tCons t ts) := fun H Q S k =>
  h H _ S fun v H1 S1 o => hs H1 _ (S.trans S1) fun vs H2 S2 l os => k _ _ (S1.trans S2) (by rw [List.length_cons, l]) (.cons (o.keep (.of S2)) os)
theorem els_nil : ElsOk b n m 0 H0 σ tNil := fun H Q S k => k _ _ (Same.refl H) rfl fun y hy => nomatch hy
theorem els_cons {t : L2.TE} {ts : L2.TA} (h : LitOk b n m H0 σ t) (hs : ElsOk b n m c H0 σ ts) : ElsOk b n m (c + 1) H0 σ (tCons t ts) := fun H Q S k =>
  h H _ S fun v H1 S1 o => hs H1 _ (S.trans S1) fun vs H2 S2 l os => k _ _ (S1.trans S2) (by rw [List.length_cons, l]) fun y hy => by
    rcases List.mem_cons.mp hy with e | e
    · rw [e]; exact o.keep (.of S2)
    · exact os y e
theorem lit_tup {ts : L2.TA} (hb : Live b H0) (h : LitsOk b n m c H0 σ ts) (hc : c ≤ 100 := by decide) : LitOk b (n + 1) (m + 2 * c + 3) H0 σ (tTup ts) := fun H Q S k =>
  h H _ S fun vs H1 S1 l o => ⟨by rw [l, sizeLine_eq]; omega, fun p np => k _ _ (S1.trans (same_upd np)) (by
    have := OkV.tup (o.keep (.of (same_upd np))) upd_same ((hb.same (S.trans S1)).ne np)
    rwa [l] at this)⟩
theorem lit_lst {ts : L2.TA} (hb : Live b H0) (h : LitsOk b n m c H0 σ ts) (hc : c ≤ 100 := by decide) : LitOk b (n + 1) (m + 2 * c + 3) H0 σ (tLst ts) := fun H Q S k =>
  h H _ S fun vs H1 S1 l o => ⟨by rw [l, sizeLine_eq]; omega, fun p np => k _ _ (S1.trans (same_upd np)) (by
    have := OkV.lst (o.keep (.of (same_upd np))) upd_same ((hb.same (S.trans S1)).ne np)
    rwa [l] at this)⟩
theorem lit_dS {k0 : Str} {i : Int} (hb : Live b H0) (h0 : (PyData.shown (.str k0)).length ≤ 100 := by decide +kernel) (h1 : i.natAbs.log2 < 1920 := by decide +kernel) (h2 : (PyData.shown (.int i)).length ≤ 100 := by decide +kernel) :
    LitOk b 1 210 H0 σ (tDisp [(tC (.str k0), tC (.int i))]) := fun H Q S k p np => ⟨upd_same, [(.inr k0, .int i)], rfl, by show 1 ≤ 15; decide, by
  rw [upd_upd]
  have e : mergeK [] [((.inr k0 : L2.Key), V.int i)] = [(.inr k0, .int i)] := rfl
  rw [e]
  exact k _ _ (same_upd np) (OkV.dS (n := 0) (m := 100) (OkV.int h1 h2) upd_same ((hb.same S).ne np) h0)⟩
theorem lit_dT {t : L2.TE} (hb : Live b H0) (h : LitOk b 1 m H0 σ t) :
    LitOk b 2 (m + 110) H0 σ (tDisT [(tTup (tCons (tC (V.int 0)) (tCons (tC (V.int 0)) tNil)), t)]) := fun H Q S k p np => by
  refine ⟨by show 2 ≤ sizeLine; decide, fun q nq => ?_⟩
  have S1 : Same H (upd H p (.dT [])) := same_upd np
  have S2 := S1.trans (same_upd (o := .tup [.int 0, .int 0]) nq)
  refine h _ _ (S.trans S2) fun v H2 S3 o => ⟨?_, [.inl 0, .inl 0], q, v, rfl, S3 _ _ upd_same, ?_⟩
  · exact S3 _ _ ((upd_ne (ne_of_none upd_same nq)).trans upd_same)
  · have nb := (hb.same S).ne np
    have T : Same H (upd H2 p (.dT [([.inl 0, .inl 0], v)])) := fun a u ha => by
      rw [upd_ne (ne_of_none ha np)]
      exact S3 _ _ (S2 _ _ ha)
    exact k _ _ T (OkV.dT (n := 1) (m := m) (o.away (S3 _ _ ((upd_ne (ne_of_none upd_same nq)).trans upd_same)) nb) upd_same nb (by decide +kernel) (by decide +kernel) (by decide +kernel))
theorem asg_lst {ts : L2.TA} {g : TG} {D : Ends} {H : Hp} (X : ElsOk b n m c H0 σ ts) (S : Same H0 H) (hc : c ≤ 100)
    (k : ∀ vs H1, Same H H1 → vs.length = c → (∀ y ∈ vs, OkV b n m H1 y) → ∀ p, H1 p = none → g (.ref p) σ (upd H1 p (.lst vs)) D.nx) : tAsg (tLst ts) g D σ H :=
  X H _ S fun vs H1 S1 l o => ⟨by rw [l, sizeLine_eq]; omega, k vs H1 S1 l o⟩
theorem asg_tup2 {A B : L2.TE} {g : TG} {D : Ends} {H : Hp} (h : A σ H fun v H1 => B σ H1 fun u H2 => ∀ p, H2 p = none → g (.ref p) σ (upd H2 p (.tup [v, u])) D.nx) : tAsg (tTup (tCons A (tCons B tNil))) g D σ H := by
  have e : tAsg (tTup (tCons A (tCons B tNil))) g D σ H = (A σ H fun v H1 => B σ H1 fun u H2 => 2 ≤ sizeLine ∧ ∀ p, H2 p = none → g (.ref p) σ (upd H2 p (.tup [v, u])) D.nx) := rfl
  rw [e]
  have s2 : 2 ≤ sizeLine := by decide
  simpa [s2] using h
theorem app_mk {K : PySem.W.Frag} {i : Nat} {l : Addr} {t : L2.TA} {D : Ends} {H : Hp} {xs : List V} (hv : σ[i]? = some (some (.ref l))) (hl : H l = some (.lst xs))
    (h : t σ H fun vs H2 => rAppend (.ref l) vs H2 fun _ H1 => D.nx σ H1) : tDrop (tBM K "list" rAppend (tVar i) t) D σ H := ⟨_, hv, .inl ⟨rfl, xs, SqL.of hl⟩, h⟩
theorem app_end {l : Addr} {H : Hp} {Q : VK} {y : V} {xs : List V} (hl : H l = some (.lst xs)) (hx : xs.length < 1000) (k : Q .non (upd H l (.lst (xs ++ [y])))) : rAppend (.ref l) [y] H Q :=
  ⟨l, xs, y, rfl, rfl, hl, by rw [sizeLine_eq]; omega, k⟩
theorem app_nil {l : Addr} {H : Hp} {Q : VK} {y : V} {xs : List V} (hl : H l = some (.lst xs)) (hx : xs.length ≤ 100) (k : Q .non (upd H l (.lst (xs ++ [y])))) : tNil σ H fun us H2 => rAppend (.ref l) (y :: us) H2 Q :=
  app_end hl (by omega) k
theorem lit_go {t : L2.TE} {Q : List V → Hp → Prop} {H : Hp} (x : LitOk b n m H0 σ t) (S : Same H0 H) (k : ∀ v H', Same H H' → OkV b n m H' v → Q [v] H') : tCons t tNil σ H Q := x H _ S k
theorem asg_raw {ts : L2.TA} {g : TG} {D : Ends} {H : Hp} (h : ts σ H fun vs H1 => vs.length ≤ sizeLine ∧ ∀ p, H1 p = none → g (.ref p) σ (upd H1 p (.lst vs)) D.nx) : tAsg (tLst ts) g D σ H := h
theorem cons_go {t : L2.TE} {ts : L2.TA} {Q : List V → Hp → Prop} {H : Hp} (h : t σ H fun v H1 => ts σ H1 fun vs H2 => Q (v :: vs) H2) : tCons t ts σ H Q := h
/-- constants -/
def CstOk (b : Addr → Prop) (c : Nat) (σ : L2.St) (t : L2.TA) : Prop := ∀ H Q, (∀ vs, vs.length = c → (∀ y ∈ vs, ∀ H2, OkV b 0 100 H2 y) → Q vs H) → t σ H Q
theorem cst_nil : CstOk b 0 σ tNil := fun H Q k => k [] rfl fun y hy => nomatch hy
theorem cst_cons {v : V} {ts : L2.TA} (h : CstOk b c σ ts) (o : ∀ H2, OkV b 0 100 H2 v) : CstOk b (c + 1) σ (tCons (tC v) ts) := fun H Q k => h H _ fun vs l ok => k _ (by rw [List.length_cons, l]) fun y hy => by
  rcases List.mem_cons.mp hy with e | e
  · rw [e]; exact o
  · exact ok y e
theorem cst_pow {ts : L2.TA} (h : CstOk b c σ ts) : CstOk b (c + 1) σ (tCons (tOp (rI CPowW fun i j => V.int (i ^ j.toNat)) (tC (V.int 10)) (tC (V.int 39))) ts) := fun H Q k =>
  ⟨10, 39, rfl, rfl, ⟨by decide, by decide +kernel⟩, h H _ fun vs l ok => k _ (by rw [List.length_cons, l]) fun y hy => by
    rcases List.mem_cons.mp hy with e | e
    · rw [e]; exact fun H2 => OkV.int (by decide +kernel) (by decide +kernel)
    · exact ok y e⟩
abbrev J (b : Addr) : Addr → Prop := fun a => a = b
def ListOk (b : Addr) (n m : Nat) (H : Hp) (p : Addr) (xs : List V) : Prop := p ≠ b ∧ H p = some (.lst xs) ∧ 0 < xs.length ∧ xs.length < 1000 ∧ ∀ y ∈ xs, OkV (J b) n m H y
theorem ListOk.keep {b : Addr} {n m : Nat} {H H1 : Hp} {p : Addr} {xs : List V} (h : ListOk b n m H p xs) (k : Keep (J b) H H1) : ListOk b n m H1 p xs :=
  ⟨h.1, k _ _ h.1 h.2.1, h.2.2.1, h.2.2.2.1, fun y hy => (h.2.2.2.2 y hy).keep k⟩
theorem pick_var {K : PySem.W.Frag} {b p : Addr} {j : Nat} {H : Hp} {Q : VK} {xs : List V} (hb : BagAt b H) (h0 : σ[0]? = some (some (.ref b))) (hv : σ[j]? = some (some (.ref p))) (l : ListOk b n m H p xs)
    (k : ∀ y H', Keep (J b) H H' → BagAt b H' → OkV (J b) n m H' y → Q y H') : tCall (spPick K) [] E0 (tCons (tVar 0) (tCons (tVar j) tNil)) σ H Q := by
  obtain ⟨g, s, c, e⟩ := hb
  obtain ⟨l1, l2, l3, l4, l5⟩ := l
  have st : ∀ g' c', ItemsOf K (upd H b (bagO g' s c')) (.ref p) xs := fun g' c' => .inl ⟨p, rfl, .inl (SqL.of (by rw [upd_ne l1]; exact l2))⟩
  exact ⟨_, h0, _, hv, b, g, s, c, .ref p, xs, rfl, e, .inl ⟨p, rfl, .inl (SqL.of l2)⟩, st, l3, by omega, fun y g' c' hy => k y _ (Keep.upd rfl) ⟨g', s, c', upd_same⟩ ((l5 y hy).keep (Keep.upd rfl))⟩
theorem pick_cst {K : PySem.W.Frag} {b : Addr} {t : L2.TA} {H : Hp} {Q : VK} (hb : BagAt b H) (h0 : σ[0]? = some (some (.ref b))) (h : CstOk (J b) c σ t) (c0 : 0 < c) (c1 : c < 1000)
    (k : ∀ y H', Keep (J b) H H' → BagAt b H' → (∀ H2, OkV (J b) 0 100 H2 y) → Q y H') : tCall (spPick K) [] E0 (tCons (tVar 0) (tCons (tLst t) tNil)) σ H Q := by
  obtain ⟨g, s, d, e⟩ := hb
  refine ⟨_, h0, h H _ fun vs l ok => ⟨by rw [sizeLine_eq]; omega, fun p np => ?_⟩⟩
  have ne : p ≠ b := (ne_of_none e np).symm
  have e2 : upd H p (.lst vs) b = some (bagO g s d) := by rw [upd_ne ne.symm]; exact e
  have st : ∀ g' c', ItemsOf K (upd (upd H p (.lst vs)) b (bagO g' s c')) (.ref p) vs := fun g' c' => .inl ⟨p, rfl, .inl (SqL.of (by rw [upd_ne ne]; exact upd_same))⟩
  exact ⟨b, g, s, d, .ref p, vs, rfl, e2, .inl ⟨p, rfl, .inl (SqL.of upd_same)⟩, st, by omega, by omega, fun y g' c' hy => k y _ ((Keep.new np).trans (Keep.upd rfl)) ⟨g', s, c', upd_same⟩ (ok y hy)⟩
end
end K0
-- K0Drawn
set_option maxRecDepth 100000
set_option maxHeartbeats 400000
namespace K0
open PySem L2 FM He
abbrev s__law_drawn_values : Stmt := top 106
theorem sc__law_drawn_values : FnScope ["_law_bag", "_law_some", "_law_one", "_law_two", "_law_papers", "_law_forks", "_law_found"] ["_law_bag"] (defScope s__law_drawn_values) := ⟨rfl, rfl, rfl, by decide +kernel, rfl, by decide +kernel, by decide +kernel⟩
theorem BagAt.live {b : Addr} {H : Hp} (h : BagAt b H) : Live (J b) H := fun a e => by
  obtain ⟨g, s, c, z⟩ := h
  exact ⟨_, by rw [e]; exact z⟩
def OneOk (b : Addr → Prop) (H : Hp) (o : Addr) : Prop := ∃ (i : Int) (q : Addr) (v : V), i.natAbs.log2 < 1920 ∧ (PyData.shown (.int i)).length ≤ 100 ∧ ¬ b o ∧ H o = some (.tup [.int i, .ref q]) ∧ ¬ b q ∧ H q = some (.tup [v]) ∧ OkV b 1 600 H v
theorem OneOk.keep {b : Addr → Prop} {H H1 : Hp} {o : Addr} (h : OneOk b H o) (k : Keep b H H1) : OneOk b H1 o := by
  obtain ⟨i, q, v, h0, h00, h1, h2, h3, h4, h5⟩ := h
  exact ⟨i, q, v, h0, h00, h1, k _ _ h1 h2, h3, k _ _ h3 h4, h5.keep k⟩
theorem OneOk.more {b : Addr → Prop} {H : Hp} {o p : Addr} (h : OneOk b H o) (np : H p = none) : OneOk (fun a => b a ∨ a = p) H o := by
  obtain ⟨i, q, v, h0, h00, h1, h2, h3, h4, h5⟩ := h
  exact ⟨i, q, v, h0, h00, fun z => z.elim h1 (ne_of_none h2 np), h2, fun z => z.elim h3 (ne_of_none h4 np), h4, h5.more np⟩
theorem OneOk.okv {b : Addr → Prop} {H : Hp} {o : Addr} (h : OneOk b H o) : OkV b 3 800 H (.ref o) := by
  obtain ⟨i, q, v, h0, h00, h1, h2, h3, h4, h5⟩ := h
  have a0 : OkVs b 1 (600 + 0) H [v] := .cons h5 .nil
  have a1 : OkV b 2 605 H (.ref q) := OkV.tup a0 h4 h3
  have a2 : OkV b 2 100 H (.int i) := (OkV.int h0 h00).mono (Nat.zero_le 2) (Nat.le_refl _)
  have a3 : OkVs b 2 (605 + 0) H [.ref q] := .cons a1 .nil
  have a4 : OkVs b 2 (100 + (605 + 0)) H [.int i, .ref q] := .cons a2 a3
  exact (OkV.tup a4 h2 h1).mono (Nat.le_refl 3) (by show 712 ≤ 800; decide)
theorem one_mk {b : Addr → Prop} {H0 : Hp} {σ : L2.St} {i : Int} {t : L2.TE} (hb : Live b H0) (h : LitOk b 1 600 H0 σ t) {H : Hp} {Q : VK} (S : Same H0 H) (h1 : i.natAbs.log2 < 1920) (h2 : (PyData.shown (.int i)).length ≤ 100)
    (k : ∀ o H', Same H H' → OneOk b H' o → Q (.ref o) H') : tTup (tCons (tC (.int i)) (tCons (tTup (tCons t tNil)) tNil)) σ H Q := by
  refine h H _ S fun v H1 S1 ov => ⟨by show 1 ≤ sizeLine; decide, fun q nq => ⟨by show 2 ≤ sizeLine; decide, fun o no => ?_⟩⟩
  have L1 := (hb.same (S.trans S1))
  have S2 := same_upd (o := .tup [v]) nq
  have S3 := same_upd (o := .tup [.int i, .ref q]) no
  exact k o _ ((S1.trans S2).trans S3) ⟨i, q, v, h1, h2, (L1.same S2).ne no, upd_same, L1.ne nq, S3 _ _ upd_same, ov.keep (.of (S2.trans S3))⟩
/-- one[1] * 2 -/
theorem twice_mk {K : PySem.W.Frag} {b : Addr → Prop} {H0 : Hp} {σ : L2.St} {j : Nat} {o : Addr} (hb : Live b H0) (hv : σ[j]? = some (some (.ref o))) (h : OneOk b H0 o) :
    LitOk b 2 1300 H0 σ (tOp (rRepT K) (tOp (rIx K) (tVar j) (tC (.int 1))) (tC (.int 2))) := fun H Q S k => by
  obtain ⟨i, q, v, h0, h00, h1, h2, h3, h4, h5⟩ := h
  refine ⟨_, hv, .inr (.inl ⟨o, _, 1, .ref q, rfl, rfl, SqT.of (S _ _ h2), rfl, q, 2, [v], rfl, rfl, SqT.of (S _ _ h4), by simp, by decide, by decide, by simp, fun p np => ?_⟩)⟩
  have e : (List.replicate (2 : Int).toNat [v]).flatten = [v, v] := rfl
  rw [e]
  have o1 : OkV b 1 600 (upd H p (.tup [v, v])) v := h5.keep (.of (S.trans (same_upd np)))
  have a0 : OkVs b 1 (600 + 0) (upd H p (.tup [v, v])) [v] := .cons o1 .nil
  have a1 : OkVs b 1 (600 + (600 + 0)) (upd H p (.tup [v, v])) [v, v] := .cons o1 a0
  exact k _ _ (same_upd np) ((OkV.tup a1 upd_same ((hb.same S).ne np)).mono (Nat.le_refl 2) (by show 1207 ≤ 1300; decide))
def spDrawn (K : PySem.W.Frag) : Sp := fun vs H Q _ => ∃ b : Addr, vs = [.ref b] ∧ BagAt b H ∧
  ∀ H' p xs, Keep (J b) H H' → BagAt b H' → p ≠ b → H' p = some (.lst xs) → xs.length = 6 → OkVs (J b) 8 9000 H' xs → Q (.ref p) H'
section
variable {P : Program} {w : World} {K : PySem.W.Frag} {mg : Str → Option Value} {base : Heap}
theorem ok_drawn {f fP fT : Addr} {fd dP dT : FuncData} (F : FnP K "_law_drawn_values" s__law_drawn_values f fd) (TB0 : TB mg) (F__law_pick : FnP K "_law_pick" sPick fP dP) (F__law_throw : FnP K "_law_throw" sThrow fT dT)
    (gP : mg "_law_pick" = some (.ref fP)) (gT : mg "_law_throw" = some (.ref fT)) : FnOk P w K mg base CX0 3 f fd ["_law_bag"] (spDrawn K) := by
  have b__law_throw : Binds K dT ["_law_bag", "_law_total"] [] := F__law_throw.bindsN fun _ _ _ _ _ _ us hl => match us, hl with | [_, _], _ => rfl
  have b__law_pick : Binds K dP ["_law_bag", "_law_items"] [] := F__law_pick.bindsN fun _ _ _ _ _ _ us hl => match us, hl with | [_, _], _ => rfl
  have G__law_pick : FnOk P w K mg base CX0 2 fP dP _ _ := ok_pick F__law_pick TB0 F__law_throw gT b__law_throw
  refine F.ok sc__law_drawn_values (fun vs H Q E h => ?_) (fun cdv A outer s H vs Q E hr h => ?_)
  · obtain ⟨b, rfl, _⟩ := h
    rfl
  · obtain ⟨b, rfl, hb, k⟩ := h
    have nd := sc__law_drawn_values.nd
    refine ⟨_, PSs.nox (C8.pss_cut (ps_set (i := 1) nd rfl (.inl rfl) (pe_lst (pa_cons (pe_un un_neg pe_int) (pa_cons pe_int (pa_cons pe_non (pa_cons pe_bl (pa_cons pe_str (pa_cons (pe_tup pa_nil) (pa_cons (pe_lst (pa_cons pe_int pa_nil)) (pa_cons (pe_disp (pps_cons pe_str pe_int pps_nil) rfl rfl (fun z => nomatch z) (by decide)) (pa_cons (pe_op op_powW pe_int pe_int) (pa_cons (pe_tup (pa_cons pe_str (pa_cons pe_str pa_nil))) (pa_cons (pe_disT (hu_of hr) (pps_cons (pe_tup (pa_cons pe_int (pa_cons pe_int pa_nil))) (pe_tup (pa_cons pe_str (pa_cons pe_str pa_nil))) pps_nil)) pa_nil)))))))))))))
      (C8.pss_cut (ps_asg (pe_tup (pa_cons (pe_tup (pa_cons pe_int (pa_cons (pe_tup (pa_cons (pe_tup (pa_cons pe_int (pa_cons pe_str (pa_cons pe_str (pa_cons pe_int pa_nil))))) pa_nil)) pa_nil))) (pa_cons (pe_tup (pa_cons pe_int (pa_cons (pe_tup (pa_cons (pe_tup (pa_cons pe_int (pa_cons pe_str (pa_cons pe_str (pa_cons pe_int pa_nil))))) pa_nil)) pa_nil))) pa_nil))) (pg_tup (by rfl) (pgs_cons (pg_name (i := 2) nd rfl (.inl rfl)) (pgs_cons (pg_name (i := 3) nd rfl (.inl rfl)) pgs_nil))))
      (C8.pss_cut (ps_set (i := 4) nd rfl (.inl rfl) (pe_lst (pa_cons (pe_tup (pa_cons pe_str (pa_cons pe_str (pa_cons (pe_tup (pa_cons pe_int (pa_cons (pe_tup pa_nil) pa_nil))) (pa_cons (pe_tup (pa_cons pe_int (pa_cons (pe_tup pa_nil) pa_nil))) pa_nil))))) (pa_cons (pe_tup (pa_cons pe_str (pa_cons pe_str (pa_cons (pv 2) (pa_cons (pv 3) pa_nil))))) (pa_cons (pe_tup (pa_cons pe_str (pa_cons pe_str (pa_cons (pv 3) (pa_cons (pv 2) pa_nil))))) pa_nil)))))
      (C8.pss_cut (ps_set (i := 5) nd rfl (.inl rfl) (pe_lst (pa_cons (pe_tup (pa_cons pe_str (pa_cons pe_str (pa_cons pe_str (pa_cons (pv 2) (pa_cons (pv 3) pa_nil)))))) (pa_cons (pe_tup (pa_cons pe_str (pa_cons pe_str (pa_cons pe_str (pa_cons (pv 3) (pa_cons (pv 2) pa_nil)))))) pa_nil))))
      (C8.pss_cut (ps_expr (pe_bm PySem.F.plainAttrs_list PySem.F.slot_list_append PySem.F.type_list_append mt_append (pv 5) (pa_cons (pe_tup (pa_cons pe_str (pa_cons pe_str (pa_cons pe_str (pa_cons (pe_tup (pa_cons pe_int (pa_cons (pe_op op_repT (pe_ix ix_seq (pv 2) pe_int (fun _ _ => rfl)) pe_int) pa_nil))) (pa_cons (pe_tup (pa_cons pe_int (pa_cons (pe_op op_repT (pe_ix ix_seq (pv 3) pe_int (fun _ _ => rfl)) pe_int) pa_nil))) pa_nil)))))) pa_nil)))
      (C8.pss_cut (ps_set (i := 6) nd rfl (.inl rfl) (pe_lst (pa_cons (pe_call G__law_pick (hr.mono (by decide)) rfl gP F__law_pick.kp b__law_pick .nil pass0 (pa_cons (pv 0) (pa_cons (pv 1) pa_nil))) (pa_cons (pe_call G__law_pick (hr.mono (by decide)) rfl gP F__law_pick.kp b__law_pick .nil pass0 (pa_cons (pv 0) (pa_cons (pe_lst (pa_cons pe_str (pa_cons pe_str (pa_cons pe_str (pa_cons pe_str pa_nil))))) pa_nil))) pa_nil))))
      (C8.pss_cut (ps_expr (pe_bm PySem.F.plainAttrs_list PySem.F.slot_list_append PySem.F.type_list_append mt_append (pv 6) (pa_cons (pe_call G__law_pick (hr.mono (by decide)) rfl gP F__law_pick.kp b__law_pick .nil pass0 (pa_cons (pv 0) (pa_cons (pe_lst (pa_cons pe_int (pa_cons pe_int (pa_cons pe_int (pa_cons pe_int (pa_cons pe_int pa_nil)))))) pa_nil))) pa_nil)))
      (C8.pss_cut (ps_set (i := 6) nd rfl (.inl rfl) (pe_op op_cat (pv 6) (pe_lst (pa_cons (pe_call G__law_pick (hr.mono (by decide)) rfl gP F__law_pick.kp b__law_pick .nil pass0 (pa_cons (pv 0) (pa_cons (pv 4) pa_nil))) (pa_cons (pe_call G__law_pick (hr.mono (by decide)) rfl gP F__law_pick.kp b__law_pick .nil pass0 (pa_cons (pv 0) (pa_cons (pv 5) pa_nil))) pa_nil)))))
      (C8.pss_cut (ps_expr (pe_bm PySem.F.plainAttrs_list PySem.F.slot_list_append PySem.F.type_list_append mt_append (pv 6) (pa_cons (pe_call G__law_pick (hr.mono (by decide)) rfl gP F__law_pick.kp b__law_pick .nil pass0 (pa_cons (pv 0) (pa_cons (pe_lst (pa_cons pe_int (pa_cons pe_int (pa_cons pe_int (pa_cons pe_int (pa_cons (pe_op op_powW pe_int pe_int) pa_nil)))))) pa_nil))) pa_nil)))
      (pss_one (ps_ret (pv 6)))))))))))), ?_⟩
    have lv := hb.live
    refine ⟨fun σ H1 => ∃ ps xs, σ = [some (.ref b), some (.ref ps), none, none, none, none, none] ∧ Keep (J b) H H1 ∧ BagAt b H1 ∧ ListOk b 3 600 H1 ps xs, ?_, ?_⟩
    · refine asg_lst (b := J b) (n := 3) (m := 600) (c := 11) ?_ (Same.refl H) (by decide) fun vs H1 S1 l ok p np => ?_
      · exact (els_cons (LitOk.mono (n := 0) lit_neg)
        (els_cons (LitOk.mono (n := 0) lit_int)
        (els_cons (LitOk.mono (n := 0) lit_non)
        (els_cons (LitOk.mono (n := 0) lit_bl)
        (els_cons (LitOk.mono (n := 0) lit_str)
        (els_cons (LitOk.mono (n := 1) (lit_tup (n := 0) lv lits_nil))
        (els_cons (LitOk.mono (n := 1) (lit_lst (n := 0) lv (lits_cons lit_int lits_nil)))
        (els_cons (LitOk.mono (n := 1) (lit_dS lv))
        (els_cons (LitOk.mono (n := 0) lit_pow)
        (els_cons (LitOk.mono (n := 1) (lit_tup (n := 0) lv (lits_cons lit_str (lits_cons lit_str lits_nil))))
        (els_cons (LitOk.mono (n := 2) (lit_dT lv (lit_tup (n := 0) lv (lits_cons lit_str (lits_cons lit_str lits_nil)))))
        els_nil)))))))))))
      have S2 := S1.trans (same_upd (o := .lst vs) np)
      exact ⟨p, vs, rfl, .of S2, hb.same S2, (lv.same S1).ne np, upd_same, by omega, by omega, fun y hy => (ok y hy).keep (.of (same_upd np))⟩
    · rintro σ H1 ⟨ps, xs, rfl, k1, b1, ls⟩
      have lv1 := b1.live
      refine ⟨fun σ H2 => ∃ o t, σ = [some (.ref b), some (.ref ps), some (.ref o), some (.ref t), none, none, none] ∧ Keep (J b) H1 H2 ∧ BagAt b H2 ∧ OneOk (J b) H2 o ∧ OneOk (J b) H2 t, ?_, ?_⟩
      · refine asg_tup2 ?_
        refine one_mk lv1 (LitOk.mono (n := 1) (lit_tup (n := 0) lv1 (lits_cons lit_int (lits_cons lit_str (lits_cons lit_str (lits_cons lit_int lits_nil)))))) (Same.refl H1) (by decide +kernel) (by decide +kernel) fun o H2 S2 oo => ?_
        refine one_mk lv1 (LitOk.mono (n := 1) (lit_tup (n := 0) lv1 (lits_cons lit_int (lits_cons lit_str (lits_cons lit_str (lits_cons lit_int lits_nil)))))) S2 (by decide +kernel) (by decide +kernel) fun t H3 S3 ot => ?_
        refine fun p np => ⟨p, _, rfl, SqT.of upd_same, rfl, _, _, rfl, _, _, rfl, rfl, ?_⟩
        have S4 := same_upd (o := .tup [.ref o, .ref t]) np
        exact ⟨o, t, rfl, .of ((S2.trans S3).trans S4), b1.same ((S2.trans S3).trans S4), oo.keep (.of (S3.trans S4)), ot.keep (.of S4)⟩
      · rintro σ H2 ⟨o, t, rfl, k2, b2, oo, ot⟩
        have lv2 := b2.live
        refine ⟨fun σ H3 => ∃ pp ys, σ = [some (.ref b), some (.ref ps), some (.ref o), some (.ref t), some (.ref pp), none, none] ∧ Keep (J b) H2 H3 ∧ BagAt b H3 ∧ ListOk b 4 3000 H3 pp ys, ?_, ?_⟩
        · refine asg_lst (b := J b) (n := 4) (m := 3000) (c := 3) ?_ (Same.refl H2) (by decide) fun vs H3 S3 l ok p np => ?_
          · exact (els_cons (LitOk.mono (n := 4) (lit_tup (n := 3) lv2 (lits_cons lit_str (lits_cons lit_str (lits_cons (lit_tup (n := 2) lv2 (lits_cons lit_int (lits_cons (LitOk.mono (n := 1) (n' := 2) (m' := 10) (lit_tup (n := 0) lv2 lits_nil)) lits_nil))) (lits_cons (lit_tup (n := 2) lv2 (lits_cons lit_int (lits_cons (LitOk.mono (n := 1) (n' := 2) (m' := 10) (lit_tup (n := 0) lv2 lits_nil)) lits_nil))) lits_nil))))))
        (els_cons (LitOk.mono (n := 4) (lit_tup (n := 3) lv2 (lits_cons lit_str (lits_cons lit_str (lits_cons (LitOk.mono (n := 3) (n' := 3) (m' := 800) (lit_var (i := 2) rfl oo.okv)) (lits_cons (LitOk.mono (n := 3) (n' := 3) (m' := 800) (lit_var (i := 3) rfl ot.okv)) lits_nil))))))
        (els_cons (LitOk.mono (n := 4) (lit_tup (n := 3) lv2 (lits_cons lit_str (lits_cons lit_str (lits_cons (LitOk.mono (n := 3) (n' := 3) (m' := 800) (lit_var (i := 3) rfl ot.okv)) (lits_cons (LitOk.mono (n := 3) (n' := 3) (m' := 800) (lit_var (i := 2) rfl oo.okv)) lits_nil))))))
        els_nil)))
          have S4 := S3.trans (same_upd (o := .lst vs) np)
          exact ⟨p, vs, rfl, .of S4, b2.same S4, (lv2.same S3).ne np, upd_same, by omega, by omega, fun y hy => (ok y hy).keep (.of (same_upd np))⟩
        · rintro σ H3 ⟨pp, ys, rfl, k3, b3, lp⟩
          have ls3 := ls.keep (k2.trans k3)
          have oo3 := oo.keep k3
          have ot3 := ot.keep k3
          have lv3 := b3.live
          have k03 := (k1.trans k2).trans k3
          clear ls oo ot lv lv1 lv2 b1 b2 k1 k2 k3
          -- the forks, and one more of them
          refine ⟨fun σ H4 => ∃ pf y1 y2 Hb, σ = [some (.ref b), some (.ref ps), some (.ref o), some (.ref t), some (.ref pp), some (.ref pf), none] ∧ Same H3 Hb ∧ Hb pf = none ∧ H4 = upd Hb pf (.lst [y1, y2]) ∧ OkV (J b) 4 3000 Hb y1 ∧ OkV (J b) 4 3000 Hb y2, ?_, ?_⟩
          · refine asg_lst (b := J b) (n := 4) (m := 3000) (c := 2) ?_ (Same.refl H3) (by decide) fun vs H4 S4 l ok p np => ?_
            · exact (els_cons (LitOk.mono (n := 4) (lit_tup (n := 3) lv3 (lits_cons lit_str (lits_cons lit_str (lits_cons lit_str (lits_cons (LitOk.mono (n := 3) (n' := 3) (m' := 800) (lit_var (i := 2) rfl oo3.okv)) (lits_cons (LitOk.mono (n := 3) (n' := 3) (m' := 800) (lit_var (i := 3) rfl ot3.okv)) lits_nil)))))))
        (els_cons (LitOk.mono (n := 4) (lit_tup (n := 3) lv3 (lits_cons lit_str (lits_cons lit_str (lits_cons lit_str (lits_cons (LitOk.mono (n := 3) (n' := 3) (m' := 800) (lit_var (i := 3) rfl ot3.okv)) (lits_cons (LitOk.mono (n := 3) (n' := 3) (m' := 800) (lit_var (i := 2) rfl oo3.okv)) lits_nil)))))))
        els_nil))
            match vs, l with
            | [y1, y2], _ => exact ⟨p, y1, y2, H4, rfl, S4, np, rfl, ok y1 (by simp), ok y2 (by simp)⟩
          · rintro σ H4 ⟨pf, y1, y2, Hb, rfl, S4, nf, rfl, o1, o2⟩
            refine ⟨fun σ H5 => ∃ zs, σ = [some (.ref b), some (.ref ps), some (.ref o), some (.ref t), some (.ref pp), some (.ref pf), none] ∧ Keep (J b) H3 H5 ∧ BagAt b H5 ∧ ListOk b 4 4000 H5 pf zs, ?_, ?_⟩
            · have kb : Keep (fun a => J b a ∨ a = pf) Hb (upd Hb pf (.lst [y1, y2])) := Keep.upd (.inr rfl)
              have oB := ((oo3.keep (.of S4)).more nf).keep kb
              have tB := ((ot3.keep (.of S4)).more nf).keep kb
              have bb := b3.same S4
              have lvB : Live (fun a => J b a ∨ a = pf) (upd Hb pf (.lst [y1, y2])) := fun a ha => by
                rcases ha with ha | ha
                · exact (bb.same (same_upd nf)).live a ha
                · exact ⟨_, by rw [ha]; exact upd_same⟩
              refine app_mk rfl upd_same (lit_go (b := fun a => J b a ∨ a = pf) (n := 4) (m := 4000) (H0 := upd Hb pf (.lst [y1, y2])) ?_ (Same.refl _) fun v H5 S5 ov => app_end (S5 _ _ upd_same) (by show 2 < 1000; decide) ?_)
              · exact LitOk.mono (n := 4) (lit_tup (n := 3) lvB (lits_cons lit_str (lits_cons lit_str (lits_cons lit_str (lits_cons (lit_tup (n := 2) lvB (lits_cons lit_int (lits_cons (twice_mk (j := 2) lvB rfl oB) lits_nil))) (lits_cons (lit_tup (n := 2) lvB (lits_cons lit_int (lits_cons (twice_mk (j := 3) lvB rfl tB) lits_nil))) lits_nil))))))
              have kk : Keep (J b) Hb (upd H5 pf (.lst ([y1, y2] ++ [v]))) := (((Keep.new nf).trans (.of S5)) : Keep (J b) Hb H5).put nf
              have nb : pf ≠ b := fun z => by
                obtain ⟨g, s, c, e⟩ := bb
                rw [← z, nf] at e
                cases e
              refine ⟨[y1, y2, v], rfl, (Keep.of S4).trans kk, ?_, nb, upd_same, by show 0 < 3; decide, by show 3 < 1000; decide, fun y hy => ?_⟩
              · obtain ⟨g, s, c, e⟩ := bb
                exact ⟨g, s, c, by rw [upd_ne nb.symm]; exact S5 _ _ (by rw [upd_ne nb.symm]; exact e)⟩
              · simp only [List.mem_cons, List.not_mem_nil, or_false] at hy
                rcases hy with rfl | rfl | rfl
                · exact (o1.keep kk).mono (by decide) (by decide)
                · exact (o2.keep kk).mono (by decide) (by decide)
                · exact ((ov.keep (Keep.upd (.inr rfl))).less fun a ha => .inl ha)
            · rintro σ H5 ⟨zs, rfl, k5, b5, lf⟩
              have ls5 := ls3.keep k5
              have lp5 := lp.keep k5
              have k05 := k03.trans k5
              clear ls3 lp k5 k03 oo3 ot3 o1 o2 S4 nf lv3 b3
              refine ⟨fun σ H6 => ∃ p6 y1 y2 Hc, σ = [some (.ref b), some (.ref ps), some (.ref o), some (.ref t), some (.ref pp), some (.ref pf), some (.ref p6)] ∧ Keep (J b) H5 Hc ∧ Hc p6 = none ∧ H6 = upd Hc p6 (.lst [y1, y2]) ∧ BagAt b Hc ∧ OkV (J b) 3 600 Hc y1 ∧ ∀ H, OkV (J b) 0 100 H y2, ?_, ?_⟩
              · refine pick_var b5 rfl rfl ls5 fun y1 H6 k6 b6 u1 => ?_
                refine pick_cst b6 rfl (cst_cons (cst_cons (cst_cons (cst_cons cst_nil fun _ => OkV.str (by decide +kernel)) fun _ => OkV.str (by decide +kernel)) fun _ => OkV.str (by decide +kernel)) fun _ => OkV.str (by decide +kernel)) (by decide) (by decide) fun y2 H7 k7 b7 u2 => ?_
                exact ⟨by show 2 ≤ sizeLine; decide, fun p np => ⟨p, y1, y2, H7, rfl, k6.trans k7, np, rfl, b7, u1.keep k7, u2⟩⟩
              · rintro σ H6 ⟨p6, y1, y2, Hc, rfl, kc, n6, rfl, bc, u1, u2⟩
                have nb : p6 ≠ b := fun z => by
                  obtain ⟨g, s, c, e⟩ := bc
                  rw [← z, n6] at e
                  cases e
                have bN : BagAt b (upd Hc p6 (.lst [y1, y2])) := bc.same (same_upd n6)
                refine ⟨fun σ H7 => ∃ y3, σ = [some (.ref b), some (.ref ps), some (.ref o), some (.ref t), some (.ref pp), some (.ref pf), some (.ref p6)] ∧ Keep (J b) Hc H7 ∧ BagAt b H7 ∧ H7 p6 = some (.lst [y1, y2, y3]) ∧ ∀ H, OkV (J b) 0 100 H y3, ?_, ?_⟩
                · refine app_mk rfl upd_same ?_
                  refine pick_cst bN rfl (cst_cons (cst_cons (cst_cons (cst_cons (cst_cons cst_nil fun _ => OkV.int (by decide +kernel) (by decide +kernel)) fun _ => OkV.int (by decide +kernel) (by decide +kernel)) fun _ => OkV.int (by decide +kernel) (by decide +kernel)) fun _ => OkV.int (by decide +kernel) (by decide +kernel)) fun _ => OkV.int (by decide +kernel) (by decide +kernel)) (by decide) (by decide) fun y3 H7 k7 b7 u3 => app_nil (k7 _ _ nb upd_same) (by show 2 ≤ 100; decide) ?_
                  obtain ⟨g, s, c, e⟩ := b7
                  exact ⟨y3, rfl, ((Keep.new n6).trans k7).put n6, ⟨g, s, c, by rw [upd_ne nb.symm]; exact e⟩, upd_same, u3⟩
                · rintro σ H7 ⟨y3, rfl, k7, b7, e7, u3⟩
                  have lp7 := lp5.keep (kc.trans k7)
                  have lf7 := lf.keep (kc.trans k7)
                  have v1 := u1.keep k7
                  have k07 := (k05.trans kc).trans k7
                  clear lp5 lf ls5 u1 k05 kc k7 bN bc b5 n6
                  refine ⟨fun σ H8 => ∃ p8 y4 y5 Hd, σ = [some (.ref b), some (.ref ps), some (.ref o), some (.ref t), some (.ref pp), some (.ref pf), some (.ref p8)] ∧ Keep (J b) H7 Hd ∧ Hd p8 = none ∧ H8 = upd Hd p8 (.lst [y1, y2, y3, y4, y5]) ∧ BagAt b Hd ∧ OkV (J b) 4 3000 Hd y4 ∧ OkV (J b) 4 4000 Hd y5, ?_, ?_⟩
                  · refine ⟨_, rfl, ?_⟩
                    refine pick_var b7 rfl rfl lp7 fun y4 H8 k8 b8 u4 => ?_
                    refine pick_var b8 rfl rfl (lf7.keep k8) fun y5 H9 k9 b9 u5 => ?_
                    refine ⟨by show 2 ≤ sizeLine; decide, fun q nq => ?_⟩
                    have e9 := k9 _ _ nb (k8 _ _ nb e7)
                    refine ⟨p6, q, _, _, rfl, rfl, (same_upd nq) _ _ e9, upd_same, by show 3 + 2 ≤ sizeLine; decide, fun p np => ?_⟩
                    exact ⟨p, y4, y5, _, rfl, (k8.trans k9).trans (Keep.new nq), np, rfl, b9.same (same_upd nq), (u4.keep k9).keep (Keep.new nq), u5.keep (Keep.new nq)⟩
                  · rintro σ H8 ⟨p8, y4, y5, Hd, rfl, kd, n8, rfl, bd, u4, u5⟩
                    have nb8 : p8 ≠ b := fun z => by
                      obtain ⟨g, s, c, e⟩ := bd
                      rw [← z, n8] at e
                      cases e
                    have bN : BagAt b (upd Hd p8 (.lst [y1, y2, y3, y4, y5])) := bd.same (same_upd n8)
                    refine ⟨fun σ H9 => ∃ y6, σ = [some (.ref b), some (.ref ps), some (.ref o), some (.ref t), some (.ref pp), some (.ref pf), some (.ref p8)] ∧ Keep (J b) Hd H9 ∧ BagAt b H9 ∧ H9 p8 = some (.lst [y1, y2, y3, y4, y5, y6]) ∧ ∀ H, OkV (J b) 0 100 H y6, ?_, ?_⟩
                    · refine app_mk rfl upd_same ?_
                      refine pick_cst bN rfl (cst_cons (cst_cons (cst_cons (cst_cons (cst_pow cst_nil) fun _ => OkV.int (by decide +kernel) (by decide +kernel)) fun _ => OkV.int (by decide +kernel) (by decide +kernel)) fun _ => OkV.int (by decide +kernel) (by decide +kernel)) fun _ => OkV.int (by decide +kernel) (by decide +kernel)) (by decide) (by decide) fun y6 H9 k9 b9 u6 => app_nil (k9 _ _ nb8 upd_same) (by show 5 ≤ 100; decide) ?_
                      obtain ⟨g, s, c, e⟩ := b9
                      exact ⟨y6, rfl, ((Keep.new n8).trans k9).put n8, ⟨g, s, c, by rw [upd_ne nb8.symm]; exact e⟩, upd_same, u6⟩
                    rintro σ H9 ⟨y6, rfl, kk, b9, e9, u6⟩
                    refine ⟨_, rfl, ?_⟩
                    refine k _ p8 [y1, y2, y3, y4, y5, y6] ((k07.trans kd).trans kk) b9 nb8 e9 rfl ?_
                    have w1 := ((v1.keep kd).keep kk).mono (n' := 8) (m' := 600) (by decide) (by decide)
                    have w2 := (u2 H9).mono (n' := 8) (m' := 100) (by decide) (by decide)
                    have w3 := (u3 H9).mono (n' := 8) (m' := 100) (by decide) (by decide)
                    have w4 := (u4.keep kk).mono (n' := 8) (m' := 3000) (by decide) (by decide)
                    have w5 := (u5.keep kk).mono (n' := 8) (m' := 4000) (by decide) (by decide)
                    have w6 := (u6 H9).mono (n' := 8) (m' := 100) (by decide) (by decide)
                    exact OkVs.less (OkVs.cons w1 (OkVs.cons w2 (OkVs.cons w3 (OkVs.cons w4 (OkVs.cons w5 (OkVs.cons (m' := 0) w6 .nil)))))) (by decide)
end
end K0
-- FmGuard
set_option maxRecDepth 100000
set_option maxHeartbeats 4000000
/-! Promises of defs that run outside of any repr; the law's call with one code table. -/
namespace FM
open PySem PySem.Spec PyProof.Rows L2
structure FnG (P : Program) (w : World) (K : PySem.W.Frag) (mg : Str → Option Value) (base : Heap) (k : Nat) (f : Addr) (fd : FuncData) (ps : List Str) (sp : List V → Hp → VK → Prop) : Prop where
  len : ∀ vs H Q, sp vs H Q → vs.length = ps.length
  run : ∀ (A : Around) (outer : List Env) (s : Shared) (H : Hp) (args : Args) (us : List Value) (vs : List V) (Q : VK),
    A.guards = some [] → Room k A → Env0 P w K mg base A outer s H → BindsTo s fd args (ps.zip us) → Vals vs us → sp vs H Q →
    codeAny (model P w) A (.call (.ref f) args) (CR C8.CX0 outer P w H s Q C8.E0) s
section
variable {P : Program} {w : World} {K : PySem.W.Frag} {mg : Str → Option Value} {base : Heap}
theorem FnG.of {x qual : Str} {params : Arguments} {body : List Stmt} {scope : Scope} {dvs : List V} {kws : List (Str × V)} {f : Addr} {fd : FuncData}
    {N ps : List Str} {k : Nat} {sp : List V → Hp → VK → Prop} (F : FunD K x qual params body scope dvs kws f fd) (S : FnScope N ps scope) (len : ∀ vs H Q, sp vs H Q → vs.length = ps.length)
    (hb : ∀ (cdv : Value) (A : Around) (outer : List Env) (s : Shared) (H : Hp) (vs : List V) (Q : VK), fd.code = cdv → A.guards = some [] → Room k (A.deeper (envOfC qual scope s.heap.objs.size f cdv)) → sp vs H Q →
      ∃ t, PSs (cxOf C8.CX0 P w K mg base N qual scope f cdv A outer s H C8.E0) body t ∧ t { nx := fun _ H' => Q .non H', rt := Q } (L2.start N vs) H) :
    FnG P w K mg base (k + 1) f fd ps sp := by
  obtain ⟨oc, od, dV, kV, doc, pm, an, cdv, ct, osl, rfl, lk, hcd, _, _⟩ := F.ex
  exact ⟨len, fun A outer s H args us vs Q hg hr e0 hbt r h => LamX.run_ofS lk hcd S hr e0 hbt r (len _ _ _ h) fun hr' => hb cdv A outer s H vs Q rfl hg hr' h⟩
end
section
variable {X : Cx} {k : Nat} {f : Addr} {fd : FuncData} {ps : List Str} {sp : List V → Hp → VK → Prop} {x : Str} {q pos : Pos} {e : Expr} {es : List Expr} {t : TA}
theorem pe_callG (F : FnG X.prog X.w X.K X.mg X.base k f fd ps sp) (hgu : X.A.guards = some []) (hr : Room k X.A) (hg : Gl X x) (hm : X.mg x = some (.ref f))
    (hk : PySem.W.keepIn X.K (.ref f) = true) (hb : Binds X.K fd ps []) (ha : PA X (e :: es) t) (hdb : (x == ("__debug__" : Str)) = false := by decide)
    (he : starEach (e :: es) X.env = (false, eval e X.env) :: starEach es X.env := by rfl) (hpl : (backTo pos (starEach es X.env)).any (·.1) = false := by rfl) :
    PE X (.Call (.Name x q) (e :: es) [] pos) (fun σ H Q => t σ H fun vs H1 => sp vs H1 Q) := by
  refine ⟨fun pins s σ H Q I h => wpAny_Call_Name_kw (ld_glob I hg hm ?_ hdb)⟩
  refine PySem.W.callWith_K (h₀ := X.base) I.ok.mod.kin hk (thn (ha.run pos pins s σ H _ I h) ?_) he hpl
  rintro us s1 ⟨vs, H1, I1, r, z⟩
  have b := hb s1 us I1.kIn (by rw [List.append_nil, ← r.length]; exact F.len _ _ _ z)
  rw [List.append_nil] at b
  refine ⟨I1.kIn, wpAny_call (codeAny_mono (F.run X.A X.stack s1 H1 ⟨us, []⟩ us vs Q hgu hr I1.env0 b r z) fun res s' hq => ?_)⟩
  cases res with
  | error e => exact False.elim hq
  | ok fl =>
    cases fl with
    | ret u => exact I1.after hq
    | next => exact False.elim hq
    | brk => exact False.elim hq
    | cont => exact False.elim hq
end
/-- the law's own call: T is the table of the code at c -/
theorem law_callG {P : Program} {w : World} {K : PySem.W.Frag} {mg mb : Str → Option Value} {k : Nat} {fa a c T : Addr} {fd : FuncData} {x : Str} {sp : List V → Hp → VK → Prop} {s : Shared} {vs : List Value} {ns : List Int}
    (kin : K.In s.heap) (g1 : s.heap.Ns mainGlobals mg) (g2 : s.heap.Ns builtinsNs mb) (g3 : ∀ x : Str, x ≠ "__name__" → mb x = bootBuiltins x) (g4 : s.heap.NoLimit) (g5 : s.gens = #[])
    (tT : s.heap.get? T = some { cls := .none, data := .fields #[] }) (tK : K.lookup T = none) (tC : PySem.W.CodeHd s.heap c T) (g6 : s.heap.BuiltinsAt mg T) (g7 : ∃ mm, s.heap.Ns sysModules mm)
    (la : s.heap.get? a = some { cls := .type "list", data := .seq vs.toArray }) (li : IntsAre vs ns) (ll : ns.length ≤ sizeLine) (hr : Room k callerA)
    (F : ∀ base : Heap, K.In base → base.Ns mainGlobals mg → LamX.TabB base mg c T → (∃ o, base.get? sysModules = some o) → FnG P w K mg base k fa fd [x] sp) (hbind : ∀ (s : Shared) (u : Value), BindsTo s fd ⟨[u], []⟩ [(x, u)])
    (hsp : ∀ H : Hp, H T = some (.tbl #[]) → SqL K H a (ns.map V.int) → sp [.ref a] H fun v _ => v = .bl true) :
    codeAny (model P w) callerA (.call (.ref fa) ⟨[.ref a], []⟩) (fun r s' => r = .ok (.ret (.bool true)) ∧ OldK s.heap s'.heap ∧ s'.os = s.os ∧ AllBare s'.gens) s := by
  have rel := vals_ints li
  have ne : a ≠ T := fun z => by rw [z, tT] at la; cases la
  let H : Hp := fun b => if b = T then some (.tbl #[]) else if b = a ∧ K.lookup a = none then some (.frz { cls := .type "list", data := .seq vs.toArray } (.lst (ns.map V.int))) else none
  have hT : H T = some (.tbl #[]) := if_pos rfl
  have other : ∀ b, b ≠ T → ¬ (b = a ∧ K.lookup a = none) → H b = none := fun b h1 h2 => (if_neg h1).trans (if_neg h2)
  have far : ∀ b o, s.heap.get? b = some o → (∀ vs n, o.data ≠ .seq vs n) → o.data ≠ .fields #[] → H b = none := fun b o e h1 h2 => by
    refine other b (fun z => ?_) fun z => ?_
    · rw [z, tT] at e; cases e; exact h2 rfl
    · rw [z.1, la] at e; cases e; exact h1 _ _ rfl
  have ok : HOk P w H s.heap := fun b u e => by
    by_cases h1 : b = T
    · subst h1
      cases hT.symm.trans e
      exact tT
    · by_cases h2 : b = a ∧ K.lookup a = none
      · cases ((if_neg h1).trans (if_pos h2)).symm.trans e
        rw [h2.1]
        exact ⟨la, by rw [List.length_map]; exact ll, vs, _, rel, la⟩
      · cases (other b h1 h2).symm.trans e
  have seq : SqL K H a (ns.map V.int) := by
    cases hk : K.lookup a with
    | none => exact .inl (.inr ⟨_, (if_neg ne).trans (if_pos ⟨rfl, hk⟩)⟩)
    | some o =>
      have e := kin a o hk
      rw [la] at e
      cases e
      exact .inr ⟨_, vs.toArray, _, hk, rfl, rfl, rfl, by rw [List.size_toArray, li.length]; exact ll, by simpa using rel⟩
  let B : Heap := hidT s.heap H
  have inB : ∀ b o, s.heap.get? b = some o → H b = none → B.get? b = some o := fun _ _ e n => hidT_get e n
  have dict : ∀ b o (es : Array DictEntry) (ep : Nat), s.heap.get? b = some o → o.data = .dict es ep → B.get? b = some o := fun b o es ep e d => inB b o e (far b o e (fun _ _ z => by rw [d] at z; cases z) fun z => by rw [d] at z; cases z)
  have names : ∀ (b : Addr) (m : Str → Option Value), s.heap.Ns b m → B.Ns b m := fun b m h => by
    obtain ⟨o, es, ep, e, d, r⟩ := h
    exact ⟨o, es, ep, dict b o es ep e d, d, r⟩
  have kinB : K.In B := fun b o e => by
    refine inB b o (kin b o e) (other b (fun z => ?_) fun z => ?_)
    · rw [z, tK] at e; cases e
    · rw [z.1, z.2] at e; cases e
  have mod : L2.Mod K mg B := by
    obtain ⟨mc, l1, l2⟩ := g4
    exact ⟨kinB, names _ _ g1, ⟨mb, names _ _ g2, g3⟩, ⟨mc, names _ _ l1, l2⟩⟩
  have tab : LamX.TabB B mg c T := by
    refine ⟨?_, ?_, fun z => ?_⟩
    · obtain ⟨o, fs, file, tf, flags, tg, inF, text, tt, e, r1, r2, r3, rest⟩ := tC
      refine ⟨o, fs, file, tf, flags, tg, inF, text, tt, inB c o e (far c o e (fun _ _ z => ?_) fun z => ?_), r1, r2, r3, rest⟩
      · rw [r2] at z; cases z
      · rw [r2] at z; cases z; simp at r3
    · obtain ⟨bm, ob, b1, b2, b3, b4, b5, b6, b7, b8⟩ := g6
      refine ⟨bm, ob, b1, b2, b3, b4, inB bm ob b5 (far bm ob b5 (fun _ _ z => ?_) fun z => ?_), b6, b7, b8⟩
      · rw [b8] at z; cases z
      · rw [b8] at z; cases z
    · obtain ⟨o, es, ep, e, d, _⟩ := g1
      rw [z, tT] at e; cases e; cases d
  have e0 : Env0 P w K mg B callerA [] s H := by
    constructor
    · rfl
    · exact mod
    · exact fun b o e => of_hidT e
    · exact Nat.le_of_eq (hidT_size _ _)
    · trivial
    · intro b hb; exact nomatch (show b ∈ ([] : List Addr) from hb)
    · exact ok
    · exact .of_eq g5
  refine codeAny_mono ((F B kinB (names _ _ g1) tab (by obtain ⟨mm, h⟩ := g7; obtain ⟨o, es, ep, e, _⟩ := names _ _ h; exact ⟨o, e⟩)).run callerA [] s H ⟨[.ref a], []⟩ [.ref a] [.ref a] _ rfl hr e0 (hbind s (.ref a)) (.cons rfl .nil) (hsp H hT seq)) fun r s' h => ?_
  cases r with
  | error e => exact False.elim h
  | ok fl =>
    cases fl with
    | next => exact False.elim h
    | brk => exact False.elim h
    | cont => exact False.elim h
    | ret u =>
      obtain ⟨v, H', os, bare, un, ok', ru, q⟩ := h
      have q' : v = .bl true := q
      subst q'
      cases ru
      have stay : ∀ b o, b ≠ T → s.heap.get? b = some o → s'.heap.get? b = some o := fun b o h1 e => by
        by_cases h2 : b = a ∧ K.lookup a = none
        · have z := un.frzs b _ _ ((if_neg h1).trans (if_pos h2))
          rw [h2.1, la] at e
          cases e
          rw [h2.1] at z ⊢
          exact (ok' a _ z).1
        · exact un.keep b o e (other b h1 h2) (fun z => nomatch (show b ∈ ([] : List Addr) from z)) (fun z => nomatch z)
      obtain ⟨more, tm⟩ := un.tbls T #[] hT
      have tN : s'.heap.get? T = some { cls := .none, data := .fields (#[] ++ more) } := ok' T _ tm
      refine ⟨rfl, ⟨fun b o e => ?_, fun b o e => ?_⟩, os, bare⟩
      · by_cases h1 : b = T
        · subst h1
          cases tT.symm.trans e
          exact .inr (.inl ⟨(tC.tab tT).isCodeTable, rfl, #[], more, rfl, tN⟩)
        · exact .inl (stay b o h1 e)
      · by_cases h1 : b = T
        · subst h1
          exact ⟨_, tN⟩
        · exact ⟨o, stay b o h1 e⟩
end FM
-- K0Right
set_option maxRecDepth 100000
set_option maxHeartbeats 1000000
namespace K0
open PySem L2 FM He
abbrev s__law_values_right : Stmt := top 107
theorem sc__law_values_right : FnScope ["_law_bag", "_law_odd", "_law_made", "_law_bases_here", "_law_at", "_law_one", "_law_told_here"] ["_law_bag"] (defScope s__law_values_right) := ⟨rfl, rfl, rfl, by decide +kernel, rfl, by decide +kernel, by decide +kernel⟩
structure TV (K : PySem.W.Frag) (mg : Str → Option Value) : Prop extends TR K mg where
  b_repr : mg "repr" = none
  b_enumerate : mg "enumerate" = none
theorem OxC.xf {K : PySem.W.Frag} {C : Addr} (h : OxC K C) : XfC K C := ⟨h.ga, h.gg, h.exC, h.hdC⟩
theorem Same.put {H H1 : Hp} {p : Addr} {o : HO} (S : Same H H1) (n : H p = none) : Same H (upd H1 p o) := fun a u ha => by
  rw [upd_ne (ne_of_none ha n)]
  exact S a u ha
/-- the error at a, of the class x, holds v as f -/
def ErrV (K : PySem.W.Frag) (H : Hp) (a : Addr) (x f : Str) (v : V) : Prop := ∃ d, H a = some (exo a (ga K x) (some d)) ∧ H d = some (exd d [(f, v)])
theorem exo_lst {e C : Addr} {d : Option Addr} {xs : List V} : exo e C d ≠ .lst xs := fun z => by
  have z' : HO.ext _ = HO.lst xs := z
  cases z'
theorem exd_lst {d : Addr} {fs : List (Str × V)} {xs : List V} : exd d fs ≠ .lst xs := fun z => by
  have z' : HO.ext _ = HO.lst xs := z
  cases z'
theorem ErrV.same {K : PySem.W.Frag} {H H1 : Hp} {a : Addr} {x f : Str} {v : V} (h : ErrV K H a x f v) (S : Same H H1) : ErrV K H1 a x f v := by
  obtain ⟨d, h1, h2⟩ := h
  exact ⟨d, S _ _ h1, S _ _ h2⟩
theorem ErrV.put {K : PySem.W.Frag} {H H1 : Hp} {a p : Addr} {o : HO} {x f : Str} {v : V} (h : ErrV K H a x f v) (S : Same H H1) (n : H p = none) : ErrV K (upd H1 p o) a x f v := h.same (Same.put S n)
theorem ErrV.exA {K : PySem.W.Frag} {H : Hp} {a : Addr} {x f : Str} {v : V} (h : ErrV K H a x f v) : ExA H a (ga K x) := by
  obtain ⟨d, h1, h2⟩ := h
  exact .inr ⟨d, _, h1, h2⟩
section
variable {K : PySem.W.Frag} {σ : L2.St} {H : Hp} {Q : VK}
theorem err_mk {x f : Str} {j : Nat} {p : Addr} {xs : List V} {i : Int} {v : V} (hv : σ[j]? = some (some (.ref p))) (hp : H p = some (.lst xs)) (hi : atI xs i = some v)
    (k : ∀ a H', Same H H' → ErrV K H' a x f v → Q (.ref a) H') : tOxv (ga K x) f (tOp (rIx K) (tVar j) (tC (.int i))) σ H Q := by
  refine ⟨_, hv, .inl ⟨p, xs, i, v, rfl, rfl, SqL.of hp, hi, fun a d na nd ne => ?_⟩⟩
  exact k a _ ((same_upd nd).trans (same_upd (by rw [upd_ne ne.symm]; exact na))) ⟨d, upd_same, by rw [upd_ne ne]; exact upd_same⟩
theorem att_mk {x f : Str} {j : Nat} {p a : Addr} {xs : List V} {i : Int} {v : V} (hv : σ[j]? = some (some (.ref p))) (hp : H p = some (.lst xs)) (hi : atI xs i = some (.ref a)) (he : ErrV K H a x f v) (ox : OxC K (ga K x))
    (no : PySem.W.findIn K (.ref (ga K x)) f = some none) (k : Q v H) : tXv K f (tOp (rIx K) (tVar j) (tC (.int i))) σ H Q := by
  obtain ⟨d, h1, h2⟩ := he
  refine ⟨_, hv, .inl ⟨p, xs, i, _, rfl, rfl, SqL.of hp, hi, a, ga K x, d, _, v, rfl, h1, h2, OxC.xf ox, no, ?_, k⟩⟩
  show (match f == f with | true => some v | false => _) = some v
  rw [beq_self_eq_true]
theorem tup2_mk {i j : Int} (k : ∀ t H', Same H H' → H' t = some (.tup [.int i, .int j]) → Q (.ref t) H') : tTup (tCons (tC (.int i)) (tCons (tC (.int j)) tNil)) σ H Q :=
  ⟨by show 2 ≤ sizeLine; decide, fun p np => k p _ (same_upd np) upd_same⟩
theorem tup1_mk {i : Int} (k : ∀ t H', Same H H' → H' t = some (.tup [.int i]) → Q (.ref t) H') : tTup (tCons (tC (.int i)) tNil) σ H Q :=
  ⟨by show 1 ≤ sizeLine; decide, fun p np => k p _ (same_upd np) upd_same⟩
end
def ex6 : List (Str × List Int) := [("InvalidNumber", [2, 5]), ("UnknownName", [3, 5]), ("TooMany", [4, 6]), ("NotSingle", [6]), ("NeedsMarks", [7]), ("NothingToUndo", [5])]
theorem flags_at6 (i : Nat) {x : Str} {bs : List Int} (hx : ex6[i]? = some (x, bs)) : x ∈ ex15 ∧ flagsOf x = onlyOf [8 + (i : Int)] 14 ∧ basesOf x = onlyOf bs 8 := by
  match i, hx with
  | 0, hx => cases hx; decide
  | 1, hx => cases hx; decide
  | 2, hx => cases hx; decide
  | 3, hx => cases hx; decide
  | 4, hx => cases hx; decide
  | 5, hx => cases hx; decide
def spRight : List V → Hp → VK → Prop := fun vs H Q => ∃ b : Addr, vs = [.ref b] ∧ BagAt b H ∧ ∀ H', Keep (J b) H H' → BagAt b H' → Q (.bl true) H'
section
variable {P : Program} {w : World} {K : PySem.W.Frag} {mg : Str → Option Value} {base : Heap}
theorem ok_right {f : Addr} {fd : FuncData} (F : FnP K "_law_values_right" s__law_values_right f fd) (T : TV K mg) (TB0 : TB mg) (hsm : ∃ o, base.get? sysModules = some o)
    {fF fB fO fD fP fT : Addr} {dF dB dO dD dP dT : FuncData} (F__law_flags : FnP K "_law_flags" s__law_flags fF dF) (F__law_bases : FnP K "_law_bases" s__law_bases fB dB) (F__law_only : FnP K "_law_only" s__law_only fO dO)
    (F__law_drawn_values : FnP K "_law_drawn_values" s__law_drawn_values fD dD) (F__law_pick : FnP K "_law_pick" sPick fP dP) (F__law_throw : FnP K "_law_throw" sThrow fT dT)
    (gF : mg "_law_flags" = some (.ref fF)) (gB : mg "_law_bases" = some (.ref fB)) (gO : mg "_law_only" = some (.ref fO)) (gD : mg "_law_drawn_values" = some (.ref fD)) (gP : mg "_law_pick" = some (.ref fP)) (gT : mg "_law_throw" = some (.ref fT)) :
    FnG P w K mg base 4 f fd ["_law_bag"] spRight := by
  have G__law_flags : FnOk P w K mg base CX0 1 fF dF _ _ := ok_flags F__law_flags T.toTX
  have G__law_bases : FnOk P w K mg base CX0 1 fB dB _ _ := ok_bases F__law_bases T.toTX
  have G__law_only : FnOk P w K mg base CX0 1 fO dO _ _ := ok_only F__law_only T.toTX
  have G__law_drawn_values : FnOk P w K mg base CX0 3 fD dD _ _ := ok_drawn F__law_drawn_values TB0 F__law_pick F__law_throw gP gT
  have b__law_flags : Binds K dF ["_law_one"] [] := F__law_flags.bindsN fun _ _ _ _ _ _ us hl => match us, hl with | [_], _ => rfl
  have b__law_bases : Binds K dB ["_law_one"] [] := F__law_bases.bindsN fun _ _ _ _ _ _ us hl => match us, hl with | [_], _ => rfl
  have b__law_only : Binds K dO ["_law_spots", "_law_total"] [] := F__law_only.bindsN fun _ _ _ _ _ _ us hl => match us, hl with | [_, _], _ => rfl
  have b__law_drawn_values : Binds K dD ["_law_bag"] [] := F__law_drawn_values.bindsN fun _ _ _ _ _ _ us hl => match us, hl with | [_], _ => rfl
  refine FnG.of F sc__law_values_right (fun vs H Q h => ?_) (fun cdv A outer s H vs Q hcd hg hr h => ?_)
  · obtain ⟨b, rfl, _⟩ := h
    rfl
  · obtain ⟨b, rfl, hb, k⟩ := h
    have nd := sc__law_values_right.nd
    have hu64 := hr.units
    have hu20 : (A.deeper (PyProof.Rows.envOfC "_law_values_right" (defScope s__law_values_right) s.heap.objs.size f cdv)).units + 20 < cLine := by
      have := hr.un
      omega
    refine ⟨_, PSs.nox (C8.pss_cut (ps_set (i := 1) nd rfl (.inl rfl) (pe_call G__law_drawn_values (hr.mono (by decide)) rfl gD F__law_drawn_values.kp b__law_drawn_values .nil pass0 (pa_cons (pv 0) pa_nil)))
      (C8.pss_cut (ps_set (i := 2) nd rfl (.inl rfl) (pe_lst (pa_cons (mk_InvalidNumber T.toTR.toTP.toTE (hr.mono (by decide)) (by rfl) (pe_ix ix_seq (pv 1) pe_int (fun _ _ => rfl))) (pa_cons (mk_UnknownName T.toTR.toTP.toTE (hr.mono (by decide)) (by rfl) (pe_ix ix_seq (pv 1) pe_int (fun _ _ => rfl))) (pa_cons (mk_TooMany T.toTR.toTP.toTE (hr.mono (by decide)) (by rfl) (pe_ix ix_seq (pv 1) pe_int (fun _ _ => rfl))) (pa_cons (mk_NotSingle T.toTR.toTP.toTE (hr.mono (by decide)) (by rfl) (pe_ix ix_seq (pv 1) pe_int (fun _ _ => rfl))) (pa_cons (mk_NeedsMarks T.toTR.toTP.toTE (hr.mono (by decide)) (by rfl) (pe_ix ix_seq (pv 1) pe_int (fun _ _ => rfl))) pa_nil)))))))
      (C8.pss_cut (ps_expr (pe_bm PySem.F.plainAttrs_list PySem.F.slot_list_append PySem.F.type_list_append mt_append (pv 2) (pa_cons (mk_NothingToUndo T.toTR.toTP.toTE (hr.mono (by decide)) (by rfl) (pe_ix ix_seq (pv 1) pe_int (fun _ _ => rfl))) pa_nil)))
      (C8.pss_cut (ps_set (i := 3) nd rfl (.inl rfl) (pe_lst (pa_cons (pe_tup (pa_cons pe_int (pa_cons pe_int pa_nil))) (pa_cons (pe_tup (pa_cons pe_int (pa_cons pe_int pa_nil))) (pa_cons (pe_tup (pa_cons pe_int (pa_cons pe_int pa_nil))) (pa_cons (pe_tup (pa_cons pe_int pa_nil)) (pa_cons (pe_tup (pa_cons pe_int pa_nil)) (pa_cons (pe_tup (pa_cons pe_int pa_nil)) pa_nil))))))))
      (C8.pss_cut (ps_for PassesOwn.never rfl (pi_enum (by rfl) T.b_enumerate (pa_cons (pv 2) pa_nil)) (pg_tup (by rfl) (pgs_cons (pg_name (i := 4) nd rfl (.inl rfl)) (pgs_cons (pg_name (i := 5) nd rfl (.inl rfl)) pgs_nil))) (pss_one (ps_if (PW.pt (pw_or (pt_cmpR (op_neD hu64) (pe_call G__law_flags (hr.mono (by decide)) rfl gF F__law_flags.kp b__law_flags .nil pass0 (pa_cons (pv 5) pa_nil)) (pe_call G__law_only (hr.mono (by decide)) rfl gO F__law_only.kp b__law_only .nil pass0 (pa_cons (pe_tup (pa_cons (pe_op op_add pe_int (pv 4)) pa_nil)) (pa_cons pe_int pa_nil))) (nomark _)) (pw_or1 (pt_cmpR (op_neD hu64) (pe_call G__law_bases (hr.mono (by decide)) rfl gB F__law_bases.kp b__law_bases .nil pass0 (pa_cons (pv 5) pa_nil)) (pe_call G__law_only (hr.mono (by decide)) rfl gO F__law_only.kp b__law_only .nil pass0 (pa_cons (pe_ix ix_seq (pv 3) (pv 4) (fun _ _ => rfl)) (pa_cons pe_int pa_nil))) (nomark _))))) (pss_one (ps_ret pe_bl)) pss_nil)))
      (C8.pss_cut (ps_set (i := 6) nd rfl (.inl rfl) (pe_lst (pa_cons (pe_xv (pe_ix ix_seq (pv 2) pe_int (fun _ _ => rfl))) (pa_cons (pe_xv (pe_ix ix_seq (pv 2) pe_int (fun _ _ => rfl))) (pa_cons (pe_xv (pe_ix ix_seq (pv 2) pe_int (fun _ _ => rfl))) (pa_cons (pe_xv (pe_ix ix_seq (pv 2) pe_int (fun _ _ => rfl))) (pa_cons (pe_xv (pe_ix ix_seq (pv 2) pe_int (fun _ _ => rfl))) (pa_cons (pe_xv (pe_ix ix_seq (pv 2) pe_int (fun _ _ => rfl))) pa_nil))))))))
      (pss_one (ps_ret (pe_cmpR op_eq (pe_callB (call_reprD hg hu20 hsm) (by rfl) T.b_repr (by decide +kernel) (pa_cons (pv 6) pa_nil)) (pe_callB (call_reprD hg hu20 hsm) (by rfl) T.b_repr (by decide +kernel) (pa_cons (pv 1) pa_nil)) (nomark _)))))))))), ?_⟩
    -- the drawn values
    refine ⟨fun σ H1 => ∃ po x0 x1 x2 x3 x4 x5, σ = [some (.ref b), some (.ref po), none, none, none, none, none] ∧ Keep (J b) H H1 ∧ BagAt b H1 ∧ H1 po = some (.lst [x0, x1, x2, x3, x4, x5]) ∧ OkVs (J b) 8 9000 H1 [x0, x1, x2, x3, x4, x5], ?_, ?_⟩
    · refine ⟨_, rfl, b, rfl, hb, fun H1 p xs k1 b1 _ hp hl ok => ?_⟩
      match xs, hl with
      | [x0, x1, x2, x3, x4, x5], _ => exact ⟨p, x0, x1, x2, x3, x4, x5, rfl, k1, b1, hp, ok⟩
    rintro σ H1 ⟨po, x0, x1, x2, x3, x4, x5, rfl, k1, b1, hp, ok⟩
    -- five errors
    refine ⟨fun σ H2 => ∃ pm a0 a1 a2 a3 a4 H0, σ = [some (.ref b), some (.ref po), some (.ref pm), none, none, none, none] ∧ Same H1 H0 ∧ H0 pm = none ∧ H2 = upd H0 pm (.lst [.ref a0, .ref a1, .ref a2, .ref a3, .ref a4]) ∧
      ErrV K H0 a0 "InvalidNumber" "value" x0 ∧ ErrV K H0 a1 "UnknownName" "name" x1 ∧ ErrV K H0 a2 "TooMany" "limit" x2 ∧ ErrV K H0 a3 "NotSingle" "paper" x3 ∧ ErrV K H0 a4 "NeedsMarks" "fork" x4, ?_, ?_⟩
    · refine asg_raw (cons_go (err_mk (K := K) (x := "InvalidNumber") (f := "value") (j := 1) (i := 0) (v := x0) rfl hp rfl fun a0 G0 S0 e0 => ?_))
      refine cons_go (err_mk (K := K) (x := "UnknownName") (f := "name") (j := 1) (i := 1) (v := x1) rfl (S0 _ _ hp) rfl fun a1 G1 S1 e1 => ?_)
      have S01 := S0.trans S1
      refine cons_go (err_mk (K := K) (x := "TooMany") (f := "limit") (j := 1) (i := 2) (v := x2) rfl (S01 _ _ hp) rfl fun a2 G2 S2 e2 => ?_)
      have S02 := S01.trans S2
      refine cons_go (err_mk (K := K) (x := "NotSingle") (f := "paper") (j := 1) (i := 3) (v := x3) rfl (S02 _ _ hp) rfl fun a3 G3 S3 e3 => ?_)
      have S03 := S02.trans S3
      refine cons_go (err_mk (K := K) (x := "NeedsMarks") (f := "fork") (j := 1) (i := 4) (v := x4) rfl (S03 _ _ hp) rfl fun a4 G4 S4 e4 => ?_)
      refine ⟨by show 5 ≤ sizeLine; decide, fun pm nm => ?_⟩
      have S34 := S3.trans S4
      have S24 := S2.trans S34
      have S14 := S1.trans S24
      exact ⟨pm, a0, a1, a2, a3, a4, G4, rfl, S03.trans S4, nm, rfl, e0.same S14, e1.same S24, e2.same S34, e3.same S4, e4⟩
    rintro σ H2 ⟨pm, a0, a1, a2, a3, a4, H0, rfl, S10, nm, rfl, e0, e1, e2, e3, e4⟩
    -- the sixth
    refine ⟨fun σ H3 => ∃ a5, σ = [some (.ref b), some (.ref po), some (.ref pm), none, none, none, none] ∧ Same H1 H3 ∧ H3 pm = some (.lst [.ref a0, .ref a1, .ref a2, .ref a3, .ref a4, .ref a5]) ∧
      ErrV K H3 a0 "InvalidNumber" "value" x0 ∧ ErrV K H3 a1 "UnknownName" "name" x1 ∧ ErrV K H3 a2 "TooMany" "limit" x2 ∧ ErrV K H3 a3 "NotSingle" "paper" x3 ∧ ErrV K H3 a4 "NeedsMarks" "fork" x4 ∧ ErrV K H3 a5 "NothingToUndo" "many" x5, ?_, ?_⟩
    · refine app_mk rfl upd_same ?_
      have hp2 := (same_upd (o := .lst [.ref a0, .ref a1, .ref a2, .ref a3, .ref a4]) nm) _ _ (S10 _ _ hp)
      refine cons_go (err_mk (K := K) (x := "NothingToUndo") (f := "many") (j := 1) (i := 5) (v := x5) rfl hp2 rfl fun a5 G5 S5 e5 => app_nil (S5 _ _ upd_same) (by show 5 ≤ 100; decide) ?_)
      have T : Same H0 G5 := (same_upd nm).trans S5
      refine ⟨a5, rfl, S10.trans (Same.put T nm), upd_same, e0.put T nm, e1.put T nm, e2.put T nm, e3.put T nm, e4.put T nm, ?_⟩
      obtain ⟨d, g1, g2⟩ := e5
      have m5 := S5 _ _ upd_same
      refine ⟨d, by rw [upd_ne (ne_of g1 m5 exo_lst)]; exact g1, by rw [upd_ne (ne_of g2 m5 exd_lst)]; exact g2⟩
    rintro σ H3 ⟨a5, rfl, S13, hm, e0, e1, e2, e3, e4, e5⟩
    clear nm S10
    -- the bases
    refine ⟨fun σ H4 => ∃ pb t0 t1 t2 t3 t4 t5, σ = [some (.ref b), some (.ref po), some (.ref pm), some (.ref pb), none, none, none] ∧ Same H3 H4 ∧ H4 pb = some (.lst [.ref t0, .ref t1, .ref t2, .ref t3, .ref t4, .ref t5]) ∧
      H4 t0 = some (.tup [.int 2, .int 5]) ∧ H4 t1 = some (.tup [.int 3, .int 5]) ∧ H4 t2 = some (.tup [.int 4, .int 6]) ∧ H4 t3 = some (.tup [.int 6]) ∧ H4 t4 = some (.tup [.int 7]) ∧ H4 t5 = some (.tup [.int 5]), ?_, ?_⟩
    · refine asg_raw (cons_go (tup2_mk fun t0 G0 S0 w0 => cons_go (tup2_mk fun t1 G1 S1 w1 => cons_go (tup2_mk fun t2 G2 S2 w2 => cons_go (tup1_mk fun t3 G3 S3 w3 => cons_go (tup1_mk fun t4 G4 S4 w4 => cons_go (tup1_mk fun t5 G5 S5 w5 => ?_)))))))
      refine ⟨by show 6 ≤ sizeLine; decide, fun pb nb => ?_⟩
      have S6 := same_upd (o := .lst [.ref t0, .ref t1, .ref t2, .ref t3, .ref t4, .ref t5]) nb
      have R5 := S5.trans S6
      have R4 := S4.trans R5
      have R3 := S3.trans R4
      have R2 := S2.trans R3
      have R1 := S1.trans R2
      exact ⟨pb, t0, t1, t2, t3, t4, t5, rfl, S0.trans R1, upd_same, R1 _ _ w0, R2 _ _ w1, R3 _ _ w2, R4 _ _ w3, R5 _ _ w4, S6 _ _ w5⟩
    rintro σ H4 ⟨pb, t0, t1, t2, t3, t4, t5, rfl, S34, hpb, w0, w1, w2, w3, w4, w5⟩
    -- the loop
    refine ⟨fun σ H5 => ∃ u v, σ = [some (.ref b), some (.ref po), some (.ref pm), some (.ref pb), u, v, none] ∧ Same H4 H5, ?_, ?_⟩
    · have hm4 := S34 _ _ hm
      refine ⟨_, rfl, pm, _, rfl, SqL.of hm4, ?_⟩
      refine for_enum (fun i σ H' => ∃ u v, σ = [some (.ref b), some (.ref po), some (.ref pm), some (.ref pb), u, v, none] ∧ Same H4 H') ⟨_, _, rfl, Same.refl _⟩ (fun i σ H' ⟨_, _, _, S⟩ => SqL.of (S _ _ hm4)) ?_ ?_
      · rintro i y σ H' T hy ⟨u, v, rfl, S⟩ nT
        have S9 := S.trans (same_upd (o := .tup [.int (i : Nat), y]) nT)
        have R9 := S34.trans S9
        have hc : ∃ a x bs t, y = .ref a ∧ ex6[i]? = some (x, bs) ∧ ExA (upd H' T (.tup [.int (i : Nat), y])) a (ga K x) ∧ [V.ref t0, .ref t1, .ref t2, .ref t3, .ref t4, .ref t5][i]? = some (.ref t) ∧ H4 t = some (.tup (bs.map V.int)) := by
          match i, hy with
          | 0, hy => cases hy; exact ⟨_, _, _, t0, rfl, rfl, (e0.same R9).exA, rfl, w0⟩
          | 1, hy => cases hy; exact ⟨_, _, _, t1, rfl, rfl, (e1.same R9).exA, rfl, w1⟩
          | 2, hy => cases hy; exact ⟨_, _, _, t2, rfl, rfl, (e2.same R9).exA, rfl, w2⟩
          | 3, hy => cases hy; exact ⟨_, _, _, t3, rfl, rfl, (e3.same R9).exA, rfl, w3⟩
          | 4, hy => cases hy; exact ⟨_, _, _, t4, rfl, rfl, (e4.same R9).exA, rfl, w4⟩
          | 5, hy => cases hy; exact ⟨_, _, _, t5, rfl, rfl, (e5.same R9).exA, rfl, w5⟩
        obtain ⟨a, x, bs, t, rfl, hx, hE, ht, wt⟩ := hc
        obtain ⟨hxm, hf, hbs⟩ := flags_at6 i hx
        refine ⟨T, _, rfl, SqT.of upd_same, rfl, _, _, rfl, _, _, rfl, rfl, ?_⟩
        refine ⟨_, rfl, a, x, rfl, hxm, hE, fun H10 p10 S10 n10 h10 => ?_⟩
        refine ⟨_, rfl, _, _, rfl, rfl, by show 1 ≤ sizeLine; decide, fun q1 nq1 => ⟨q1, [8 + (i : Int)], 14, rfl, SqT.of upd_same, by decide, fun H11 p11 S11 n11 h11 => ?_⟩⟩
        have S12 := (same_upd (o := .tup [.int (8 + (i : Nat))]) nq1).trans S11
        refine ne_bl (bs := flagsOf x) (cs := onlyOf [8 + (i : Int)] 14) (S12 _ _ h10) h11 hf ⟨_, rfl, iteF ?_⟩
        have S13 := S10.trans S12
        refine ⟨_, rfl, a, x, rfl, hxm, exA_same hE S13, fun H14 p14 S14 n14 h14 => ?_⟩
        have S15 := S9.trans (S13.trans S14)
        refine ⟨_, rfl, _, rfl, .inl ⟨pb, _, _, _, rfl, rfl, SqL.of (S15 _ _ hpb), atI_nat ht, t, bs, 8, rfl, SqT.of (S15 _ _ wt), by decide, fun H16 p16 S16 n16 h16 => ?_⟩⟩
        refine ne_bl (bs := basesOf x) (cs := onlyOf bs 8) (S16 _ _ h14) h16 hbs ⟨_, rfl, iteF ?_⟩
        exact ⟨_, _, rfl, S15.trans S16⟩
      · rintro σ H' ⟨u, v, rfl, S⟩
        exact ⟨_, _, rfl, S⟩
    rintro σ H5 ⟨u, v, rfl, S45⟩
    have R5 := S34.trans S45
    have hm5 := R5 _ _ hm
    refine ⟨fun σ H6 => ∃ pt, σ = [some (.ref b), some (.ref po), some (.ref pm), some (.ref pb), u, v, some (.ref pt)] ∧ Same H5 H6 ∧ H6 pt = some (.lst [x0, x1, x2, x3, x4, x5]), ?_, ?_⟩
    · refine asg_raw (cons_go (att_mk (K := K) (x := "InvalidNumber") (f := "value") (j := 2) (i := 0) rfl hm5 rfl (e0.same R5) T.ox_InvalidNumber T.no_InvalidNumber ?_))
      refine cons_go (att_mk (K := K) (x := "UnknownName") (f := "name") (j := 2) (i := 1) rfl hm5 rfl (e1.same R5) T.ox_UnknownName T.no_UnknownName ?_)
      refine cons_go (att_mk (K := K) (x := "TooMany") (f := "limit") (j := 2) (i := 2) rfl hm5 rfl (e2.same R5) T.ox_TooMany T.no_TooMany ?_)
      refine cons_go (att_mk (K := K) (x := "NotSingle") (f := "paper") (j := 2) (i := 3) rfl hm5 rfl (e3.same R5) T.ox_NotSingle T.no_NotSingle ?_)
      refine cons_go (att_mk (K := K) (x := "NeedsMarks") (f := "fork") (j := 2) (i := 4) rfl hm5 rfl (e4.same R5) T.ox_NeedsMarks T.no_NeedsMarks ?_)
      refine cons_go (att_mk (K := K) (x := "NothingToUndo") (f := "many") (j := 2) (i := 5) rfl hm5 rfl (e5.same R5) T.ox_NothingToUndo T.no_NothingToUndo ?_)
      exact ⟨by show 6 ≤ sizeLine; decide, fun pt nt => ⟨pt, rfl, same_upd nt, upd_same⟩⟩
    rintro σ H6 ⟨pt, rfl, S56, ht⟩
    have S16 : Same H1 H6 := (S13.trans R5).trans S56
    obtain ⟨ds, as, z1, z2, z3, z4, z5⟩ := ok
    have dv := z5 H6 (.of S16)
    have q1 : (PyData.list ds).showable = true := by simpa only [PyData.showable] using z1
    have q2 : (PyData.list ds).depth ≤ 10 := by simp only [PyData.depth]; omega
    have q3 : (PyData.list ds).shown.length ≤ sizeLine := by
      have := listText_len_le (PyData.shownAll ds)
      rw [shownAll_len, z4] at this
      simp only [PyData.shown, sizeLine_eq]
      have e6 : [x0, x1, x2, x3, x4, x5].length = 6 := rfl
      omega
    refine ⟨_, rfl, pt, _, _, rfl, .lst ht dv, q1, q2, q3, ?_⟩
    refine ⟨_, rfl, po, _, _, rfl, .lst (S16 _ _ hp) dv, q1, q2, q3, ?_⟩
    have q4 : Q (.bl (decide (V.str (PyData.list ds).shown = V.str (PyData.list ds).shown))) H6 := by
      rw [decide_eq_true rfl]
      exact k H6 (k1.trans (.of S16)) (b1.same S16)
    exact ⟨rfl, q4⟩
end
end K0
-- K0Law
set_option maxRecDepth 100000
set_option maxHeartbeats 1000000
namespace K0
open PySem L2 FM He
abbrev s_law : Stmt := top 109
theorem sc_law : FnScope ["_law_script", "_law_at", "_law_bag", "_law_odd", "_law_found", "_law_due"] ["_law_script"] (defScope s_law) := ⟨rfl, rfl, rfl, by decide +kernel, rfl, by decide +kernel, by decide +kernel⟩
def oddEs : List Str := ["InvalidText", "InvalidRewriter", "InvalidOperation"]
structure TL (K : PySem.W.Frag) (mg : Str → Option Value) : Prop extends TV K mg where
  b_max : mg "max" = none
  b_abs : mg "abs" = none
  b_int : mg "int" = none
  exmE : ∀ x ∈ oddEs, PySem.W.exmOne K (.ref (ga K x)) (.ref (ga K "MarkError")) = some true
  mk_Rewriter : Mk K (ga K "Rewriter") (ma K (ga K "Rewriter") "__init__")
  g_Rewriter : mg "Rewriter" = some (.ref (ga K "Rewriter"))
  f_Rewriter : ∃ fd, FnQ K "Rewriter.__init__" s_Rewriter___init__ (ma K (ga K "Rewriter") "__init__") fd
  g_is_word : mg "is_word" = some (.ref (ga K "is_word"))
  f_is_word : ∃ fd, FnP K "is_word" s_is_word (ga K "is_word") fd
  g_is_tuple_of : mg "is_tuple_of" = some (.ref (ga K "is_tuple_of"))
  f_is_tuple_of : ∃ fd, FnP K "is_tuple_of" s_is_tuple_of (ga K "is_tuple_of") fd
  g_is_letters : mg "is_letters" = some (.ref (ga K "is_letters"))
  f_is_letters : ∃ fd, FnP K "is_letters" s_is_letters (ga K "is_letters") fd
  g_is_delay : mg "is_delay" = some (.ref (ga K "is_delay"))
  f_is_delay : ∃ fd, FnP K "is_delay" s_is_delay (ga K "is_delay") fd
  g_delay : mg "delay" = some (.ref (ga K "delay"))
  f_delay : ∃ fd, FnP K "delay" s_delay (ga K "delay") fd
  g_led_on : mg "led_on" = some (.ref (ga K "led_on"))
  f_led_on : ∃ fd, FnP K "led_on" s_led_on (ga K "led_on") fd
  g_left_over : mg "left_over" = some (.ref (ga K "left_over"))
  f_left_over : ∃ fd, FnP K "left_over" s_left_over (ga K "left_over") fd
  g__shared : mg "_shared" = some (.ref (ga K "_shared"))
  f__shared : ∃ fd, FnP K "_shared" s__shared (ga K "_shared") fd
  g__check_word : mg "_check_word" = some (.ref (ga K "_check_word"))
  f__check_word : ∃ fd, FnP K "_check_word" s__check_word (ga K "_check_word") fd
  g__check_delay : mg "_check_delay" = some (.ref (ga K "_check_delay"))
  f__check_delay : ∃ fd, FnP K "_check_delay" s__check_delay (ga K "_check_delay") fd
  g__law_start : mg "_law_start" = some (.ref (ga K "_law_start"))
  f__law_start : ∃ fd, FnP K "_law_start" sStart (ga K "_law_start") fd
  g__law_throw : mg "_law_throw" = some (.ref (ga K "_law_throw"))
  f__law_throw : ∃ fd, FnP K "_law_throw" sThrow (ga K "_law_throw") fd
  g__law_pick : mg "_law_pick" = some (.ref (ga K "_law_pick"))
  f__law_pick : ∃ fd, FnP K "_law_pick" sPick (ga K "_law_pick") fd
  g__law_told : mg "_law_told" = some (.ref (ga K "_law_told"))
  f__law_told : ∃ fd, FnP K "_law_told" s__law_told (ga K "_law_told") fd
  g__law_flags : mg "_law_flags" = some (.ref (ga K "_law_flags"))
  f__law_flags : ∃ fd, FnP K "_law_flags" s__law_flags (ga K "_law_flags") fd
  g__law_bases : mg "_law_bases" = some (.ref (ga K "_law_bases"))
  f__law_bases : ∃ fd, FnP K "_law_bases" s__law_bases (ga K "_law_bases") fd
  g__law_only : mg "_law_only" = some (.ref (ga K "_law_only"))
  f__law_only : ∃ fd, FnP K "_law_only" s__law_only (ga K "_law_only") fd
  g__law_messages_right : mg "_law_messages_right" = some (.ref (ga K "_law_messages_right"))
  f__law_messages_right : ∃ fd, FnP K "_law_messages_right" s__law_messages_right (ga K "_law_messages_right") fd
  g__law_drawn_values : mg "_law_drawn_values" = some (.ref (ga K "_law_drawn_values"))
  f__law_drawn_values : ∃ fd, FnP K "_law_drawn_values" s__law_drawn_values (ga K "_law_drawn_values") fd
  g__law_values_right : mg "_law_values_right" = some (.ref (ga K "_law_values_right"))
  f__law_values_right : ∃ fd, FnP K "_law_values_right" s__law_values_right (ga K "_law_values_right") fd
  g__law_taken : mg "_law_taken" = some (.ref (ga K "_law_taken"))
  f__law_taken : ∃ fd, FnP K "_law_taken" s__law_taken (ga K "_law_taken") fd
/-- all but tables and one object stay -/
def KeepN (b : Addr) (H H' : Hp) : Prop := ∀ a o, a ≠ b → (∀ ps, o ≠ .tbl ps) → H a = some o → H' a = some o
theorem KeepN.keep {b : Addr} {H H' : Hp} (k : Keep (J b) H H') : KeepN b H H' := fun a o n _ h => k a o n h
theorem KeepN.ext {b : Addr} {H H' : Hp} (k : LamX.ExtN H H') : KeepN b H H' := fun a o _ n h => k a o h n
theorem KeepN.trans {b : Addr} {H H1 H2 : Hp} (x : KeepN b H H1) (y : KeepN b H1 H2) : KeepN b H H2 := fun a o n m h => y a o n m (x a o n m h)
/-- a value that is neither word nor delay, and stays so -/
def Odd (K : PySem.W.Frag) (b : Addr) (H : Hp) (y : V) : Prop := ∀ Hf, KeepN b H Hf → WordV K Hf y false ∧ DelayV K Hf y false
theorem Odd.keep {K : PySem.W.Frag} {b : Addr} {H H1 : Hp} {y : V} (h : Odd K b H y) (k : KeepN b H H1) : Odd K b H1 y := fun Hf z => h Hf (k.trans z)
theorem odd_of {K : PySem.W.Frag} {b : Addr} {H : Hp} {y : V} (h : ∀ Hf, KeepN b H Hf → NotTy K Hf y "str" ∧ NotTy K Hf y "tuple") : Odd K b H y := fun Hf z => ⟨.inr ⟨(h Hf z).1, rfl⟩, .inl ⟨(h Hf z).2, rfl⟩⟩
section
variable {K : PySem.W.Frag} {b : Addr} {H : Hp}
theorem odd_non : Odd K b H .non := odd_of fun _ _ => ⟨⟨_, .base .non, kit_ty (by decide +kernel)⟩, ⟨_, .base .non, kit_ty (by decide +kernel)⟩⟩
theorem odd_int {i : Int} : Odd K b H (.int i) := odd_of fun _ _ => ⟨⟨_, .base (.int i), kit_ty (by decide +kernel)⟩, ⟨_, .base (.int i), kit_ty (by decide +kernel)⟩⟩
theorem odd_bl {i : Bool} : Odd K b H (.bl i) := odd_of fun _ _ => ⟨⟨_, .base (.bl i), kit_ty (by decide +kernel)⟩, ⟨_, .base (.bl i), kit_ty (by decide +kernel)⟩⟩
theorem odd_lst {a : Addr} {xs : List V} (h : H a = some (.lst xs)) (n : a ≠ b) : Odd K b H (.ref a) := odd_of fun Hf z => by
  have e := z a _ n (fun _ => by simp) h
  exact ⟨⟨_, .base (.lst e), kit_ty (by decide +kernel)⟩, ⟨_, .base (.lst e), kit_ty (by decide +kernel)⟩⟩
theorem odd_dK {a : Addr} {xs : List (L2.Key × V)} (h : H a = some (.dK xs)) (n : a ≠ b) : Odd K b H (.ref a) := odd_of fun Hf z => by
  have e := z a _ n (fun _ => by simp) h
  exact ⟨⟨_, .base (.dK e), kit_ty (by decide +kernel)⟩, ⟨_, .base (.dK e), kit_ty (by decide +kernel)⟩⟩
theorem odd_str {x : Str} (h1 : x.length ≤ sizeLine) (h2 : isWord x = false) : Odd K b H (.str x) := fun _ _ => ⟨.inl ⟨x, rfl, h1, h2⟩, .inl ⟨⟨_, .base (.str x), kit_ty (by decide +kernel)⟩, rfl⟩⟩
theorem odd_tup0 {a : Addr} (h : H a = some (.tup [])) (n : a ≠ b) : Odd K b H (.ref a) := fun Hf z => by
  have e := z a _ n (fun _ => by simp) h
  exact ⟨.inr ⟨⟨_, .base (.tup e), kit_ty (by decide +kernel)⟩, rfl⟩, .inr (.inl ⟨a, [], rfl, SqT.of e, by simp, rfl⟩)⟩
theorem odd_tup2 {a : Addr} {x y : Str} (h : H a = some (.tup [.str x, .str y])) (n : a ≠ b) (hx : x.length ≤ sizeLine) (hy : y.length ≤ sizeLine) (wx : isWord x = true) (wy : isWord y = true) (ap : apartS x y = false) : Odd K b H (.ref a) := fun Hf z => by
  have e := z a _ n (fun _ => by simp) h
  refine ⟨.inr ⟨⟨_, .base (.tup e), kit_ty (by decide +kernel)⟩, rfl⟩, .inr (.inr ⟨a, .str x, .str y, true, true, rfl, SqT.of e, .inl ⟨x, rfl, hx, wx⟩, .inl ⟨y, rfl, hy, wy⟩, ?_⟩)⟩
  show false = (true && true && apartS x y)
  rw [ap]
  rfl
end
end K0
-- K0Law2
set_option maxRecDepth 100000
set_option maxHeartbeats 1000000
namespace K0
open PySem L2 FM He
theorem _root_.LamX.ExtN.same {H H1 H2 : Hp} (e : LamX.ExtN H H1) (S : Same H1 H2) : LamX.ExtN H H2 := e.trans (LamX.ExtN.of S)
/-- a lambda that raises an error of the class x at some heap that only grew -/
def Fails (K : PySem.W.Frag) (Hb : Hp) (x : Str) (σ : L2.St) (t : XK → L2.TE) : Prop := ∀ (E : XK) (H1 : Hp) (Q : VK), LamX.ExtN Hb H1 → (∀ H2, Same H1 H2 → E (.ref (ga K x)) none H2) → t E σ H1 Q
theorem lam_fail {K : PySem.W.Frag} {mg : Str → Option Value} (T : TL K mg) {Ts : List (Addr × Str)} {Hb H : Hp} {x : Str} {σ : L2.St} {t : XK → L2.TE} {Q : VK} (hx : x ∈ oddEs) (ht : LamX.Tabs Ts H) (hb : LamX.ExtN Hb H) (h : Fails K Hb x σ t)
    (k : ∀ H' q, LamX.ExtN H H' → LamX.Tabs Ts H' → H' q = some (.lst ((flagsOf x).map V.bl)) → (∀ a xs, H a = some (.lst xs) → q ≠ a) → Q (.ref q) H') : LamX.tLam Ts (TTaken K) t σ H Q := by
  have h15 : x ∈ ex15 := by
    have : ∀ y ∈ oddEs, y ∈ ex15 := by decide
    exact this x hx
  refine ⟨ht, fun H1 e1 t1 => h _ H1 _ (hb.trans e1) fun H2 S2 => ⟨x, h15, rfl, rfl, T.exmE x hx, fun H3 p S3 n3 h3 => ?_⟩⟩
  have S := S2.trans S3
  exact k H3 p (e1.same S) (t1.ext S) h3 fun a xs ha z => by
    have e2 := S2 _ _ (e1 _ _ ha (fun _ => by simp))
    rw [← z, n3] at e2
    cases e2
def AllL (H : Hp) (pf : Addr) : List Addr → List (List Bool) → Prop
  | [], [] => True
  | q :: qs, bs :: bss => H q = some (.lst (bs.map V.bl)) ∧ q ≠ pf ∧ AllL H pf qs bss
  | _, _ => False
theorem AllL.mono {H H1 : Hp} {pf : Addr} {xs : List V} (e : LamX.ExtN H H1) : ∀ {qs : List Addr} {bss : List (List Bool)}, AllL H pf qs bss → AllL (upd H1 pf (.lst xs)) pf qs bss
  | [], [], _ => trivial
  | q :: qs, bs :: bss, h => ⟨by rw [upd_ne h.2.1]; exact e _ _ h.1 (fun _ => by simp), h.2.1, AllL.mono e h.2.2⟩
  | [], _ :: _, h => h.elim
  | _ :: _, [], h => h.elim
theorem AllL.snoc {H : Hp} {pf q : Addr} {bs : List Bool} (h1 : H q = some (.lst (bs.map V.bl))) (h2 : q ≠ pf) : ∀ {qs : List Addr} {bss : List (List Bool)}, AllL H pf qs bss → AllL H pf (qs ++ [q]) (bss ++ [bs])
  | [], [], _ => ⟨h1, h2, trivial⟩
  | _ :: qs, _ :: bss, h => ⟨h.1, h.2.1, AllL.snoc h1 h2 h.2.2⟩
  | [], _ :: _, h => h.elim
  | _ :: _, [], h => h.elim
/-- the list of what the calls so far gave -/
structure Found (Ts : List (Addr × Str)) (Hb : Hp) (pf : Addr) (H : Hp) (bss : List (List Bool)) : Prop where
  no : Hb pf = none
  ext : LamX.ExtN Hb H
  tabs : LamX.Tabs Ts H
  at_ : ∃ qs : List Addr, H pf = some (.lst (qs.map V.ref)) ∧ AllL H pf qs bss ∧ qs.length ≤ 10
theorem extN_put {Hb H H1 : Hp} {pf : Addr} {o : HO} (e : LamX.ExtN Hb H1) (no : Hb pf = none) : LamX.ExtN Hb (upd H1 pf o) := fun a u ha n => by
  rw [upd_ne (ne_of_none ha no)]
  exact e a u ha n
theorem tabs_put {Ts : List (Addr × Str)} {H : Hp} {pf : Addr} {xs ys : List V} (h : LamX.Tabs Ts H) (e : H pf = some (.lst xs)) : LamX.Tabs Ts (upd H pf (.lst ys)) := fun p hp => by
  obtain ⟨ps, h1, h2, h3⟩ := h p hp
  refine ⟨ps, by rw [upd_ne (ne_of h1 e (fun z => nomatch z))]; exact h1, h2, fun pos cv hc => ?_⟩
  obtain ⟨c, e1, e2⟩ := h3 pos cv hc
  refine ⟨c, e1, ?_⟩
  have ne : c ≠ pf := ne_of e2 e fun z => by
    have z' : HO.ext _ = HO.lst xs := z
    cases z'
  rw [upd_ne ne]
  exact e2
theorem found_app {K : PySem.W.Frag} {mg : Str → Option Value} (T : TL K mg) {Ts : List (Addr × Str)} {Hb H : Hp} {pf : Addr} {bss : List (List Bool)} {x : Str} {σ : L2.St} {t : XK → L2.TE} {D : Ends} (hv : σ[4]? = some (some (.ref pf))) (F : Found Ts Hb pf H bss) (h9 : bss.length ≤ 5)
    (hx : x ∈ oddEs) (h : Fails K Hb x σ t) (k : ∀ H', Found Ts Hb pf H' (bss ++ [flagsOf x]) → D.nx σ H') : tDrop (tBM K "list" rAppend (tVar 4) (tCons (LamX.tLam Ts (TTaken K) t) tNil)) D σ H := by
  obtain ⟨qs, e, al, hl⟩ := F.at_
  have len : ∀ {qs : List Addr} {bss : List (List Bool)}, AllL H pf qs bss → qs.length = bss.length := by
    intro qs
    induction qs with
    | nil => intro bss h; cases bss with
      | nil => rfl
      | cons _ _ => exact h.elim
    | cons q qs ih => intro bss h; cases bss with
      | nil => exact h.elim
      | cons _ _ => rw [List.length_cons, List.length_cons, ih h.2.2]
  have hql := len al
  refine app_mk hv e (lam_fail T hx F.tabs F.ext h fun H' q e1 t1 hq nq => app_nil (xs := qs.map V.ref) (e1 _ _ e (fun _ => by simp)) (by rw [List.length_map]; omega) (k _ ?_))
  have ne := nq pf _ e
  refine ⟨F.no, extN_put (H := H) (F.ext.trans e1) F.no, tabs_put t1 (e1 _ _ e (fun _ => by simp)), qs ++ [q], ?_, ?_, ?_⟩
  · rw [upd_same, List.map_append]
    rfl
  · exact AllL.snoc (by rw [upd_ne ne]; exact hq) ne (al.mono e1)
  · rw [List.length_append, hql]
    show bss.length + 1 ≤ 10
    omega
theorem dp_ll {K : PySem.W.Frag} {H : Hp} {pf : Addr} : ∀ {qs : List Addr} {bss : List (List Bool)}, AllL H pf qs bss → DpAll K H (qs.map V.ref) (bss.map fun bs => PyData.list (bs.map PyData.bool))
  | [], [], _ => .nil
  | _ :: _, _ :: _, h => .cons (dp_bl h.1) (dp_ll h.2.2)
  | [], _ :: _, h => h.elim
  | _ :: _, [], h => h.elim
theorem canAll_ll : ∀ bss : List (List Bool), PyData.canLayAll0 (bss.map fun bs => PyData.list (bs.map PyData.bool)) = true
  | [] => rfl
  | bs :: r => by
    simp only [List.map_cons, PyData.canLayAll0, PyData.canLay0, canAll_bl bs, canAll_ll r, Bool.and_self]
theorem depthAll_ll : ∀ bss : List (List Bool), PyData.depthAll (bss.map fun bs => PyData.list (bs.map PyData.bool)) ≤ 2
  | [] => by simp [PyData.depthAll]
  | bs :: r => by
    have h1 := depthAll_bl bs
    have h2 := depthAll_ll r
    simp only [List.map_cons, PyData.depthAll, PyData.depth]
    omega
theorem shaped_ll (bss : List (List Bool)) : SeqAt.shaped (.list (bss.map fun bs => PyData.list (bs.map PyData.bool))) = true := by
  unfold SeqAt.shaped
  rw [Bool.and_eq_true]
  refine ⟨by simpa only [PyData.canLay0] using canAll_ll bss, decide_eq_true ?_⟩
  have := depthAll_ll bss
  simp only [PyData.depth]
  omega
theorem ne_ll {K : PySem.W.Frag} {H : Hp} {p q pf pg : Addr} {qs rs : List Addr} {bss css : List (List Bool)} {Q : VK} (h1 : H p = some (.lst (qs.map V.ref))) (a1 : AllL H pf qs bss) (h2 : H q = some (.lst (rs.map V.ref))) (a2 : AllL H pg rs css) (e : bss = css) (k : Q (.bl false) H) :
    rNeD K (.ref p) (.ref q) H Q := by
  subst e
  refine ⟨_, _, .lst (SqL.of h1) (dp_ll a1), .lst (SqL.of h2) (dp_ll a2), shaped_ll bss, shaped_ll bss, ?_⟩
  rw [SeqAt.eqv_refl _ (SeqAt.canLay_of_shaped (shaped_ll bss))]
  exact k
theorem bag_ne {b p : Addr} {H : Hp} (h : BagAt b H) (n : H p = none) : p ≠ b := by
  obtain ⟨g, s, c, e⟩ := h
  exact (ne_of_none e n).symm
theorem Found.same {Ts : List (Addr × Str)} {Hb H H1 : Hp} {pf : Addr} {bss : List (List Bool)} (F : Found Ts Hb pf H bss) (S : Same H H1) : Found Ts Hb pf H1 bss := by
  obtain ⟨qs, e, al, hl⟩ := F.at_
  refine ⟨F.no, F.ext.same S, F.tabs.ext S, qs, S _ _ e, ?_, hl⟩
  have := al.mono (xs := qs.map V.ref) (LamX.ExtN.of S)
  have e2 : upd H1 pf (.lst (qs.map V.ref)) = H1 := by
    funext a
    by_cases z : a = pf
    · rw [z, upd_same, S _ _ e]
    · rw [upd_ne z]
  rw [e2] at this
  exact this
def EltR (R : Hp → V → Prop) (H0 : Hp) (σ : L2.St) (t : L2.TE) : Prop := ∀ H Q, Same H0 H → (∀ v H', Same H H' → R H' v → Q v H') → t σ H Q
def EltsR (R : Hp → V → Prop) (c : Nat) (H0 : Hp) (σ : L2.St) (t : L2.TA) : Prop := ∀ H Q, Same H0 H → (∀ vs H', Same H H' → vs.length = c → (∀ y ∈ vs, R H' y) → Q vs H') → t σ H Q
section
variable {R : Hp → V → Prop} {H0 : Hp} {σ : L2.St} {c : Nat}
theorem er_nil : EltsR R 0 H0 σ tNil := fun H Q S k => k _ _ (Same.refl H) rfl fun y hy => nomatch hy
theorem er_cons (st : ∀ H H' y, R H y → Same H H' → R H' y) {t : L2.TE} {ts : L2.TA} (h : EltR R H0 σ t) (hs : EltsR R c H0 σ ts) : EltsR R (c + 1) H0 σ (tCons t ts) := fun H Q S k =>
  h H _ S fun v H1 S1 o => hs H1 _ (S.trans S1) fun vs H2 S2 l os => k _ _ (S1.trans S2) (by rw [List.length_cons, l]) fun y hy => by
    rcases List.mem_cons.mp hy with e | e
    · rw [e]; exact st _ _ _ o S2
    · exact os y e
theorem er_c {v : V} (h : ∀ H, R H v) : EltR R H0 σ (tC v) := fun H Q S k => k _ _ (Same.refl H) (h H)
theorem pick_els {K : PySem.W.Frag} {b : Addr} {j : Nat} {t : L2.TA} {H : Hp} {Q : VK} (hb : BagAt b H) (h0 : σ[j]? = some (some (.ref b))) (h : EltsR R c H σ t) (c0 : 0 < c) (c1 : c < 1000) (st : ∀ H H' y, R H y → Keep (J b) H H' → R H' y)
    (k : ∀ y H', Keep (J b) H H' → BagAt b H' → R H' y → Q y H') : tCall (spPick K) [] E0 (tCons (tVar j) (tCons (tLst t) tNil)) σ H Q := by
  obtain ⟨g, s, d, e⟩ := hb
  refine ⟨_, h0, h H _ (Same.refl H) fun vs H1 S1 l ok => ⟨by rw [sizeLine_eq]; omega, fun p np => ?_⟩⟩
  have e1 := S1 _ _ e
  have ne : p ≠ b := (ne_of_none e1 np).symm
  have e2 : upd H1 p (.lst vs) b = some (bagO g s d) := by rw [upd_ne ne.symm]; exact e1
  have stb : ∀ g' c', ItemsOf K (upd (upd H1 p (.lst vs)) b (bagO g' s c')) (.ref p) vs := fun g' c' => .inl ⟨p, rfl, .inl (SqL.of (by rw [upd_ne ne]; exact upd_same))⟩
  refine ⟨b, g, s, d, .ref p, vs, rfl, e2, .inl ⟨p, rfl, .inl (SqL.of upd_same)⟩, stb, by omega, by omega, fun y g' c' hy => ?_⟩
  have k1 : Keep (J b) H1 (upd (upd H1 p (.lst vs)) b (bagO g' s c')) := (Keep.new np).trans (Keep.upd rfl)
  exact k y _ ((Keep.of S1).trans k1) ⟨g', s, c', upd_same⟩ (st _ _ _ (ok y hy) k1)
end
section
variable {K : PySem.W.Frag} {b : Addr} {H0 : Hp} {σ : L2.St}
theorem eo_tup0 (hb : BagAt b H0) : EltR (Odd K b) H0 σ (tTup tNil) := fun H Q S k => ⟨Nat.zero_le _, fun p np => k _ _ (same_upd np) (odd_tup0 upd_same (bag_ne (hb.same S) np))⟩
theorem eo_dnew (hb : BagAt b H0) : EltR (Odd K b) H0 σ tDNewK := fun H Q S k p np => k _ _ (same_upd np) (odd_dK upd_same (bag_ne (hb.same S) np))
theorem eo_lst0 (hb : BagAt b H0) : EltR (Odd K b) H0 σ (tLst tNil) := fun H Q S k => ⟨Nat.zero_le _, fun p np => k _ _ (same_upd np) (odd_lst upd_same (bag_ne (hb.same S) np))⟩
theorem eo_lst2 {x y : V} (hb : BagAt b H0) : EltR (Odd K b) H0 σ (tLst (tCons (tC x) (tCons (tC y) tNil))) := fun H Q S k => ⟨by show 2 ≤ sizeLine; decide, fun p np => k _ _ (same_upd np) (odd_lst upd_same (bag_ne (hb.same S) np))⟩
theorem eo_tup2 {x y : Str} (hb : BagAt b H0) (hx : x.length ≤ sizeLine) (hy : y.length ≤ sizeLine) (wx : isWord x = true) (wy : isWord y = true) (ap : apartS x y = false) : EltR (Odd K b) H0 σ (tTup (tCons (tC (.str x)) (tCons (tC (.str y)) tNil))) := fun H Q S k =>
  ⟨by show 2 ≤ sizeLine; decide, fun p np => k _ _ (same_upd np) (odd_tup2 upd_same (bag_ne (hb.same S) np) hx hy wx wy ap)⟩
theorem eo_dS {k0 : Str} {i : Int} (hb : BagAt b H0) : EltR (Odd K b) H0 σ (tDisp [(tC (.str k0), tC (.int i))]) := fun H Q S k p np => ⟨upd_same, [(.inr k0, .int i)], rfl, by show 1 ≤ 15; decide, by
  rw [upd_upd]
  exact k _ _ (same_upd np) (odd_dK upd_same (bag_ne (hb.same S) np))⟩
end
theorem tabs_keep {Ts : List (Addr × Str)} {H H1 : Hp} {b : Addr} (h : LamX.Tabs Ts H) (hb : BagAt b H) (k : Keep (J b) H H1) : LamX.Tabs Ts H1 := fun p hp => by
  obtain ⟨g, s, d, e⟩ := hb
  obtain ⟨ps, h1, h2, h3⟩ := h p hp
  refine ⟨ps, k _ _ (ne_of h1 e (fun z => nomatch z)) h1, h2, fun pos cv hc => ?_⟩
  obtain ⟨c, e1, e2⟩ := h3 pos cv hc
  exact ⟨c, e1, k _ _ (ne_of e2 e fun z => by
    have z' : HO.ext _ = HO.lst _ := z
    cases z') e2⟩
theorem sql_far {K : PySem.W.Frag} {H Hf : Hp} {a b : Addr} {o : HO} {xs : List V} (h : SqL K H a xs) (n : H b = none) (k : KeepN b (upd H b o) Hf) : SqL K Hf a xs := by
  rcases h with (h | ⟨u, h⟩) | h
  · have ne := ne_of_none h n
    exact .inl (.inl (k _ _ ne (fun _ => by simp) (by rw [upd_ne ne]; exact h)))
  · have ne := ne_of_none h n
    exact .inl (.inr ⟨u, k _ _ ne (fun _ => by simp) (by rw [upd_ne ne]; exact h)⟩)
  · exact .inr h
section
variable {K : PySem.W.Frag} {σ : L2.St} {H : Hp}
abbrev tOnly (K : PySem.W.Frag) (i : Int) : L2.TE := tCall (spOnly K) [] E0 (tCons (tTup (tCons (tC (.int i)) tNil)) (tCons (tC (.int 14)) tNil))
theorem only_mk {i : Int} {Q : VK} (k : ∀ q H', Same H H' → H' q = some (.lst ((onlyOf [i] 14).map V.bl)) → Q (.ref q) H') : tOnly K i σ H Q :=
  ⟨by show 1 ≤ sizeLine; decide, fun t nt => ⟨t, [i], 14, rfl, SqT.of upd_same, by decide, fun H4 p4 S4 n4 h4 => k p4 H4 ((same_upd nt).trans S4) h4⟩⟩
theorem due_mk {D : Ends} (k : ∀ pd qs H', Same H H' → H' pd = some (.lst (qs.map V.ref)) → AllL H' pd qs [onlyOf [0] 14, onlyOf [0] 14, onlyOf [1] 14, onlyOf [4] 14] → D.nx (σ.set 5 (some (.ref pd))) H') :
    tAsg (tOp rCat (tOp rRep (tLst (tCons (tOnly K 0) tNil)) (tC (.int 2))) (tLst (tCons (tOnly K 1) (tCons (tOnly K 4) tNil)))) (gName 5) D σ H := by
  change tOnly K 0 σ H _
  refine only_mk fun q0 G0 S0 h0 => ⟨by show 1 ≤ sizeLine; decide, fun l1 n1 => ?_⟩
  refine ⟨l1, 2, _, rfl, rfl, upd_same, by decide, by decide, by show 1 * 2 ≤ sizeLine; decide, fun r nr => ?_⟩
  have T1 := same_upd (o := .lst [.ref q0]) n1
  have T2 := same_upd (o := .lst ((List.replicate (2 : Int).toNat [V.ref q0]).flatten)) nr
  change tOnly K 1 σ _ _
  refine only_mk fun q1 G1 S1 h1 => ?_
  change tOnly K 4 σ _ _
  refine only_mk fun q4 G4 S4 h4 => ⟨by show 2 ≤ sizeLine; decide, fun l2 n2 => ?_⟩
  have T3 := same_upd (o := .lst [.ref q1, .ref q4]) n2
  refine ⟨r, l2, _, _, rfl, rfl, T3 _ _ (S4 _ _ (S1 _ _ upd_same)), upd_same, by show 2 + 2 ≤ sizeLine; decide, fun pd npd => ?_⟩
  have T4 := same_upd (o := .lst ((List.replicate (2 : Int).toNat [V.ref q0]).flatten ++ [.ref q1, .ref q4])) npd
  have R4 := T3.trans T4
  have R1 := S4.trans R4
  have R0 := (T1.trans T2).trans (S1.trans R1)
  have e0 := R0 _ _ h0
  have e1 := R1 _ _ h1
  have e4 := R4 _ _ h4
  have z0 : q0 ≠ pd := ne_of_none (((T1.trans T2).trans (S1.trans (S4.trans T3))) _ _ h0) npd
  have z1 : q1 ≠ pd := ne_of_none ((S4.trans T3) _ _ h1) npd
  have z4 : q4 ≠ pd := ne_of_none (T3 _ _ h4) npd
  exact k pd [q0, q0, q1, q4] _ (S0.trans R0) upd_same ⟨e0, z0, e0, z0, e1, z1, e4, z4, trivial⟩
end
end K0
-- FmWalk
set_option maxRecDepth 100000
set_option maxHeartbeats 4000000
namespace FM
open PySem PySem.Spec PyProof.Rows L2
theorem walk_G {l : PySem.W.OpenLaw} {n k : Nat} {q : Program} {loose : List Str} {XP : (Str → Option Value) → Heap → Prop} {YP : World → Heap → Prop} {d : DefRec} {x : Str}
    (h1 : l.most = some n) (h2 : n ≤ sizeLine) (h3 : d.params.defaults = []) (h4 : Room k callerA) (h5 : importsNone q = true)
    (F : ∀ (w : World) (mg : Str → Option Value) (fa : Addr) (h : Heap), YP w h → h.Ns mainGlobals mg → mg d.name = some (.ref fa) →
      ∃ (K : PySem.W.Frag) (c T : Addr) (fd : FuncData) (sp : List V → Hp → VK → Prop), K.In h ∧ h.get? T = some { cls := .none, data := .fields #[] } ∧ K.lookup T = none ∧ PySem.W.CodeHd h c T ∧
        (∀ (s : Shared) (u : Value), BindsTo s fd ⟨[u], []⟩ [(x, u)]) ∧
        (∀ (H : Hp) (a : Addr) (ns : List Int), ns.length ≤ n → H T = some (.tbl #[]) → SqL K H a (ns.map V.int) → sp [.ref a] H fun v _ => v = .bl true) ∧
        ∀ base : Heap, K.In base → base.Ns mainGlobals mg → LamX.TabB base mg c T → (∃ o, base.get? sysModules = some o) → FnG l.prog w K mg base k fa fd [x] sp) :
    PySem.W.WalkO q loose XP YP l.row.toRowW d [] (fun f vs => PySem.call f vs) := by
  refine Att.attach_callB h1 h3 fun w s0 s mg mb fa o pm cd doc a vs ns G Y e1 e2 e3 e4 e5 e6 e7 e8 e9 => ?_
  obtain ⟨K, c, T, fd, sp, k1, k2, k3, k4, k5, k6, k7⟩ := F w mg fa _ Y G.T.g e4
  have bi : s.heap.BuiltinsAt mg T := by
    obtain ⟨bm, ob, b1, b2, b3, b4, b5, b6⟩ := G.T.bmain
    refine ⟨bm, ob, b1, b2, fun z => ?_, fun z => ?_, b3, b4, b5, b6⟩
    · obtain ⟨o, es, ep, e, d, _⟩ := G.T.g
      rw [← z, b3] at e; cases e; rw [b6] at d; cases d
    · rw [z, k2] at b3; cases b3; cases b6
  exact law_callG k1 G.T.g G.T.b G.T.builtins G.T.nolimit e9 k2 k3 k4 bi (by obtain ⟨mm, z, _⟩ := (G.T.seer h5).mods; exact ⟨mm, z⟩) e5 e6 (Nat.le_trans e7 h2) h4 k7 k5 fun H t s => k6 H a ns e7 t s
end FM
-- K0Top
set_option maxRecDepth 100000
set_option maxHeartbeats 2000000
namespace K0
open PySem L2 FM He
def spLaw (K : PySem.W.Frag) (Tb : Addr) : List V → Hp → VK → Prop := fun vs H Q => ∃ (a : Addr) (ns : List Int), vs = [.ref a] ∧ SqL K H a (ns.map V.int) ∧ H Tb = some (.tbl #[]) ∧ ∀ H', Q (.bl true) H'
section
variable {P : Program} {w : World} {K : PySem.W.Frag} {mg : Str → Option Value} {base : Heap}
theorem ok_law {f c Tb : Addr} {fd : FuncData} (F : FnP K "law" s_law f fd) (T : TL K mg) (hsm : ∃ o, base.get? sysModules = some o) (hc : fd.code = .ref c) (tab : LamX.TabB base mg c Tb) : FnG P w K mg base 7 f fd ["_law_script"] (spLaw K Tb) := by
  have TB0 : TB mg := ⟨T.b_int, T.b_len, T.b_abs, T.b_max⟩
  have TR0 : TR K mg := T.toTV.toTR
  have TP0 : TP K mg := TR0.toTP
  have TE0 : TE K mg := TP0.toTE
  obtain ⟨_, F_is_word⟩ := T.f_is_word
  obtain ⟨_, F_is_tuple_of⟩ := T.f_is_tuple_of
  obtain ⟨_, F_is_letters⟩ := T.f_is_letters
  obtain ⟨_, F_is_delay⟩ := T.f_is_delay
  obtain ⟨_, F_delay⟩ := T.f_delay
  obtain ⟨_, F_led_on⟩ := T.f_led_on
  obtain ⟨_, F_left_over⟩ := T.f_left_over
  obtain ⟨_, F__shared⟩ := T.f__shared
  obtain ⟨_, F__check_word⟩ := T.f__check_word
  obtain ⟨_, F__check_delay⟩ := T.f__check_delay
  obtain ⟨_, F__law_start⟩ := T.f__law_start
  obtain ⟨_, F__law_throw⟩ := T.f__law_throw
  obtain ⟨_, F__law_pick⟩ := T.f__law_pick
  obtain ⟨_, F__law_told⟩ := T.f__law_told
  obtain ⟨_, F__law_flags⟩ := T.f__law_flags
  obtain ⟨_, F__law_bases⟩ := T.f__law_bases
  obtain ⟨_, F__law_only⟩ := T.f__law_only
  obtain ⟨_, F__law_messages_right⟩ := T.f__law_messages_right
  obtain ⟨_, F__law_drawn_values⟩ := T.f__law_drawn_values
  obtain ⟨_, F__law_values_right⟩ := T.f__law_values_right
  obtain ⟨fdT, F__law_taken⟩ := T.f__law_taken
  obtain ⟨_, F_Rewriter⟩ := T.f_Rewriter
  have b__law_start : Binds K _ ["_law_script", "_law_at"] [] := F__law_start.bindsN fun _ _ _ _ _ _ us hl => match us, hl with | [_, _], _ => rfl
  have b__law_throw : Binds K _ ["_law_bag", "_law_total"] [] := F__law_throw.bindsN fun _ _ _ _ _ _ us hl => match us, hl with | [_, _], _ => rfl
  have b__law_pick : Binds K _ ["_law_bag", "_law_items"] [] := F__law_pick.bindsN fun _ _ _ _ _ _ us hl => match us, hl with | [_, _], _ => rfl
  have b__law_messages_right : Binds K _ ["_law_message"] [] := F__law_messages_right.bindsN fun _ _ _ _ _ _ us hl => match us, hl with | [_], _ => rfl
  have b__law_values_right : Binds K _ ["_law_bag"] [] := F__law_values_right.bindsN fun _ _ _ _ _ _ us hl => match us, hl with | [_], _ => rfl
  have b__law_only : Binds K _ ["_law_spots", "_law_total"] [] := F__law_only.bindsN fun _ _ _ _ _ _ us hl => match us, hl with | [_, _], _ => rfl
  have b_delay : Binds K _ ["word", "other"] [] := F_delay.bindsN fun _ _ _ _ _ _ us hl => match us, hl with | [_, _], _ => rfl
  have b_led_on : Binds K _ ["delay", "word", "other"] [] := F_led_on.bindsN fun _ _ _ _ _ _ us hl => match us, hl with | [_, _, _], _ => rfl
  have b_Rewriter : Binds K _ ["self", "letters", "starts", "edges", "ends"] [] := F_Rewriter.bindsN fun _ _ _ _ _ _ us hl => match us, hl with | [_, _, _, _, _], _ => rfl
  have G__law_start : FnOk P w K mg base CX0 1 _ _ _ _ := ok_start F__law_start TB0
  have G__law_pick : FnOk P w K mg base CX0 2 _ _ _ _ := ok_pick F__law_pick TB0 F__law_throw T.g__law_throw b__law_throw
  have G__law_messages_right : FnOk P w K mg base CX0 2 _ _ _ _ := ok_msg F__law_messages_right TE0 T.b_enumerate F__law_flags F__law_bases F__law_only F__law_told T.g__law_flags T.g__law_bases T.g__law_only T.g__law_told
  have G__law_values_right : FnG P w K mg base 4 _ _ _ _ := ok_right F__law_values_right T.toTV TB0 hsm F__law_flags F__law_bases F__law_only F__law_drawn_values F__law_pick F__law_throw T.g__law_flags T.g__law_bases T.g__law_only T.g__law_drawn_values T.g__law_pick T.g__law_throw
  have G__law_only : FnOk P w K mg base CX0 1 _ _ _ _ := ok_only F__law_only TE0.toTX
  have G_delay : FnOk P w K mg base (L2.CX P w) 3 _ _ _ _ := ok_delay F_delay TR0 F__check_word F_is_word F_left_over F__shared T.g_is_word T.g__check_word T.g_left_over T.g__shared
  have G_led_on : FnOk P w K mg base (L2.CX P w) 4 _ _ _ _ := ok_led_on F_led_on TR0 F__check_delay F_is_delay F_is_word F_is_tuple_of T.g_is_word T.g_is_tuple_of T.g_is_delay T.g__check_delay
  have G_Rewriter : FnOk P w K mg base (L2.CX P w) 3 _ _ _ _ := ok_Rewriter F_Rewriter TR0 F_is_letters F_is_word T.g_is_word T.g_is_letters
  have MR := T.mk_Rewriter
  have gR := T.g_Rewriter
  have gV := T.g__law_values_right
  have gTk := T.g__law_taken
  have kTk := F__law_taken.kp
  obtain ⟨oc, od, dV, kV, doc, pm, an, cdT, ct, osl, efd, lkT, hcT, _, _⟩ := id F__law_taken.ex
  subst efd
  have bTk : Binds K _ ["_law_call"] [] := F__law_taken.bindsN fun _ _ _ _ _ _ us hl => match us, hl with | [_], _ => rfl
  refine FnG.of F sc_law (fun vs H Q h => ?_) (fun cdv A outer s H vs Q hcd hg hr h => ?_)
  · obtain ⟨a, ns, rfl, _⟩ := h
    rfl
  · obtain ⟨a, ns, rfl, ha, hT, k⟩ := h
    have hcode : cdv = .ref c := hcd.symm.trans hc
    subst hcode
    have nd := sc_law.nd
    have hu64 := hr.units
    have hcode : (Value.ref c) = .ref c := rfl
    have huT : ∀ p ∈ [(Tb, (PyProof.Rows.envOfC "law" (defScope s_law) s.heap.objs.size f (.ref c)).qual ++ "<lambda>")], p.1 = Tb → p.2 = (PyProof.Rows.envOfC "law" (defScope s_law) s.heap.objs.size f (.ref c)).qual ++ "<lambda>" := fun p hp _ => by rw [List.mem_singleton.mp hp]
    have hr3 : Room 3 (A.deeper (PyProof.Rows.envOfC "law" (defScope s_law) s.heap.objs.size f (.ref c))) := hr.mono (by decide)
    have givT := fun (q : Str) => taken_gives (X := (cxOf C8.CX0 P w K mg base ["_law_script", "_law_at", "_law_bag", "_law_odd", "_law_found", "_law_due"] "law" (defScope s_law) f (.ref c) A outer s H C8.E0).nox) (q := q) (g := ga K "_law_taken") (cdg := cdT) TE0 hr3 F__law_flags T.g__law_flags
    refine ⟨_, PSs.nox (C8.pss_cut (ps_for PassesOwn.never rfl (pi_range1 (by rfl) T.b_range (pa_cons (pe_callB (call_max2 rfl) (by rfl) T.b_max (by decide +kernel) (pa_cons pe_int (pa_cons (pe_callB (call_min2 rfl) (by rfl) T.b_min (by decide +kernel) (pa_cons pe_int (pa_cons (pe_callB call_len (by rfl) T.b_len (by decide +kernel) (pa_cons (pv 0) pa_nil)) pa_nil))) pa_nil))) pa_nil)) (pg_name (i := 1) nd rfl (.inl rfl)) (C8.pss_cut (ps_set (i := 2) nd rfl (.inl rfl) (pe_call G__law_start (hr.mono (by decide)) rfl T.g__law_start F__law_start.kp b__law_start .nil pass0 (pa_cons (pv 0) (pa_cons (pv 1) pa_nil))))
      (C8.pss_cut (ps_if (pt_not (pt_val (pe_call G__law_messages_right (hr.mono (by decide)) rfl T.g__law_messages_right F__law_messages_right.kp b__law_messages_right .nil pass0 (pa_cons (pe_call G__law_pick (hr.mono (by decide)) rfl T.g__law_pick F__law_pick.kp b__law_pick .nil pass0 (pa_cons (pv 2) (pa_cons (pe_lst (pa_cons pe_str (pa_cons pe_str (pa_cons pe_str (pa_cons pe_str (pa_cons pe_str (pa_cons pe_str pa_nil))))))) pa_nil))) pa_nil)))) (pss_one (ps_ret pe_bl)) pss_nil)
      (C8.pss_cut (ps_set (i := 3) nd rfl (.inr rfl) (pe_call G__law_pick (hr.mono (by decide)) rfl T.g__law_pick F__law_pick.kp b__law_pick .nil pass0 (pa_cons (pv 2) (pa_cons (pe_lst (pa_cons pe_non (pa_cons (pe_tup pa_nil) (pa_cons pe_dnewK (pa_cons (pe_lst pa_nil) (pa_cons pe_int (pa_cons pe_bl (pa_cons pe_str (pa_cons pe_str (pa_cons pe_str (pa_cons (pe_tup (pa_cons pe_str (pa_cons pe_str pa_nil))) (pa_cons (pe_disp (pps_cons pe_str pe_int pps_nil) rfl rfl (fun z => nomatch z) (by decide)) (pa_cons (pe_lst (pa_cons pe_str (pa_cons pe_str pa_nil))) pa_nil))))))))))))) pa_nil))))
      (C8.pss_cut (ps_if (pt_not (pt_val (pe_callG G__law_values_right hg (hr.mono (by decide)) rfl gV F__law_values_right.kp b__law_values_right (pa_cons (pv 2) pa_nil)))) (pss_one (ps_ret pe_bl)) pss_nil)
      (C8.pss_cut (ps_set (i := 4) nd rfl (.inl rfl) (pe_lst (pa_cons (LamX.pe_lamcall (k := 4) rfl gTk kTk lkT hcT bTk sc__law_taken rfl (.inl rfl) (givT _) tab hcode (List.mem_singleton.mpr rfl) huT hr (LamX.lamS_by (sc := defScope s_law) (by decide +kernel)) (by rfl) (fun _ _ _ _ _ => rfl) (fun _ _ _ _ _ _ _ hrl => (pe_call G_delay (hrl.mono (by decide)) rfl T.g_delay F_delay.kp b_delay .nil (passes_call (takes_of rfl rfl rfl rfl) (fun _ _ _ _ h => h)) (pa_cons (pv 3) (pa_cons pe_str pa_nil))))) pa_nil)))
      (C8.pss_cut (ps_expr (pe_bm PySem.F.plainAttrs_list PySem.F.slot_list_append PySem.F.type_list_append mt_append (pv 4) (pa_cons (LamX.pe_lamcall (k := 4) rfl gTk kTk lkT hcT bTk sc__law_taken rfl (.inl rfl) (givT _) tab hcode (List.mem_singleton.mpr rfl) huT hr (LamX.lamS_by (sc := defScope s_law) (by decide +kernel)) (by rfl) (fun _ _ _ _ _ => rfl) (fun _ _ _ _ _ _ _ hrl => (pe_call G_delay (hrl.mono (by decide)) rfl T.g_delay F_delay.kp b_delay .nil (passes_call (takes_of rfl rfl rfl rfl) (fun _ _ _ _ h => h)) (pa_cons pe_str (pa_cons (pv 3) pa_nil))))) pa_nil)))
      (C8.pss_cut (ps_expr (pe_bm PySem.F.plainAttrs_list PySem.F.slot_list_append PySem.F.type_list_append mt_append (pv 4) (pa_cons (LamX.pe_lamcall (k := 4) rfl gTk kTk lkT hcT bTk sc__law_taken rfl (.inl rfl) (givT _) tab hcode (List.mem_singleton.mpr rfl) huT hr (LamX.lamS_by (sc := defScope s_law) (by decide +kernel)) (by rfl) (fun _ _ _ _ _ => rfl) (fun _ _ _ _ _ _ _ hrl => (pe_make MR G_Rewriter (hrl.mono (by decide)) rfl gR b_Rewriter .nil (passes_call (takes_of rfl rfl rfl rfl) (fun _ _ _ _ h => h)) (pa_cons (pv 3) (pa_cons pe_dnewK (pa_cons (pe_tup pa_nil) (pa_cons pe_dnewK pa_nil))))))) pa_nil)))
      (C8.pss_cut (ps_expr (pe_bm PySem.F.plainAttrs_list PySem.F.slot_list_append PySem.F.type_list_append mt_append (pv 4) (pa_cons (LamX.pe_lamcall (k := 4) rfl gTk kTk lkT hcT bTk sc__law_taken rfl (.inl rfl) (givT _) tab hcode (List.mem_singleton.mpr rfl) huT hr (LamX.lamS_by (sc := defScope s_law) (by decide +kernel)) (by rfl) (fun _ _ _ _ _ => rfl) (fun _ _ _ _ _ _ _ hrl => (pe_call G_led_on (hrl.mono (by decide)) rfl T.g_led_on F_led_on.kp b_led_on .nil (passes_call (takes_of rfl rfl rfl rfl) (fun _ _ _ _ h => h)) (pa_cons (pv 3) (pa_cons pe_str (pa_cons pe_str pa_nil)))))) pa_nil)))
      (C8.pss_cut (ps_set (i := 5) nd rfl (.inl rfl) (pe_op op_cat (pe_op op_rep (pe_lst (pa_cons (pe_call G__law_only (hr.mono (by decide)) rfl T.g__law_only F__law_only.kp b__law_only .nil pass0 (pa_cons (pe_tup (pa_cons pe_int pa_nil)) (pa_cons pe_int pa_nil))) pa_nil)) pe_int) (pe_lst (pa_cons (pe_call G__law_only (hr.mono (by decide)) rfl T.g__law_only F__law_only.kp b__law_only .nil pass0 (pa_cons (pe_tup (pa_cons pe_int pa_nil)) (pa_cons pe_int pa_nil))) (pa_cons (pe_call G__law_only (hr.mono (by decide)) rfl T.g__law_only F__law_only.kp b__law_only .nil pass0 (pa_cons (pe_tup (pa_cons pe_int pa_nil)) (pa_cons pe_int pa_nil))) pa_nil)))))
      (pss_one (ps_if (pt_cmpR (op_neD hu64) (pv 4) (pv 5) (nomark _)) (pss_one (ps_ret pe_bl)) pss_nil))))))))))))
      (pss_one (ps_ret (pe_and (pe_cmpR (op_eqD hu64) (LamX.pe_lamcall (k := 4) rfl gTk kTk lkT hcT bTk sc__law_taken rfl (.inl rfl) (givT _) tab hcode (List.mem_singleton.mpr rfl) huT hr (LamX.lamS_by (sc := defScope s_law) (by decide +kernel)) (by rfl) (fun _ _ _ _ _ => rfl) (fun _ _ _ _ _ _ _ hrl => (pe_call G_delay (hrl.mono (by decide)) rfl T.g_delay F_delay.kp b_delay .nil (passes_call (takes_of rfl rfl rfl rfl) (fun _ _ _ _ h => h)) (pa_cons pe_str (pa_cons pe_str pa_nil))))) (pe_lst pa_nil) (nomark _)) (pe_one (pe_cmpR op_eq (pe_xv (mk_NothingToUndo TE0 (hr.mono (by decide)) (by rfl) (pe_op op_powW pe_int pe_int))) (pe_op op_powW pe_int pe_int) (nomark _))))))), ?_⟩
    let TT : List (Addr × Str) := [(Tb, (PyProof.Rows.envOfC "law" (defScope s_law) s.heap.objs.size f (.ref c)).qual ++ "<lambda>")]
    have tabs0 : LamX.Tabs TT H := fun p hp => by
      rw [List.mem_singleton.mp hp]
      exact LamX.TabS.nil hT
    have hnn : (ns.map V.int).length = ns.length := by simp
    refine ⟨fun σ H1 => (∃ u1 u2 u3 u4 u5, σ = [some (.ref a), u1, u2, u3, u4, u5]) ∧ LamX.Tabs TT H1, ?_, ?_⟩
    · refine ⟨_, rfl, _, _, rfl, .inl ⟨_, ha, rfl⟩, _, _, rfl, _, _, rfl, _, rfl, ?_, ?_, ?_⟩
      · split <;> split <;> omega
      · rw [hnn]
        have : (ns.length : Int) < 2 ^ 62 ∨ ¬ (ns.length : Int) < 2 ^ 62 := Decidable.em _
        split <;> split <;> omega
      refine for_range (lo := 0) (fun i σ H' => (∃ u1 u2 u3 u4 u5, σ = [some (.ref a), u1, u2, u3, u4, u5]) ∧ LamX.Tabs TT H' ∧ SqL K H' a (ns.map V.int)) ⟨⟨_, _, _, _, _, rfl⟩, tabs0, ha⟩ ?_ (fun σ H' h => ⟨h.1, h.2.1⟩)
      rintro i σ H' hi ⟨⟨u1, u2, u3, u4, u5, rfl⟩, tb1, sq1⟩
      -- the bag
      refine ⟨fun σ H2 => ∃ b, σ = [some (.ref a), some (.int (i : Nat)), some (.ref b), u3, u4, u5] ∧ BagAt b H2 ∧ LamX.Tabs TT H2 ∧ ∀ Hf, KeepN b H2 Hf → SqL K Hf a (ns.map V.int), ?_, ?_⟩
      · have e0 : (0 : Int) + (i : Int) = ((i : Nat) : Int) := Int.zero_add _
        rw [e0]
        exact ⟨_, rfl, _, rfl, a, ns, i, rfl, sq1, fun p g s c np => ⟨p, rfl, ⟨g, s, c, upd_same⟩, tb1.ext (same_upd np), fun Hf k => sql_far sq1 np k⟩⟩
      rintro σ H2 ⟨b, rfl, hb2, tb2, sq2⟩
      -- the messages
      refine ⟨fun σ H3 => σ = [some (.ref a), some (.int (i : Nat)), some (.ref b), u3, u4, u5] ∧ BagAt b H3 ∧ LamX.Tabs TT H3 ∧ Keep (J b) H2 H3, ?_, ?_⟩
      · refine pick_els (R := fun _ y => ∃ m : Str, y = .str m) (c := 6) hb2 rfl ?_ (by decide) (by decide) (fun _ _ _ h _ => h) fun y H3 k3 b3 hy => ?_
        · exact (er_cons (fun _ _ _ h _ => h) (er_c fun _ => ⟨_, rfl⟩) (er_cons (fun _ _ _ h _ => h) (er_c fun _ => ⟨_, rfl⟩) (er_cons (fun _ _ _ h _ => h) (er_c fun _ => ⟨_, rfl⟩) (er_cons (fun _ _ _ h _ => h) (er_c fun _ => ⟨_, rfl⟩) (er_cons (fun _ _ _ h _ => h) (er_c fun _ => ⟨_, rfl⟩) (er_cons (fun _ _ _ h _ => h) (er_c fun _ => ⟨_, rfl⟩) er_nil))))))
        · obtain ⟨m, rfl⟩ := hy
          refine ⟨m, rfl, fun H4 S4 => ⟨_, rfl, iteF ?_⟩⟩
          exact ⟨rfl, b3.same S4, (tabs_keep tb2 hb2 k3).ext S4, k3.trans (.of S4)⟩
      rintro σ H3 ⟨rfl, hb3, tb3, k23⟩
      -- the odd value
      refine ⟨fun σ H4 => ∃ x, σ = [some (.ref a), some (.int (i : Nat)), some (.ref b), some x, u4, u5] ∧ BagAt b H4 ∧ LamX.Tabs TT H4 ∧ Keep (J b) H3 H4 ∧ Odd K b H4 x, ?_, ?_⟩
      · refine pick_els (R := Odd K b) (c := 12) hb3 rfl ?_ (by decide) (by decide) (fun _ _ _ h k => h.keep (KeepN.keep k)) fun y H4 k4 b4 hy => ?_
        · exact (er_cons (fun _ _ _ h S => h.keep (KeepN.ext (LamX.ExtN.of S))) (er_c fun _ => odd_non) (er_cons (fun _ _ _ h S => h.keep (KeepN.ext (LamX.ExtN.of S))) (eo_tup0 hb3) (er_cons (fun _ _ _ h S => h.keep (KeepN.ext (LamX.ExtN.of S))) (eo_dnew hb3) (er_cons (fun _ _ _ h S => h.keep (KeepN.ext (LamX.ExtN.of S))) (eo_lst0 hb3) (er_cons (fun _ _ _ h S => h.keep (KeepN.ext (LamX.ExtN.of S))) (er_c fun _ => odd_int) (er_cons (fun _ _ _ h S => h.keep (KeepN.ext (LamX.ExtN.of S))) (er_c fun _ => odd_bl) (er_cons (fun _ _ _ h S => h.keep (KeepN.ext (LamX.ExtN.of S))) (er_c fun _ => odd_str (by decide +kernel) (by decide +kernel)) (er_cons (fun _ _ _ h S => h.keep (KeepN.ext (LamX.ExtN.of S))) (er_c fun _ => odd_str (by decide +kernel) (by decide +kernel)) (er_cons (fun _ _ _ h S => h.keep (KeepN.ext (LamX.ExtN.of S))) (er_c fun _ => odd_str (by decide +kernel) (by decide +kernel)) (er_cons (fun _ _ _ h S => h.keep (KeepN.ext (LamX.ExtN.of S))) (eo_tup2 hb3 (by decide +kernel) (by decide +kernel) (by decide +kernel) (by decide +kernel) (by decide +kernel)) (er_cons (fun _ _ _ h S => h.keep (KeepN.ext (LamX.ExtN.of S))) (eo_dS hb3) (er_cons (fun _ _ _ h S => h.keep (KeepN.ext (LamX.ExtN.of S))) (eo_lst2 hb3) er_nil))))))))))))
        · exact ⟨y, rfl, b4, tabs_keep tb3 hb3 k4, k4, hy⟩
      rintro σ H4 ⟨x, rfl, hb4, tb4, k34, od4⟩
      -- the values
      refine ⟨fun σ H5 => σ = [some (.ref a), some (.int (i : Nat)), some (.ref b), some x, u4, u5] ∧ BagAt b H5 ∧ LamX.Tabs TT H5 ∧ Keep (J b) H4 H5, ?_, ?_⟩
      · exact ⟨_, rfl, b, rfl, hb4, fun H5 k5 b5 => ⟨_, rfl, iteF ⟨rfl, b5, tabs_keep tb4 hb4 k5, k5⟩⟩⟩
      rintro σ H5 ⟨rfl, hb5, tb5, k45⟩
      have od := od4.keep (KeepN.keep k45)
      have sq5 : ∀ Hf, KeepN b H5 Hf → SqL K Hf a (ns.map V.int) := fun Hf k => sq2 Hf ((KeepN.keep ((k23.trans k34).trans k45)).trans k)
      clear od4 hb2 hb3 hb4 k23 k34 k45 tb1 tb2 tb3 tb4 sq1 sq2
      -- the first call that is refused
      refine ⟨fun σ H6 => ∃ pf, σ = [some (.ref a), some (.int (i : Nat)), some (.ref b), some x, some (.ref pf), u5] ∧ ∃ Hb, LamX.ExtN H5 Hb ∧ Found TT Hb pf H6 [flagsOf "InvalidText"], ?_, ?_⟩
      · refine asg_raw (cons_go (lam_fail (K := K) (x := "InvalidText") T (by decide) tb5 (LamX.ExtN.refl H5) (fun E H1 Q e hE => ⟨_, rfl, x, .str "a", rfl, .inl ⟨(od H1 (KeepN.ext e)).1, hE H1 (Same.refl H1)⟩⟩) fun H6 q e6 t6 hq nq => ⟨by show 1 ≤ sizeLine; decide, fun pf npf => ?_⟩))
        have S6 := same_upd (o := .lst [V.ref q]) npf
        exact ⟨pf, rfl, H6, e6, npf, LamX.ExtN.of S6, t6.ext S6, [q], upd_same, ⟨S6 _ _ hq, ne_of_none hq npf, trivial⟩, by show 1 ≤ 10; decide⟩
      rintro σ H6 ⟨pf, rfl, Hb, eb, F6⟩
      refine ⟨fun σ H7 => σ = [some (.ref a), some (.int (i : Nat)), some (.ref b), some x, some (.ref pf), u5] ∧ Found TT Hb pf H7 [flagsOf "InvalidText", flagsOf "InvalidText"], ?_, ?_⟩
      · exact found_app (x := "InvalidText") T rfl F6 (by show 1 ≤ 5; decide) (by decide) (fun E H1 Q e hE => ⟨_, rfl, .str "a", x, rfl, .inr (.inl ⟨.inl ⟨"a", rfl, by decide +kernel, by decide +kernel⟩, (od H1 (KeepN.ext (eb.trans e))).1, hE H1 (Same.refl H1)⟩)⟩) fun H7 F7 => ⟨rfl, F7⟩
      rintro σ H7 ⟨rfl, F7⟩
      refine ⟨fun σ H8 => σ = [some (.ref a), some (.int (i : Nat)), some (.ref b), some x, some (.ref pf), u5] ∧ Found TT Hb pf H8 [flagsOf "InvalidText", flagsOf "InvalidText", flagsOf "InvalidRewriter"], ?_, ?_⟩
      · refine found_app (x := "InvalidRewriter") T rfl F7 (by show 2 ≤ 5; decide) (by decide) (fun E H1 Q e hE => ⟨_, rfl, fun p1 n1 => ⟨Nat.zero_le _, fun p2 n2 => fun p3 n3 => fun o dx no ndx ne => ?_⟩⟩) fun H8 F8 => ⟨rfl, F8⟩
        have S1 := same_upd (o := .dK []) n1
        have S2 := same_upd (o := .tup []) n2
        have S3 := same_upd (o := .dK []) n3
        have S4 := same_upd (o := .own o) ndx
        have n5 : upd (upd (upd (upd H1 p1 (.dK [])) p2 (.tup [])) p3 (.dK [])) dx (.own o) o = none := by
          rw [upd_ne ne.symm]
          exact no
        have S5 := same_upd (o := .ins (ga K "Rewriter") dx []) n5
        have S := (((S1.trans S2).trans S3).trans S4).trans S5
        exact ⟨.ref o, x, .ref p1, .ref p2, .ref p3, rfl, (od _ (KeepN.ext ((eb.trans e).same S))).1, hE _ S⟩
      rintro σ H8 ⟨rfl, F8⟩
      refine ⟨fun σ H9 => σ = [some (.ref a), some (.int (i : Nat)), some (.ref b), some x, some (.ref pf), u5] ∧ Found TT Hb pf H9 [flagsOf "InvalidText", flagsOf "InvalidText", flagsOf "InvalidRewriter", flagsOf "InvalidOperation"], ?_, ?_⟩
      · exact found_app (x := "InvalidOperation") T rfl F8 (by show 3 ≤ 5; decide) (by decide) (fun E H1 Q e hE => ⟨_, rfl, x, .str "", .str "", rfl, (od H1 (KeepN.ext (eb.trans e))).2, fun H' S => hE H' S⟩) fun H9 F9 => ⟨rfl, F9⟩
      rintro σ H9 ⟨rfl, F9⟩
      refine ⟨fun σ H10 => ∃ pd qs, σ = [some (.ref a), some (.int (i : Nat)), some (.ref b), some x, some (.ref pf), some (.ref pd)] ∧ Found TT Hb pf H10 [flagsOf "InvalidText", flagsOf "InvalidText", flagsOf "InvalidRewriter", flagsOf "InvalidOperation"] ∧ H10 pd = some (.lst (qs.map V.ref)) ∧ AllL H10 pd qs [onlyOf [0] 14, onlyOf [0] 14, onlyOf [1] 14, onlyOf [4] 14], ?_, ?_⟩
      · exact due_mk fun pd qs H10 S10 e10 al => ⟨pd, qs, rfl, F9.same S10, e10, al⟩
      rintro σ H10 ⟨pd, qs, rfl, F10, e10, al⟩
      obtain ⟨ps, ep, ap, _⟩ := F10.at_
      refine ⟨_, rfl, _, rfl, ne_ll ep ap e10 al (by decide) ⟨_, rfl, iteF ?_⟩⟩
      exact ⟨⟨_, _, _, _, _, rfl⟩, F10.tabs, sq5 _ (KeepN.ext (eb.trans F10.ext))⟩
    · rintro σ H1 ⟨⟨u1, u2, u3, u4, u5, rfl⟩, tb1⟩
      refine ⟨tb1, fun H2 e2 t2 => ⟨.str "", .str "", rfl, .inr (.inr ⟨"", "", rfl, rfl, by decide +kernel, by decide +kernel, by decide +kernel, by decide +kernel, fun H3 p S3 n3 h3 => ⟨by show 0 ≤ sizeLine; decide, fun p2 n2 => ?_⟩⟩)⟩⟩
      refine ⟨by show 0 ≤ sizeLine; decide, fun p3 n3 => ⟨.list [], .list [], .lst (SqL.of (xs := []) (by rw [upd_ne (ne_of_none upd_same n3)]; exact upd_same)) .nil, .lst (SqL.of (xs := []) upd_same) .nil, by decide +kernel, by decide +kernel, ?_⟩⟩
      have e1 : PyData.eqv (.list []) (.list []) = true := by decide +kernel
      rw [e1]
      refine ⟨true, rfl, iteT ?_⟩
      have hp : CPowW 10 39 := ⟨by decide, by decide +kernel⟩
      refine ⟨10, 39, rfl, rfl, hp, fun o d no nd ne => ?_⟩
      refine ⟨o, ga K "NothingToUndo", d, _, _, rfl, upd_same, by rw [upd_ne ne]; exact upd_same, OxC.xf TE0.ox_NothingToUndo, TE0.no_NothingToUndo, by rfl, ?_⟩
      refine ⟨10, 39, rfl, rfl, hp, rfl, ?_⟩
      rw [decide_eq_true rfl]
      exact k _
end
end K0
-- FmOx
set_option maxRecDepth 100000
set_option maxHeartbeats 4000000
/-! OxC and ExcC, found out by evaluation. -/
namespace FM
open PySem PySem.Spec PyProof.Rows L2
def oxShape (K : PySem.W.Frag) (C : Addr) (bm : List Value) (nI : String) : Bool :=
  match K.lookup C with
  | some ⟨.type "type", _, .cls cd, sl⟩ => (match sl.toList with
    | [_, _, _, _, some (.builtin n), _] => decide (n = nI) && (decide (cd.mro = .ref C :: bm) && (cd.hasDict && !cd.hasDel))
    | _ => false)
  | _ => false
def oxB (K : PySem.W.Frag) (C : Addr) (bm : List Value) (nI : String) : Bool :=
  oxShape K C bm nI && (decide (PySem.W.findIn K (.ref C) "__setattr__" = some (some (.builtin "object.__setattr__"))) &&
    (decide (PySem.W.findIn K (.ref C) "__getattribute__" = some (some (.builtin "BaseException.__getattribute__"))) &&
    (decide (PySem.W.findIn K (.ref C) "__getattr__" = some none) && (decide (PySem.W.subIn K (.ref C) (.type "BaseException") = some true) &&
    (decide (PySem.W.typeIn K (.ref C) = some (.type "type")) && (PySem.W.keepIn K (.ref C) && PySem.W.hasDictIn K C))))))
theorem oxB_ok {K : PySem.W.Frag} {C : Addr} {bm : List Value} {B nI iI : String} {bB : List Value} (F : ExcBaseFacts B nI iI bB) (c : PySem.FX.Chain B bm) (ho : bm.contains (.type "object") = true)
    (hp : ∀ (C : Addr) (self : Value), refuseLoop self "__setattr__" (.ref C :: bm) = pure ()) (h : oxB K C bm nI = true) : OxC K C := by
  unfold oxB at h
  simp only [Bool.and_eq_true, decide_eq_true_eq] at h
  obtain ⟨h0, h1, h2, h3, h4, h5, h6, h7⟩ := h
  refine ⟨⟨B, nI, iI, bB, bm, F, c, ho, hp C, ?_⟩, h1, h2, h3, h4, h5, h6, h7⟩
  unfold oxShape at h0
  split at h0
  · rename_i dd cd sl e
    split at h0
    · rename_i k0 k1 k2 k3 n k5 hs
      simp only [Bool.and_eq_true, decide_eq_true_eq, Bool.not_eq_true'] at h0
      obtain ⟨hn, hm, hd, hdel⟩ := h0
      subst hn
      obtain ⟨nm, bs, mro, ns, qn, hdct, sn, sub, ab, col, del⟩ := cd
      dsimp only at hm hd hdel
      subst hm hd hdel
      have e2 : sl = #[k0, k1, k2, k3, some (.builtin n), k5] := by
        obtain ⟨l⟩ := sl
        exact congrArg Array.mk hs
      subst e2
      exact ⟨nm, qn, ns, bs, sn, sub, ab, col, dd, k0, k1, k2, k3, k5, e⟩
    · cases h0
  · cases h0
def excB (K : PySem.W.Frag) (D : Addr) : Bool :=
  decide (PySem.W.findIn K (.ref D) "__getattribute__" = some (some (.builtin "BaseException.__getattribute__"))) && (decide (PySem.W.findIn K (.ref D) "__getattr__" = some none) &&
    (decide (PySem.W.subIn K (.ref D) (.type "BaseException") = some true) && (PySem.W.hasDictIn K D && (decide (PySem.W.findIn K (.ref D) "__class__" = some (some (.builtin "object.__class__"))) &&
    (decide (PySem.W.specialIn K (.builtin "object.__class__") "__get__" = some (some (.builtin "getset_descriptor.__get__"))) && (decide (PySem.W.takesIn K (.builtin "object.__class__") = some true) &&
    decide (PySem.W.mroIn K D (.type "object") = some true)))))))
theorem excB_ok {K : PySem.W.Frag} {D : Addr} (h : excB K D = true) : ExcC K D := by
  unfold excB at h
  simp only [Bool.and_eq_true, decide_eq_true_eq] at h
  obtain ⟨h1, h2, h3, h4, h5, h6, h7, h8⟩ := h
  exact ⟨h1, h2, h3, h4, h5, h6, h7, h8⟩
theorem goes_IndexError (C : Addr) (self : Value) : refuseLoop self "__setattr__" [.ref C, .type "IndexError", .type "LookupError", .type "Exception", .type "BaseException", .type "object"] = pure () := by kernel_rfl
theorem goes_KeyError (C : Addr) (self : Value) : refuseLoop self "__setattr__" [.ref C, .type "KeyError", .type "LookupError", .type "Exception", .type "BaseException", .type "object"] = pure () := by kernel_rfl
theorem goes_OverflowError (C : Addr) (self : Value) : refuseLoop self "__setattr__" [.ref C, .type "OverflowError", .type "ArithmeticError", .type "Exception", .type "BaseException", .type "object"] = pure () := by kernel_rfl
theorem goes_ArithmeticError (C : Addr) (self : Value) : refuseLoop self "__setattr__" [.ref C, .type "ArithmeticError", .type "Exception", .type "BaseException", .type "object"] = pure () := by kernel_rfl
theorem goes_RuntimeError (C : Addr) (self : Value) : refuseLoop self "__setattr__" [.ref C, .type "RuntimeError", .type "Exception", .type "BaseException", .type "object"] = pure () := by kernel_rfl
theorem goes_LookupError (C : Addr) (self : Value) : refuseLoop self "__setattr__" [.ref C, .type "LookupError", .type "Exception", .type "BaseException", .type "object"] = pure () := by kernel_rfl
end FM
-- FmHook
set_option maxRecDepth 100000
set_option maxHeartbeats 2000000
/-! A Hook over a part of the heap that is gathered by names: few objects, quick to look up. -/
namespace FM
open PySem PySem.Spec PyProof.Rows L2 He
def nsAd (g : Addr → Option Obj) (a : Addr) : List Addr := match g a with
  | some ⟨_, _, .cls cd, _⟩ => [cd.ns]
  | _ => []
def cdAd (g : Addr → Option Obj) (a : Addr) : List Addr := match g a with
  | some ⟨_, _, .func fd, _⟩ => (match fd.code with
    | .ref c => [c]
    | _ => [])
  | _ => []
/-- the globals xs, their namespaces and code objects, the inits of the classes ms and their code objects -/
def gath (xs ms : List Str) (g : Addr → Option Obj) : List Addr :=
  (fun as => (fun ns => (fun is => mainGlobals :: (as ++ (ns ++ (is ++ (as ++ is).flatMap (cdAd g))))) (ms.map fun x => ma (frG g (mainGlobals :: (as ++ ns))) (ga (frG g [mainGlobals]) x) "__init__"))
    (as.flatMap (nsAd g))) (xs.map fun x => ga (frG g [mainGlobals]) x)
section
variable (xs ms : List Str) (fa : List Fa) (fn : List DefD) (tf : List Defn) (ex : PySem.W.Frag → Bool)
def obsN (g : Addr → Option Obj) : AlX := (fun K => (obsT fa fn [] K, ex K && tabsB g tf K)) (frT g (gath xs ms g))
variable {xs ms fa fn tf ex}
theorem says_of {w : World} {h : Heap} (e : obsN xs ms fa fn tf ex h.get? = valX fn [] w) : SaysX fa fn [] tf ex w h (frT h.get? (gath xs ms h.get?)) := by
  let K := frT h.get? (gath xs ms h.get?)
  have e1 : obsT fa fn [] K = valT fn [] w := congrArg Prod.fst e
  have e2 : (ex K && tabsB h.get? tf K) = true := congrArg Prod.snd e
  obtain ⟨h1, h2⟩ := ba e2
  have all : ∀ p ∈ tf, PySem.W.codeHdIn K (cT K p).1 (cT K p).2 = true ∧ ∃ o, h.get? (cT K p).2 = some o ∧ emptyTab o = true := fun p hp => by
    obtain ⟨z1, z2⟩ := ba (List.all_eq_true.mp h2 p hp)
    cases q : h.get? (cT K p).2 with
    | none => rw [q] at z2; cases z2
    | some o => rw [q] at z2; exact ⟨z1, o, rfl, z2⟩
  constructor
  · exact e1
  · exact h1
  · exact fun p hp => (all p hp).1
  · intro p hp
    obtain ⟨_, o, q, z⟩ := all p hp
    exact frT_none q z
  · intro p hp
    obtain ⟨_, o, q, z⟩ := all p hp
    rw [q, emptyTab_eq z]
variable (xs ms fa fn tf ex)
def hookN : PySem.W.Hook where
  α := AlX
  obs := fun s => obsN xs ms fa fn tf ex s.heap.get?
  val := fun w => valX fn [] w
  says := fun w h => ∃ K : PySem.W.Frag, K.In h ∧ SaysX fa fn [] tf ex w h K
  of := fun _ _ e => ⟨_, frT_in, says_of e⟩
  keeps := fun _ _ _ h k => by
    obtain ⟨K, i, c⟩ := h
    exact ⟨K, i.keeps k, c.t, c.more, c.hd, c.out, fun p hp => k _ _ (c.empty p hp)⟩
variable {xs ms fa fn tf ex}
theorem obsN_eq {g : Addr → Option Obj} {s : Shared} (h : ∀ a, g a = s.heap.get? a) : obsN xs ms fa fn tf ex g = (hookN xs ms fa fn tf ex).obs s := by
  have e : g = s.heap.get? := funext h
  rw [e]
  rfl
end
end FM
-- K0Head
set_option maxRecDepth 100000
set_option maxHeartbeats 0
namespace K0H
open PySem PySem.Spec PyProof.Rows L2 FM He K0
def d_is_word : DefD := ⟨("is_word", none), "is_word", "is_word", defArgs s_is_word, defBody s_is_word, defScope s_is_word, [], []⟩
def d_is_tuple_of : DefD := ⟨("is_tuple_of", none), "is_tuple_of", "is_tuple_of", defArgs s_is_tuple_of, defBody s_is_tuple_of, defScope s_is_tuple_of, [], []⟩
def d_is_letters : DefD := ⟨("is_letters", none), "is_letters", "is_letters", defArgs s_is_letters, defBody s_is_letters, defScope s_is_letters, [], []⟩
def d_is_delay : DefD := ⟨("is_delay", none), "is_delay", "is_delay", defArgs s_is_delay, defBody s_is_delay, defScope s_is_delay, [], []⟩
def d_delay : DefD := ⟨("delay", none), "delay", "delay", defArgs s_delay, defBody s_delay, defScope s_delay, [], []⟩
def d_led_on : DefD := ⟨("led_on", none), "led_on", "led_on", defArgs s_led_on, defBody s_led_on, defScope s_led_on, [], []⟩
def d_left_over : DefD := ⟨("left_over", none), "left_over", "left_over", defArgs s_left_over, defBody s_left_over, defScope s_left_over, [], []⟩
def d__shared : DefD := ⟨("_shared", none), "_shared", "_shared", defArgs s__shared, defBody s__shared, defScope s__shared, [], []⟩
def d__check_word : DefD := ⟨("_check_word", none), "_check_word", "_check_word", defArgs s__check_word, defBody s__check_word, defScope s__check_word, [], []⟩
def d__check_delay : DefD := ⟨("_check_delay", none), "_check_delay", "_check_delay", defArgs s__check_delay, defBody s__check_delay, defScope s__check_delay, [], []⟩
def d__law_start : DefD := ⟨("_law_start", none), "_law_start", "_law_start", defArgs sStart, defBody sStart, defScope sStart, [], []⟩
def d__law_throw : DefD := ⟨("_law_throw", none), "_law_throw", "_law_throw", defArgs sThrow, defBody sThrow, defScope sThrow, [], []⟩
def d__law_pick : DefD := ⟨("_law_pick", none), "_law_pick", "_law_pick", defArgs sPick, defBody sPick, defScope sPick, [], []⟩
def d__law_told : DefD := ⟨("_law_told", none), "_law_told", "_law_told", defArgs s__law_told, defBody s__law_told, defScope s__law_told, [], []⟩
def d__law_flags : DefD := ⟨("_law_flags", none), "_law_flags", "_law_flags", defArgs s__law_flags, defBody s__law_flags, defScope s__law_flags, [], []⟩
def d__law_bases : DefD := ⟨("_law_bases", none), "_law_bases", "_law_bases", defArgs s__law_bases, defBody s__law_bases, defScope s__law_bases, [], []⟩
def d__law_only : DefD := ⟨("_law_only", none), "_law_only", "_law_only", defArgs s__law_only, defBody s__law_only, defScope s__law_only, [], []⟩
def d__law_messages_right : DefD := ⟨("_law_messages_right", none), "_law_messages_right", "_law_messages_right", defArgs s__law_messages_right, defBody s__law_messages_right, defScope s__law_messages_right, [], []⟩
def d__law_drawn_values : DefD := ⟨("_law_drawn_values", none), "_law_drawn_values", "_law_drawn_values", defArgs s__law_drawn_values, defBody s__law_drawn_values, defScope s__law_drawn_values, [], []⟩
def d__law_values_right : DefD := ⟨("_law_values_right", none), "_law_values_right", "_law_values_right", defArgs s__law_values_right, defBody s__law_values_right, defScope s__law_values_right, [], []⟩
def d__law_taken : DefD := ⟨("_law_taken", none), "_law_taken", "_law_taken", defArgs s__law_taken, defBody s__law_taken, defScope s__law_taken, [], []⟩
def d_law : DefD := ⟨("law", none), "law", "law", defArgs s_law, defBody s_law, defScope s_law, [], []⟩
def d_InvalidNumber : DefD := ⟨("InvalidNumber", some "__init__"), "__init__", "InvalidNumber.__init__", defArgs (inClass (top 11) 0), defBody (inClass (top 11) 0), defScope (inClass (top 11) 0), [], []⟩
def d_UnknownName : DefD := ⟨("UnknownName", some "__init__"), "__init__", "UnknownName.__init__", defArgs (inClass (top 12) 0), defBody (inClass (top 12) 0), defScope (inClass (top 12) 0), [], []⟩
def d_TooMany : DefD := ⟨("TooMany", some "__init__"), "__init__", "TooMany.__init__", defArgs (inClass (top 13) 0), defBody (inClass (top 13) 0), defScope (inClass (top 13) 0), [], []⟩
def d_NotSingle : DefD := ⟨("NotSingle", some "__init__"), "__init__", "NotSingle.__init__", defArgs (inClass (top 14) 0), defBody (inClass (top 14) 0), defScope (inClass (top 14) 0), [], []⟩
def d_NeedsMarks : DefD := ⟨("NeedsMarks", some "__init__"), "__init__", "NeedsMarks.__init__", defArgs (inClass (top 15) 0), defBody (inClass (top 15) 0), defScope (inClass (top 15) 0), [], []⟩
def d_NothingToUndo : DefD := ⟨("NothingToUndo", some "__init__"), "__init__", "NothingToUndo.__init__", defArgs (inClass (top 16) 0), defBody (inClass (top 16) 0), defScope (inClass (top 16) 0), [], []⟩
def d_Rewriter : DefD := ⟨("Rewriter", some "__init__"), "__init__", "Rewriter.__init__", defArgs s_Rewriter___init__, defBody s_Rewriter___init__, defScope s_Rewriter___init__, [], []⟩
def fn0 : List DefD := [d_is_word, d_is_tuple_of, d_is_letters, d_is_delay, d_delay, d_led_on, d_left_over, d__shared, d__check_word, d__check_delay, d__law_start, d__law_throw, d__law_pick, d__law_told, d__law_flags, d__law_bases, d__law_only, d__law_messages_right, d__law_drawn_values, d__law_values_right, d__law_taken, d_law, d_InvalidNumber, d_UnknownName, d_TooMany, d_NotSingle, d_NeedsMarks, d_NothingToUndo, d_Rewriter]
def fn : List DefD := fn0
def fa0 : List Fa := [.free "isinstance", .free "range", .free "ValueError", .free "IndexError", .free "KeyError", .free "OverflowError", .free "LookupError", .free "ArithmeticError", .free "RuntimeError", .free "str", .free "tuple", .free "len", .free "all", .free "zip", .free "repr", .free "enumerate", .free "max", .free "min", .free "abs", .free "int", .glo "MarkError", .glo "InvalidText", .glo "InvalidRewriter", .glo "InvalidMachine", .glo "InvalidBook", .glo "InvalidOperation", .glo "InvalidEdit", .glo "ParseError", .glo "InvalidCommand", .glo "InvalidNumber"]
def fa1 : List Fa := [.glo "UnknownName", .glo "TooMany", .glo "NotSingle", .glo "NeedsMarks", .glo "NothingToUndo", .glo "Rewriter", .glo "is_word", .glo "is_tuple_of", .glo "is_letters", .glo "is_delay", .glo "delay", .glo "led_on", .glo "left_over", .glo "_shared", .glo "_check_word", .glo "_check_delay", .glo "_law_start", .glo "_law_throw", .glo "_law_pick", .glo "_law_told", .glo "_law_flags", .glo "_law_bases", .glo "_law_only", .glo "_law_messages_right", .glo "_law_drawn_values", .glo "_law_values_right", .glo "_law_taken", .glo "law", .str "_ALPHABET" "abcdefghijklmnopqrstuvwxyz", .int "_MOST_LETTERS" 4]
def fa2 : List Fa := [.noat "InvalidNumber" "value", .noat "UnknownName" "name", .noat "TooMany" "limit", .noat "NotSingle" "paper", .noat "NeedsMarks" "fork", .noat "NothingToUndo" "many", .mkr "Rewriter"]
def fa : List Fa := fa0 ++ fa1 ++ fa2
def tf : List Defn := [("law", none)]
def exA (K : PySem.W.Frag) : Bool := ex15.all fun x => excB K (ga K x)
def exK (K : PySem.W.Frag) : Bool := ex15.all fun x => ex14.all fun y => decide (PySem.W.kitOne K (.ref (ga K x)) (.ref (ga K y)) = some (decide (x = y)))
def exM (K : PySem.W.Frag) : Bool := ex15.all fun x => decide (PySem.W.kitOne K (.ref (ga K x)) (.ref (ga K "MarkError")) = some ((basesOf x).getD 0 false))
def exT (K : PySem.W.Frag) : Bool := ex15.all fun x => (List.range 7).all fun i => decide (PySem.W.kitOne K (.ref (ga K x)) (.type (baseTys.getD i "")) = some ((basesOf x).getD (i + 1) false))
def exV (K : PySem.W.Frag) : Bool := mark9.all fun x => PySem.W.excIn K (ga K x) veBase "ValueError.__new__" && (PySem.W.keepIn K (.ref (ga K x)) && (decide (PySem.W.typeIn K (.ref (ga K x)) = some (.type "type")) && decide (PySem.W.subIn K (.ref (ga K x)) (.type "BaseException") = some true)))
def exO (K : PySem.W.Frag) : Bool := oddEs.all fun x => decide (PySem.W.exmOne K (.ref (ga K x)) (.ref (ga K "MarkError")) = some true)
def oxInvalidNumber (K : PySem.W.Frag) : Bool := oxB K (ga K "InvalidNumber") [.type "IndexError", .type "LookupError", .type "Exception", .type "BaseException", .type "object"] "IndexError.__new__" && (decide (PySem.W.findIn K (.ref (ga K "InvalidNumber")) "__init__" = some (some (.ref (ma K (ga K "InvalidNumber") "__init__")))) && decide (PySem.W.typeIn K (.ref (ma K (ga K "InvalidNumber") "__init__")) = some (.type "function")))
def oxUnknownName (K : PySem.W.Frag) : Bool := oxB K (ga K "UnknownName") [.type "KeyError", .type "LookupError", .type "Exception", .type "BaseException", .type "object"] "LookupError.__new__" && (decide (PySem.W.findIn K (.ref (ga K "UnknownName")) "__init__" = some (some (.ref (ma K (ga K "UnknownName") "__init__")))) && decide (PySem.W.typeIn K (.ref (ma K (ga K "UnknownName") "__init__")) = some (.type "function")))
def oxTooMany (K : PySem.W.Frag) : Bool := oxB K (ga K "TooMany") [.type "OverflowError", .type "ArithmeticError", .type "Exception", .type "BaseException", .type "object"] "OverflowError.__new__" && (decide (PySem.W.findIn K (.ref (ga K "TooMany")) "__init__" = some (some (.ref (ma K (ga K "TooMany") "__init__")))) && decide (PySem.W.typeIn K (.ref (ma K (ga K "TooMany") "__init__")) = some (.type "function")))
def oxNotSingle (K : PySem.W.Frag) : Bool := oxB K (ga K "NotSingle") [.type "ArithmeticError", .type "Exception", .type "BaseException", .type "object"] "ArithmeticError.__new__" && (decide (PySem.W.findIn K (.ref (ga K "NotSingle")) "__init__" = some (some (.ref (ma K (ga K "NotSingle") "__init__")))) && decide (PySem.W.typeIn K (.ref (ma K (ga K "NotSingle") "__init__")) = some (.type "function")))
def oxNeedsMarks (K : PySem.W.Frag) : Bool := oxB K (ga K "NeedsMarks") [.type "RuntimeError", .type "Exception", .type "BaseException", .type "object"] "RuntimeError.__new__" && (decide (PySem.W.findIn K (.ref (ga K "NeedsMarks")) "__init__" = some (some (.ref (ma K (ga K "NeedsMarks") "__init__")))) && decide (PySem.W.typeIn K (.ref (ma K (ga K "NeedsMarks") "__init__")) = some (.type "function")))
def oxNothingToUndo (K : PySem.W.Frag) : Bool := oxB K (ga K "NothingToUndo") [.type "LookupError", .type "Exception", .type "BaseException", .type "object"] "LookupError.__new__" && (decide (PySem.W.findIn K (.ref (ga K "NothingToUndo")) "__init__" = some (some (.ref (ma K (ga K "NothingToUndo") "__init__")))) && decide (PySem.W.typeIn K (.ref (ma K (ga K "NothingToUndo") "__init__")) = some (.type "function")))
def ex (K : PySem.W.Frag) : Bool := exA K && (exK K && (exM K && (exT K && (exV K && (exO K && (oxInvalidNumber K && (oxUnknownName K && (oxTooMany K && (oxNotSingle K && (oxNeedsMarks K && oxNothingToUndo K))))))))))
abbrev R : PySem.W.OpenRow := PySem.W.OpenLaw.row PySem.Challenge.rw_fewmarks_k00_errors
abbrev qv : Program := PySem.W.view R.prog [109]
def names0 : List PySem.Str := [(PySem.Str.ofString "_wall"), (PySem.Str.ofString "MarkError"), (PySem.Str.ofString "InvalidText"), (PySem.Str.ofString "InvalidRewriter"), (PySem.Str.ofString "InvalidMachine"), (PySem.Str.ofString "InvalidBook"), (PySem.Str.ofString "InvalidOperation"), (PySem.Str.ofString "InvalidEdit"), (PySem.Str.ofString "ParseError"), (PySem.Str.ofString "InvalidCommand"), (PySem.Str.ofString "InvalidNumber"), (PySem.Str.ofString "UnknownName"), (PySem.Str.ofString "TooMany"), (PySem.Str.ofString "NotSingle"), (PySem.Str.ofString "NeedsMarks"), (PySem.Str.ofString "NothingToUndo"), (PySem.Str.ofString "is_integer"), (PySem.Str.ofString "is_below"), (PySem.Str.ofString "is_tuple_of"), (PySem.Str.ofString "is_letter_of"), (PySem.Str.ofString "is_state_of"), (PySem.Str.ofString "MAX_TEXT"), (PySem.Str.ofString "_ALPHABET"), (PySem.Str.ofString "_MOST_LETTERS"), (PySem.Str.ofString "is_word"), (PySem.Str.ofString "is_text"), (PySem.Str.ofString "is_letters"), (PySem.Str.ofString "is_delay"), (PySem.Str.ofString "delay"), (PySem.Str.ofString "led_on")]
def names1 : List PySem.Str := [(PySem.Str.ofString "sorted_words"), (PySem.Str.ofString "left_over"), (PySem.Str.ofString "_shared"), (PySem.Str.ofString "_check_word"), (PySem.Str.ofString "_check_delay"), (PySem.Str.ofString "check_text"), (PySem.Str.ofString "check_state"), (PySem.Str.ofString "nodes_from"), (PySem.Str.ofString "nodes_between"), (PySem.Str.ofString "first_ways"), (PySem.Str.ofString "way_to"), (PySem.Str.ofString "edges_by_state"), (PySem.Str.ofString "edges_by_start"), (PySem.Str.ofString "edges_by_end"), (PySem.Str.ofString "targets_of"), (PySem.Str.ofString "sources_of"), (PySem.Str.ofString "has_result"), (PySem.Str.ofString "lefts_along"), (PySem.Str.ofString "some_results"), (PySem.Str.ofString "_written_on"), (PySem.Str.ofString "turned_parts"), (PySem.Str.ofString "chosen_parts"), (PySem.Str.ofString "behind_parts"), (PySem.Str.ofString "numbered_parts"), (PySem.Str.ofString "_ways"), (PySem.Str.ofString "_moved"), (PySem.Str.ofString "_moved_edges"), (PySem.Str.ofString "double_steps"), (PySem.Str.ofString "start_pairs"), (PySem.Str.ofString "end_pairs")]
def names2 : List PySem.Str := [(PySem.Str.ofString "reached_among"), (PySem.Str.ofString "live_among"), (PySem.Str.ofString "double_of"), (PySem.Str.ofString "last_state"), (PySem.Str.ofString "written_before_end"), (PySem.Str.ofString "written_by"), (PySem.Str.ofString "check_single"), (PySem.Str.ofString "paper_of"), (PySem.Str.ofString "paper_between"), (PySem.Str.ofString "live_steps"), (PySem.Str.ofString "led_by_step"), (PySem.Str.ofString "_led_to_ends"), (PySem.Str.ofString "_delays_along"), (PySem.Str.ofString "_wrong_way"), (PySem.Str.ofString "_paper_of_two"), (PySem.Str.ofString "MAX_STATES"), (PySem.Str.ofString "MAX_EDGES"), (PySem.Str.ofString "MAX_WORD"), (PySem.Str.ofString "_MAX_RESULTS"), (PySem.Str.ofString "Rewriter"), (PySem.Str.ofString "check_rewriter"), (PySem.Str.ofString "made"), (PySem.Str.ofString "_is_short"), (PySem.Str.ofString "_is_table"), (PySem.Str.ofString "_is_edge"), (PySem.Str.ofString "_are_edges"), (PySem.Str.ofString "_law_start"), (PySem.Str.ofString "_law_throw"), (PySem.Str.ofString "_law_pick"), (PySem.Str.ofString "_law_told")]
def names3 : List PySem.Str := [(PySem.Str.ofString "_law_flags"), (PySem.Str.ofString "_law_bases"), (PySem.Str.ofString "_law_only"), (PySem.Str.ofString "_law_messages_right"), (PySem.Str.ofString "_law_drawn_values"), (PySem.Str.ofString "_law_values_right"), (PySem.Str.ofString "_law_taken")]
def names : List PySem.Str := names0 ++ names1 ++ names2 ++ names3
def xs0 : List PySem.Str := [(PySem.Str.ofString "MarkError"), (PySem.Str.ofString "InvalidText"), (PySem.Str.ofString "InvalidRewriter"), (PySem.Str.ofString "InvalidMachine"), (PySem.Str.ofString "InvalidBook"), (PySem.Str.ofString "InvalidOperation"), (PySem.Str.ofString "InvalidEdit"), (PySem.Str.ofString "ParseError"), (PySem.Str.ofString "InvalidCommand"), (PySem.Str.ofString "InvalidNumber"), (PySem.Str.ofString "UnknownName"), (PySem.Str.ofString "TooMany"), (PySem.Str.ofString "NotSingle"), (PySem.Str.ofString "NeedsMarks"), (PySem.Str.ofString "NothingToUndo"), (PySem.Str.ofString "Rewriter"), (PySem.Str.ofString "is_word"), (PySem.Str.ofString "is_tuple_of"), (PySem.Str.ofString "is_letters"), (PySem.Str.ofString "is_delay"), (PySem.Str.ofString "delay"), (PySem.Str.ofString "led_on"), (PySem.Str.ofString "left_over"), (PySem.Str.ofString "_shared"), (PySem.Str.ofString "_check_word"), (PySem.Str.ofString "_check_delay"), (PySem.Str.ofString "_law_start"), (PySem.Str.ofString "_law_throw"), (PySem.Str.ofString "_law_pick"), (PySem.Str.ofString "_law_told")]
def xs1 : List PySem.Str := [(PySem.Str.ofString "_law_flags"), (PySem.Str.ofString "_law_bases"), (PySem.Str.ofString "_law_only"), (PySem.Str.ofString "_law_messages_right"), (PySem.Str.ofString "_law_drawn_values"), (PySem.Str.ofString "_law_values_right"), (PySem.Str.ofString "_law_taken"), (PySem.Str.ofString "law")]
def xs : List PySem.Str := xs0 ++ xs1
def ms : List PySem.Str := [(PySem.Str.ofString "InvalidNumber"), (PySem.Str.ofString "UnknownName"), (PySem.Str.ofString "TooMany"), (PySem.Str.ofString "NotSingle"), (PySem.Str.ofString "NeedsMarks"), (PySem.Str.ofString "NothingToUndo"), (PySem.Str.ofString "Rewriter")]
abbrev hk : PySem.W.Hook := hookN xs ms fa fn tf ex
def ob (s : PySem.W.SharedT) : AlX := obsN xs ms fa fn tf ex (HandSHeadRun.getT s)
theorem ob_eq (s : PySem.W.SharedT) : ob s = hk.obs s.abs := obsN_eq (HandSHeadRun.getT_eq s)
theorem run (w : World) : HandSHeadRun.RunEq R qv hk ob 9000 names w := by
  intro os
  kernel_rfl
end K0H
-- K0Facts
set_option maxRecDepth 100000
set_option maxHeartbeats 4000000
namespace K0H
open PySem PySem.Spec PyProof.Rows L2 FM He K0
theorem all2 {α : Type} {l : List α} {f : α → Bool} (h : l.all f = true) : ∀ x ∈ l, f x = true := fun x hx => List.all_eq_true.mp h x hx
theorem facts {w : World} {K : PySem.W.Frag} {h : Heap} {mg : Str → Option Value} (X : K.In h) (G : h.Ns mainGlobals mg) (c : SaysX fa fn [] tf ex w h K) : TL K mg := by
  have d := c.t.d
  have m := c.more
  unfold ex at m
  simp only [Bool.and_eq_true] at m
  obtain ⟨mA, mK, mM, mT, mV, mO, x0, x1, x2, x3, x4, x5⟩ := m
  unfold oxInvalidNumber at x0
  simp only [Bool.and_eq_true, decide_eq_true_eq] at x0
  obtain ⟨xo0, xi0, xt0⟩ := x0
  unfold oxUnknownName at x1
  simp only [Bool.and_eq_true, decide_eq_true_eq] at x1
  obtain ⟨xo1, xi1, xt1⟩ := x1
  unfold oxTooMany at x2
  simp only [Bool.and_eq_true, decide_eq_true_eq] at x2
  obtain ⟨xo2, xi2, xt2⟩ := x2
  unfold oxNotSingle at x3
  simp only [Bool.and_eq_true, decide_eq_true_eq] at x3
  obtain ⟨xo3, xi3, xt3⟩ := x3
  unfold oxNeedsMarks at x4
  simp only [Bool.and_eq_true, decide_eq_true_eq] at x4
  obtain ⟨xo4, xi4, xt4⟩ := x4
  unfold oxNothingToUndo at x5
  simp only [Bool.and_eq_true, decide_eq_true_eq] at x5
  obtain ⟨xo5, xi5, xt5⟩ := x5
  have gl : ∀ {x : Str} (i : Nat), fa[i]? = some (.glo x) → mg x = some (.ref (ga K x)) := fun i e => glo_ok X G (d.fact i e)
  have fr : ∀ {x : Str} (i : Nat), fa[i]? = some (.free x) → mg x = none := fun i e => free_ok X G (d.fact i e)
  have v9 : ∀ x ∈ mark9, PySem.W.excIn K (ga K x) veBase "ValueError.__new__" = true ∧ PySem.W.keepIn K (.ref (ga K x)) = true ∧ PySem.W.typeIn K (.ref (ga K x)) = some (.type "type") ∧ PySem.W.subIn K (.ref (ga K x)) (.type "BaseException") = some true := fun x hx => by
    have z := all2 mV x hx
    simp only [Bool.and_eq_true, decide_eq_true_eq] at z
    exact z
  exact {
    b_isinstance := fr 0 rfl
    b_range := fr 1 rfl
    b_ValueError := fr 2 rfl
    b_IndexError := fr 3 rfl
    b_KeyError := fr 4 rfl
    b_OverflowError := fr 5 rfl
    b_LookupError := fr 6 rfl
    b_ArithmeticError := fr 7 rfl
    b_RuntimeError := fr 8 rfl
    b_str := fr 9 rfl
    b_tuple := fr 10 rfl
    b_len := fr 11 rfl
    b_all := fr 12 rfl
    b_zip := fr 13 rfl
    b_repr := fr 14 rfl
    b_enumerate := fr 15 rfl
    b_max := fr 16 rfl
    b_min := fr 17 rfl
    b_abs := fr 18 rfl
    b_int := fr 19 rfl
    g_MarkError := gl 20 rfl
    g_InvalidText := gl 21 rfl
    g_InvalidRewriter := gl 22 rfl
    g_InvalidMachine := gl 23 rfl
    g_InvalidBook := gl 24 rfl
    g_InvalidOperation := gl 25 rfl
    g_InvalidEdit := gl 26 rfl
    g_ParseError := gl 27 rfl
    g_InvalidCommand := gl 28 rfl
    g_InvalidNumber := gl 29 rfl
    g_UnknownName := gl 30 rfl
    g_TooMany := gl 31 rfl
    g_NotSingle := gl 32 rfl
    g_NeedsMarks := gl 33 rfl
    g_NothingToUndo := gl 34 rfl
    g_Rewriter := gl 35 rfl
    g_is_word := gl 36 rfl
    g_is_tuple_of := gl 37 rfl
    g_is_letters := gl 38 rfl
    g_is_delay := gl 39 rfl
    g_delay := gl 40 rfl
    g_led_on := gl 41 rfl
    g_left_over := gl 42 rfl
    g__shared := gl 43 rfl
    g__check_word := gl 44 rfl
    g__check_delay := gl 45 rfl
    g__law_start := gl 46 rfl
    g__law_throw := gl 47 rfl
    g__law_pick := gl 48 rfl
    g__law_told := gl 49 rfl
    g__law_flags := gl 50 rfl
    g__law_bases := gl 51 rfl
    g__law_only := gl 52 rfl
    g__law_messages_right := gl 53 rfl
    g__law_drawn_values := gl 54 rfl
    g__law_values_right := gl 55 rfl
    g__law_taken := gl 56 rfl
    exc := fun x hx => excB_ok (all2 mA x hx)
    kit := fun x hx y hy => of_decide_eq_true (all2 (all2 mK x hx) y hy)
    kitM := fun x hx => of_decide_eq_true (all2 mM x hx)
    kitB := fun x hx i hi => of_decide_eq_true (all2 (all2 mT x hx) i (List.mem_range.mpr hi))
    exI := fun x hx => ⟨(v9 x hx).1, (v9 x hx).2.1⟩
    tyE := fun x hx => (v9 x hx).2.2.1
    subE := fun x hx => (v9 x hx).2.2.2
    exmE := fun x hx => of_decide_eq_true (all2 mO x hx)
    ox_InvalidNumber := oxB_ok PySem.F.excBase_IndexError ⟨by decide +kernel, by decide +kernel, by decide +kernel⟩ (by decide +kernel) goes_IndexError xo0
    no_InvalidNumber := eqO_ok (d.fact 60 (f := .noat "InvalidNumber" "value") rfl)
    in_InvalidNumber := xi0
    ty_InvalidNumber := xt0
    fn_InvalidNumber := d.def_ 22 (d := d_InvalidNumber) rfl
    ox_UnknownName := oxB_ok PySem.F.excBase_LookupError ⟨by decide +kernel, by decide +kernel, by decide +kernel⟩ (by decide +kernel) goes_KeyError xo1
    no_UnknownName := eqO_ok (d.fact 61 (f := .noat "UnknownName" "name") rfl)
    in_UnknownName := xi1
    ty_UnknownName := xt1
    fn_UnknownName := d.def_ 23 (d := d_UnknownName) rfl
    ox_TooMany := oxB_ok PySem.F.excBase_OverflowError ⟨by decide +kernel, by decide +kernel, by decide +kernel⟩ (by decide +kernel) goes_OverflowError xo2
    no_TooMany := eqO_ok (d.fact 62 (f := .noat "TooMany" "limit") rfl)
    in_TooMany := xi2
    ty_TooMany := xt2
    fn_TooMany := d.def_ 24 (d := d_TooMany) rfl
    ox_NotSingle := oxB_ok PySem.F.excBase_ArithmeticError ⟨by decide +kernel, by decide +kernel, by decide +kernel⟩ (by decide +kernel) goes_ArithmeticError xo3
    no_NotSingle := eqO_ok (d.fact 63 (f := .noat "NotSingle" "paper") rfl)
    in_NotSingle := xi3
    ty_NotSingle := xt3
    fn_NotSingle := d.def_ 25 (d := d_NotSingle) rfl
    ox_NeedsMarks := oxB_ok PySem.F.excBase_RuntimeError ⟨by decide +kernel, by decide +kernel, by decide +kernel⟩ (by decide +kernel) goes_RuntimeError xo4
    no_NeedsMarks := eqO_ok (d.fact 64 (f := .noat "NeedsMarks" "fork") rfl)
    in_NeedsMarks := xi4
    ty_NeedsMarks := xt4
    fn_NeedsMarks := d.def_ 26 (d := d_NeedsMarks) rfl
    ox_NothingToUndo := oxB_ok PySem.F.excBase_LookupError ⟨by decide +kernel, by decide +kernel, by decide +kernel⟩ (by decide +kernel) goes_LookupError xo5
    no_NothingToUndo := eqO_ok (d.fact 65 (f := .noat "NothingToUndo" "many") rfl)
    in_NothingToUndo := xi5
    ty_NothingToUndo := xt5
    fn_NothingToUndo := d.def_ 27 (d := d_NothingToUndo) rfl
    c__ALPHABET := by
      obtain ⟨t, e⟩ := str_ok X G (d.fact 58 (f := .str "_ALPHABET" "abcdefghijklmnopqrstuvwxyz") rfl)
      exact ⟨_, e, ⟨t, rfl⟩⟩
    c__MOST_LETTERS := by
      obtain ⟨t, e⟩ := int_ok X G (d.fact 59 (f := .int "_MOST_LETTERS" 4) rfl)
      exact ⟨_, e, ⟨t, rfl⟩⟩
    mk_Rewriter := mkr_ok (d.fact 66 (f := .mkr "Rewriter") rfl)
    f_Rewriter := d.def_ 28 (d := d_Rewriter) rfl
    f_is_word := d.def_ 0 (d := d_is_word) rfl
    f_is_tuple_of := d.def_ 1 (d := d_is_tuple_of) rfl
    f_is_letters := d.def_ 2 (d := d_is_letters) rfl
    f_is_delay := d.def_ 3 (d := d_is_delay) rfl
    f_delay := d.def_ 4 (d := d_delay) rfl
    f_led_on := d.def_ 5 (d := d_led_on) rfl
    f_left_over := d.def_ 6 (d := d_left_over) rfl
    f__shared := d.def_ 7 (d := d__shared) rfl
    f__check_word := d.def_ 8 (d := d__check_word) rfl
    f__check_delay := d.def_ 9 (d := d__check_delay) rfl
    f__law_start := d.def_ 10 (d := d__law_start) rfl
    f__law_throw := d.def_ 11 (d := d__law_throw) rfl
    f__law_pick := d.def_ 12 (d := d__law_pick) rfl
    f__law_told := d.def_ 13 (d := d__law_told) rfl
    f__law_flags := d.def_ 14 (d := d__law_flags) rfl
    f__law_bases := d.def_ 15 (d := d__law_bases) rfl
    f__law_only := d.def_ 16 (d := d__law_only) rfl
    f__law_messages_right := d.def_ 17 (d := d__law_messages_right) rfl
    f__law_drawn_values := d.def_ 18 (d := d__law_drawn_values) rfl
    f__law_values_right := d.def_ 19 (d := d__law_values_right) rfl
    f__law_taken := d.def_ 20 (d := d__law_taken) rfl
  }
theorem gives {w : World} {K : PySem.W.Frag} {h : Heap} {mg : Str → Option Value} {f : Addr} (P : Program) (X : K.In h) (G : h.Ns mainGlobals mg) (hf : mg ("law" : Str) = some (.ref f)) (c : SaysX fa fn [] tf ex w h K) :
    ∃ (cd T : Addr) (fd : FuncData), h.get? T = some { cls := .none, data := .fields #[] } ∧ K.lookup T = none ∧ PySem.W.CodeHd h cd T ∧ (∀ (s : Shared) (u : Value), BindsTo s fd ⟨[u], []⟩ [("_law_script", u)]) ∧
      ∀ base : Heap, K.In base → base.Ns mainGlobals mg → LamX.TabB base mg cd T → (∃ o, base.get? sysModules = some o) → FnG P w K mg base 7 f fd ["_law_script"] (spLaw K T) := by
  have d := c.t.d
  have T := facts X G c
  obtain ⟨fd, F⟩ : ∃ fd, FnP K "law" s_law (ga K "law") fd := d.def_ 21 (d := d_law) rfl
  have e := hf.symm.trans (glo_ok X G (d.fact 57 (f := .glo "law") rfl))
  cases e
  have mem : (("law" : Str), (none : Option Str)) ∈ tf := List.mem_singleton.mpr rfl
  obtain ⟨oc, od, dV, kV, doc, pm, an, cdv, ct, osl, efd, lk, hcd, _, _⟩ := id F.ex
  obtain ⟨cc, ec⟩ := codeIn_ref hcd
  have hco : fd.code = .ref cc := by
    rw [efd]
    exact ec
  have e1 : codeOf K ("law", none) = cc := codeOf_eq lk hco
  have b := F.bindsN (ps := ["_law_script"]) fun _ _ _ _ _ _ us hl => match us, hl with | [_], _ => rfl
  have hd := c.hd _ mem
  refine ⟨cc, tabOf K cc, fd, ?_, ?_, ?_, ?_, ?_⟩
  · have := c.empty _ mem
    unfold cT at this
    rw [e1] at this
    exact this
  · have := c.out _ mem
    unfold cT at this
    rw [e1] at this
    exact this
  · have := hd
    unfold cT at this
    rw [e1] at this
    exact PySem.W.codeHd_of_K X this
  · exact fun s u => FunD.bindsA (ps := ["_law_script"]) F (fun _ _ _ _ _ _ us hl => match us, hl with | [_], _ => rfl) s [u] rfl
  · intro base _ _ tab sm
    exact ok_law F T sm hco tab
end K0H
-- K0End
open PySem PySem.W PySem.Calls PyProof.Rows
set_option maxRecDepth 100000 in
set_option maxHeartbeats 0 in
theorem PySem.Challenge.cw_fewmarks_k00_errors_holds : PySem.Challenge.rw_fewmarks_k00_errors.Holds := by
  w_on; o_law
  refine HandSHeadRun.head_any (r := OpenLaw.row PySem.Challenge.rw_fewmarks_k00_errors) (q := K0H.qv) (H := K0H.hk) (ob := K0H.ob) (M := 9000) (loose := K0H.names) (d := HandSHeadRun.topDef (OpenLaw.row PySem.Challenge.rw_fewmarks_k00_errors).prog 109) (kwd := []) K0H.ob_eq
    (by kernel_rfl) (fun s => by kernel_rfl) K0H.run (by kernel_rfl) (by kernel_rfl) (by kernel_rfl) (by rfl)
    (by first | assumption | decide +kernel) (by decide +kernel) ⟨rfl, rfl, rfl, rfl, rfl, by decide +kernel⟩ ?hw ?hc
  case hw => w_witness2
  case hc =>
    refine FM.walk_G (l := PySem.Challenge.rw_fewmarks_k00_errors) (n := 63) (k := 7) (x := "_law_script") rfl (by decide) (by kernel_rfl) ⟨rfl, by decide, by decide⟩ (by decide +kernel) ?F
    intro w mg fa h Y G hmg0
    obtain ⟨K, KX, c⟩ := Y
    have hmg : mg ("law" : PySem.Str) = some (.ref fa) := by
      have e : (HandSHeadRun.topDef (OpenLaw.row PySem.Challenge.rw_fewmarks_k00_errors).prog 109).name = ("law" : PySem.Str) := by kernel_rfl
      rw [← e]
      exact hmg0
    obtain ⟨cd, T, fd, h1, h2, h3, h4, h5⟩ := K0H.gives (PySem.Challenge.rw_fewmarks_k00_errors).prog KX G hmg c
    exact ⟨K, cd, T, fd, K0.spLaw K T, KX, h1, h2, h3, h4, fun H a ns hl hT hS => ⟨a, ns, rfl, hS, hT, fun _ => rfl⟩, h5⟩
